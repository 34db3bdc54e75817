import PyProof.Rows.All
import Open.Pieces
import OpenK.KLine
import PySem.Challenge.RW_tellworld_k35_the_first_rule_that_fits
import Wide.All
import OpenK.AllK
import Wide.FinOn
import PyProof.EqAt
import PyProof.EqKinds
import PyProof.TupleCall
import PyProof.StrWalks
import PyProof.ConsumeWalk
import PyProof.NeKinds
import PyProof.Rows.SetFrom
import KE.KIsAll
import PyProof.WalksMore
import PyProof.TupleKey
import PyProof.DictWalks
import PyProof.Rows.ZipGen
import KE.KDictLaws
import PyProof.DictItems
import KE.KSortTup
import PyProof.TupleOfSeq
import PyProof.Rows.SortStr
import PyProof.Rows.StrInSeq3
import PyProof.TupleIter
import KE.KDictOf
import PyProof.CollectWalk
import PyProof.Rows.SeqMore
set_option genSizeOf false
local macro_rules (kind:=Lean.Parser.Command.declaration)|s=>do
 if s.getPos?.isNone||s[1][1][0].getId.getRoot== `PySem then Lean.Macro.throwUnsupported
 let s:=s.rewriteBottomUp (·.setInfo .none)
 if s[1].getKind∈[``Lean.Parser.Command.definition,``Lean.Parser.Command.abbrev,``Lean.Parser.Command.instance]&&s[0][4].isNone then
  return s.setArg 0 (s[0].setArg 4 (Lean.mkNullNode #[Lean.Syntax.node .none ``Lean.Parser.Command.noncomputable #[Lean.mkAtom "noncomputable"]]))
 return s
set_option compiler.extract_closed false
noncomputable section
open PySem renaming wpAny_bind->af,Value->aa,Shared->ab,wpAny_pure->ao,wpAny->ae,starEach->au,Program->aq,mainGlobals->aC,sizeLine->av,Around->ar,World->aj,compareOp->aO,sizeLine_eq->aZ,SetTable->aP,wpAny_holding->bz,wpAny_setState_of->bR,wpAny_truthy_bool->b0,wpAny_mono->bt,Spec->n8,wpAny_Call_Name_kw->cK,codeAny_builtin->cu,FuncData->bq,backTo->aT,assignEach->bJ,bootBuiltins->cv,wpAny_passesOwn->dE,wpAny_pyIter_list->d0,keywordEach->cy,wpAny_newObj_type->d9,sysModules->cc,attributeBase->c9,mem_of_lookup->fo,wpAny_call_entry->eB,letOwnedTupleGo->eJ,binaryOp->bP,behindInMarks->dJ,plainId_quiet->dN,foldedSetIterable->fA,codeAny->bH,ofAClassStatement->fC,wpAny_setField->eN,swapsWith->cz,filterMap_getElem?_range->gZ,wpAny_specialOf->fH,tupleKind_room_in1->gh,codeAny_mono->eP,NameKind->cD,call_meetsIn->eQ,wpAny_Call_method->gj,Builtin->cf,wpAny_execs_nil->gw,wpAny_pyIter_tuple->ie,isSubtype_type->gx,wpAny_storeSet_of->iz,GenState->dS,wpAny_forIn_list->iE,wpAny_askSetting->iF,Paired->eU,Result->cE,Keyword->dq,Scope->bQ,wpAny_updateSeq->iK,wpAny_isTrue_Compare1->jM,wpAny_eqIsQuiet_tuple->jO,builtinLookup_eq_fast->jP,carriedByValue->iO,wpAny_seqItems->iP,typeIs_none->gH,wpAny_standAt->iU,wpAny_newList->iY,Within->i3,BindsTo->eW,seqIndex_neg->i8,slot_list_getitem->kr,wpAny_typeOf->i9,wpAny_pyIter_slot->kz,wpAny_setEpoch_of->kB,wpAny_pyHash_str->kF,wpAny_execs_cons->kG,PassesOwn->gO,noFill_tuple_add->kI,wpAny_isInstance->kO,seqIndex_of->je,wpAny_of_eq->jf,codeAny_of_tree->kS,typeLookup_type->kX,wpAny_Name->jh,Operator->gQ,wpAny_call->ji,typeIs_str->jm,PlainAttrs->jn,call_meets->jo,meets_dict_get->lh,call->jq,wpAny_runValue->lp,boot_len->lq,wpAny_newTuple->lu,entryFor_alias->lC,wpAny_rule->js,KeyKind->lG,intBits_le_64->lH,seq_tuple_add->lJ,evalPart_none->lK,call_list_seq->lL,signature?_of->lS,CmpOp->dU,Params->fU,SetFound->jv,Fin->mw
open PySem.Heap renaming get?_push_of_some->az,lt_size->aA,get?_push_size->aQ,get?_update_self->c4,size_push->bT,get?_update_other->dX,SameBut->de
open List renaming getElem?_eq_getElem->aJ,length_map->aw,mem_cons_of_mem->aG,mem_cons_self->aH,length_cons->aI,length_append->aM,size_toArray->aK,getElem?_eq_some_iff->bb,mem_cons->aF,mem_singleton->aU,all_eq_true->aS,getElem?_map->aV,mem_of_getElem?->bg,range->aL,map_cons->aW,getElem?_set->br,mem_append_right->bM,length_replicate->bN,mem_range->bh,getD_eq_getElem?_getD->cF,getElem?_append_left->cG,getElem?_append_right->cZ,length_singleton->ck,filterMap_cons->bZ,append_nil->bI,length_range->b8,mem_map->bD,length_take->b9,getElem?_drop->cM,mem_iff_getElem->c5,append_assoc->cN,find?_cons->cq,filter_cons->cP,length_set->cQ,map_append->cR,getElem?_eq_none->dY,lookup_cons->c7,zip_cons_cons->dv,zipWith_cons_cons->fj,lookup->cb,mem_append->dD,length_nil->dF,nil_append->dG,all_cons->dc,getElem?_replicate->fX,length_eq_zero_iff->fY,not_mem_nil->ee,cons_append->eG,mem_flatMap->eI,getElem?_set_self->fZ,mem_filterMap->fq,filter_append->fz,nodup_cons->eK,foldl_cons->eL,any_cons->dM,getElem?_toArray->f6,mem_append_left->f9,replicate->eM,perm_append_singleton->gX,length_drop->fE,zipWith->dR,drop_eq_getElem_cons->gY,mem_filter->fG,length_zip->fI,take_of_length_le->hG,nodup_append->gp,any_eq_true->gv,getElem?_set_ne->hU,length->eS,getElem?_range->ia,length_zipWith->ib,getElem_of_mem->ic,pairwise_iff_getElem->jB,mem_of_find?_eq_some->jD,ext_getElem?->iq,foldl_append->iu,getElem_mem->iB,getElem_inj->iC,getElem?_cons_succ->jH,drop_eq_nil_of_le->jJ,map_map->gB,of_mem_zip->iG,contains_iff_mem->jN,take_append_drop->jR,filterMap_append->jS,length_filter_le->jU,mem_of_mem_drop->jX,length_eraseIdx->jY,pairwise_append->jZ,mem_map_of_mem->j6,perm_singleton->j7,contains_cons->kg,map_filterMap->km,take_sublist->ko,take_add_one->kx,flatMap_cons->kE,nodup_range->kN,zip_append->kR,nodup_nil->lr,drop_nil->lM,map_nil->lY,rec->my
open Bool renaming and_eq_true->aE,false_ne_true->aN,eq_iff_iff->cp,false_eq_true->dZ,not_eq_true'->gq,or_eq_true->iJ,or_eq_false_iff->jW,not_eq_true->kM,false_and->lb,and_false->lg,rec->ju
open Nat renaming le_refl->ay,ne_of_lt->aD,lt_of_lt_of_le->bx,le_of_ble_eq_true->bY,zero_le->ba,lt_succ_self->bS,le_trans->bF,lt_succ_of_lt->cn,le_of_lt_succ->dA,succ_pos->cU,le_add_right->eE,lt_irrefl->dH,ne_of_gt->dQ,ble_eq->dh,mod_lt->di,le_of_lt->eO,le_succ->eR,min_self->fL,lt_of_le_of_lt->il,lt_trans->gz,sub_self->gA,ble->dr,add_right_comm->j8,zero_add->iZ,lt_trichotomy->ky,le_of_succ_le->kD,le_of_not_lt->kK,beq->fR,le_of_eq->lW,lt_or_ge->l3,pow_succ->l4
open PySem.W renaming Frag->ak,kia_one->bL,emptyDict->cW,findIn->bV,kitOne->bW,keepIn->cA,instObj->dj,kitx_list->fN,kitx_dict->gE,fnOf->cY,codeIn->eV,plainGet_of->iV,plainGet->gL,kitx_tuple->i4,callWith_K->i7,cellsFrom_some->kH,methodObj->jc,hasDictIn->jd,methodCall_KW->kQ,mg_of->fT,lookIn->gR,OpenLaw->gS,kas_sort->gU,callWith_K0->lI,takerIn->jt,kas_ask->gV,nsIn->fV,plainOver->l8,specialIn->l9,kitx_none->md,kitx_bool->me,isFn->gW
open PySem.SetTable renaming below->aR,turns->bp,insertAt->bE,runEnd->bC,bits->bA,Probe->bU,advance->eC,fits->dO,grown->fK,insertAt_perm->hJ,fill->gy,sizeAbove->kn,has->ja,layClean->kA,fresh->lj,slot->lP,leap->lQ,laid->lU
open Array renaming length_toList->bc,getElem?_toList->bu,getElem?_eq_getElem->cH,getD_eq_getD_getElem?->dt,getElem?_eq_some_iff->fW,perm_iff_toList_perm->jz,toList_push->iw,size_setIfInBounds->jF,toList_filterMap->jL,replicate->iN,size_eq_one_iff->jQ,forIn_toList->kh,size_map->lD,toList->lV,map->mx
open PyProof.Rows.F renaming plain_set_update_loop->cg,entry_set_update_loop->dW
open Option.some renaming inj->bB,injEq->nZ
open PySem.SetTable.layClean renaming free->cj
open PySem.Heap.SameBut renaming update->cm
open PySem.Around renaming under_plainId->cI,under->i5
open PySem.Calls renaming spliced_cons->cJ,spliced_nil->dw,callWith_builtin->fi,evalArgs_plain->fm,Name_function_global->jy,call_function_entry->jA
open PySem.SetTable.probe renaming go->cO
open PySem.Obj renaming data_mapFields->c6,mapSeq->bK,mapFields->dP,isFreed_of_fields->f7,cls_mapFields->iy,putSet->jr
open PySem.Builtin.List renaming listTooLong->eY,listExtendWith->jw,listLengthHint->jx,listSameRef->jG
open Prod renaming snd->bw,fst->bG
open PySem.SetTable.below renaming go->dy
open Classical renaming propDecidable->eZ,byContradiction->jC
open False renaming elim->bO
open PySem.F renaming slot_dict_get->c8,called_set->df,slot_NoneType_hash->gb,entry_dict_get->fF,slot_list_extend->gf,plainAttrs_dict->gm,plainAttrs_list->gr,sub_list_frozenset->hX,slot_list_append->ik,args_dict_get_2->ir,slot_dict_setdefault->jK,type_dict_get->iI,slot_str_startswith->jT,args_list_extend_2->jV,sub_list_set->iQ,entry_list_extend->j5,args_tuple_add_2->kc,type_list_append->kj,type_list_extend->kl,entry_tuple_add->kq,args_dict_get_3->ku,plain_list_iadd->kC,slot_tuple_add->kJ,plain_set_new->kT,slot_set_iter->kZ
open Option renaming map_some->dB,map_eq_some_iff->hE,getD_none->gu,getD_some->kL,map->mn
open Int renaming emod_lt_of_pos->fw,emod_nonneg->fJ,toNat_natCast->ix
open Ne renaming symm->bX
open Nat.succ renaming inj->fM
open PySem.SeqAt.EqAt renaming str_str->ig,of_refs->ip,same->iH,none_int->j1,none_str->j2,int_none->j3,str_none->j4,int_str->j9,str_int->ka,tuple_none->m7,tuple_bool->m8,tuple_list->m9,list_tuple->ng,none_tuple->nh,bool_tuple->ni,none_bool->nu,bool_none->nv,bool_bool->ny,tuple_int->nz,tuple_str->nD,list_none->nE,list_bool->nF,none_list->nG,bool_list->nH,int_tuple->nI,str_tuple->nJ,bool_int->nL,bool_str->nM,int_bool->nN,str_bool->nO,list_int->nP,list_str->nQ,int_list->nR,str_list->nS,int_int->nW
open PyProof.Rows renaming AllBare->cX,subscriptTail_builtinR->jI,boot_isinstance->iM,listUpdate_at->iX,SortKind->fQ,seqEpoch_at->jg,get?_update_seq->kU,entry_list_sort->kW,IntsAre->fS,Subscript_->jk,slot_list_sort->ly,args_list_sort->lA,IsTup->eX,StrsAre->nK,lt_str->nU
open PySem.Builtin.Str renaming subAt->iA
open PySem.AutoSeq1 renaming wpAny_loadPart'->jE
open LawfulBEq renaming eq_of_beq->eT
open PySem.SeqAt renaming EqAt->fO,in_listAt->kP
open PySem.Walks renaming list->fP,tuple->mi
open PySem.Moved renaming trans->gG
open PySem.Paired renaming length->iR,snoc->mh
open PySem.Shared renaming TypeIs->iW
open PySem.Code renaming isFrame->i6,frames->mf
open PySem.Str renaming ofString->jb
open PySem.Builtin.Frozenset renaming updateFrom->mB,newClass->mD,sizeOf->m4,slot0->m6
open PySem.Value renaming scannable->kY,isStrOf->lE,isInt->l6
open PySem.PassesOwn renaming never->la
open PySem.SeqAt.RcNeAt renaming lists_lengths->mC,tuples->nT,lists->nX
open PySem.EqNone renaming eq_none_none->mE,eq_none_bool->mF,eq_bool_none->mG,ne_none_none->mJ,ne_none_bool->mK,ne_bool_none->mL,eq_none_int->mO,eq_none_str->mP,eq_int_none->mQ,eq_str_none->mS,ne_none_int->mU,ne_none_str->mV,ne_int_none->mW,ne_str_none->mY
open PySem.EqMixed renaming eq_bool_str->mH,eq_str_bool->mI,ne_bool_str->mM,ne_str_bool->mN,eq_int_str->mR,eq_str_int->mT,ne_int_str->mX,ne_str_int->mZ
open PySem.SeqAt.RcAt renaming lists_lengths->m3,tuples->n4,lists->n5
open PySem.Pv renaming boot_tuple->lN,boot_list->lZ,boot_set->mj,boot_int->ml
open PySem.Builtin.Range renaming rangeSize->m5
open PySem.pickOrder renaming go->l0
open List.Pairwise renaming sublist->nq
open Prod.mk renaming inj->l5
open Sum.inr renaming inj->l7
open PySem.Heap.IsSliceOf renaming new->nV
open PySem.W.WShape renaming has->mm
open PySem.Within renaming cons->nY
open PyProof.Rows.IsTup renaming new->mr
open PySem.Heap.DictOf renaming new->n6
def ag:=@if_neg
def ah:=@if_pos
def ai:=@absurd
def aX:=@decide_eq_true_eq
def aY:=@decide_eq_false
def bj:=@decide_eq_true
def bf:=@congrArg
def gn:=@of_decide_eq_true
set_option Elab.async false
set_option linter.all false
namespace L5
open PySem PySem.W
noncomputable def pick(l:List Obj):Nat->List Addr->List Obj:=
 @my Obj (λ_=>Nat->List Addr->List Obj) (λ_ _=>[])
  (λo _ ih i as=>@my Addr (λ_=>List Obj) [] (λa r _=>@ju (λ_=>List Obj) (ih (Nat.succ i) as) (o::ih (Nat.succ i) r) (fR a i)) as) l
theorem Iw(i:Nat)(as:List Addr):pick [] i as=[]:=rfl
theorem K5(o:Obj)(l:List Obj)(i:Nat)(r:List Addr):pick (o::l) i (i::r)=o::pick l (i+1) r:=by show @ju (λ_=>List Obj) _ _ (fR i i)=_;rw[Nat.beq_refl];rfl
theorem K6(o:Obj)(l:List Obj)(i a:Nat)(r:List Addr)(h:a≠i):pick (o::l) i (a::r)=pick l (i+1) (a::r):=by
 show @ju (λ_=>List Obj) _ _ (fR a i)=_;have:fR a i=false:=by
  cases q:fR a i with
  |false=>rfl
  |true=>exact ai (Nat.eq_of_beq_eq_true q) h
 rw[this];rfl
theorem CI:∀(l:List Obj) (i:Nat) (as:List Addr),(pick l i as).length=as.length->∀j (hj:j<as.length),∃b,as[j]=i+b/\l[b]?=(pick l i as)[j]?
 |[],i,as,h,j,hj=>by rw[Iw]at h;simp at h;omega
 |o::l,i,[],h,j,hj=>by simp at hj
 |o::l,i,a::r,h,j,hj=>by
  by_cases q:a=i
  ·subst q;rw[K5]at h ⊢;cases j with
   |zero=>exact⟨0,rfl,rfl⟩
   |succ j=>obtain⟨b,e1,e2⟩:=CI l (a+1) r (by simpa using h) j (by simpa using hj);exact⟨b+1,by rw[List.getElem_cons_succ,e1];exact j8 a 1 b,by simpa using e2⟩
  ·rw[K6 _ _ _ _ _ q]at h ⊢;obtain⟨b,e1,e2⟩:=CI l (i+1) (a::r) h j hj;exact⟨b+1,by rw[e1];exact j8 i 1 b,by simpa using e2⟩
def live(o:Obj):Bool:=match o with|⟨_,_,.freed,_⟩=>false|_=>true
theorem K7{h:Heap}{as:List Addr}{K:Frag}(e:as=K.map (·.1))(x:(pick h.objs.toList 0 as,K.all λp=>live p.2)=(K.map (·.2),true)):K.In h:=by
 obtain⟨x1,x2⟩:=l5 x;refine Frag.in_of e (iq λj=>?_);rw[aV,aV];by_cases hj:j<as.length
 ·have hl:(pick h.objs.toList 0 as).length=as.length:=by rw[x1,e,aw,aw]
  obtain⟨b,e1,e2⟩:=CI _ _ _ hl j hj;have hk:j<K.length:=by rw[e,aw]at hj;exact hj
  rw[aJ hj,aJ hk,dB,dB,e1,iZ];have e3:h.objs[b]?=some (K[j].2):=by rw[<-bu,e2,x1,aV,aJ hk];rfl
  have lv:live K[j].2=true:=aS.mp x2 _ (iB hk);refine bf some ?_;unfold Heap.get?;rw[e3];revert lv;cases K[j].2 with
  |mk c d data sl=>cases data<;>intro lv<;>first|rfl|cases lv
 ·rw[dY (by omega),dY (by rw[e,aw]at hj;omega)];rfl
noncomputable def Ry(K:fU->Frag) (as:List Addr) (e:∀P,as=(K P).map (·.1)):Hook:=
 ⟨List Obj×Bool,λs=>(pick s.heap.objs.toList 0 as,true),λw=>((K w.params).map (·.2),(K w.params).all λp=>live p.2),InK K,λw s x=>K7 (e w.params) (by
  obtain⟨x1,x2⟩:=l5 x;rw[x1,<- x2]),InK.keeps⟩
end L5
section
open PySem PySem.W PyProof.Rows
local macro_rules|`(tactic|o_head ($f:ident $k $as $e))=>`(tactic|o_head ((L5.Ry $k $as (fun _=>by kernel_rfl)):W.Hook))
local macro_rules|`(command|#where)=>do
 let mut r:=#[]
 for n in [43:1641] do
  let x:=Lean.mkIdent (.mkSimple s!"tw{((Lean.Name.mkSimple "hd").str s!"o_{n}").hash}")
  r:=r.push ((<-`(command|noncomputable def $x:ident:=0)).raw.rewriteBottomUp (·.setInfo .none))
 return Lean.mkNullNode r
noncomputable section
namespace PySem.W.Fast
def tw1231981101849728929:=0
def tw14019881755177166336:=0
def tw2927743701266994305:=0
def tw16100691501515759841:=0
def tw16952672246017521922:=0
def tw18111853076867884516:=0
def tw4738809144493168741:=0
def tw17992747593157754213:=0
def tw5285976874307308294:=0
def tw12428158363243832775:=0
def tw10374632558016547081:=0
def tw15578138865412574697:=0
def tw938635154573522699:=0
def tw6350149730509908268:=0
def tw8726500145642417389:=0
def tw16828129974981846989:=0
def tw7774113678449685934:=0
def tw2379446126060486062:=0
def tw10203300007123444082:=0
def tw861502493610598483:=0
def tw3931646674687150387:=0
def tw3192783686379441939:=0
def tw55536753830339475:=0
def tw10910116569886796342:=0
def tw6061119069040073686:=0
def tw8917917961894373751:=0
def tw13084661642996705785:=0
def tw15868113528992853466:=0
def tw2706584449700448635:=0
def tw3541781463879696891:=0
def tw5114918623987374716:=0
def tw1745904855532632988:=0
def tw329941283463616030:=0
def tw7970280063559776030:=0
def tw3015425255240308799:=0
def tw7351761721107533599:=0
def tw9999315012559787636:=0
def tw4831390119030491460:=0
def tw5077561701574784760:=0
def tw124620672307182080:=0
def tw4276578197195160951:=0
def tw10327671769042200128:=0
def tw8997383693586321770:=0
def tw13347621489011750686:=0
def tw5486008376365147428:=0
def tw8869116387646983526:=0
def tw9084383144594877151:=0
def tw3149874078143834461:=0
def tw1557068044175049091:=0
def tw15514331714962229615:=0
#where
end PySem.W.Fast
end
set_option maxRecDepth 100000 in
set_option maxHeartbeats 0 in
open_top hd for PySem.Challenge.rw_tellworld_k35_the_first_rule_that_fits
end
set_option maxRecDepth 100000
namespace L2
open PySem PySem.Spec PyProof.Rows
abbrev Key:=Sum Int Str
def z8:Key->aa->Bool
 |.inl k,v=>l6 k v
 |.inr x,v=>lE x v
def RA(w:aj):Key->Int
 |.inl k=>hashInt k
 |.inr x=>hashStr w x
theorem pf:∀{k:Key} {v:aa},z8 k v=true->(∃i t,k=Sum.inl i/\v=Value.int i t)\/(∃x t,k=Sum.inr x/\v=Value.str x t)
 |.inl i,v,h=>by obtain⟨t,e⟩:=Value.isInt_shape (k:=i) (v:=v) h;exact .inl ⟨i,t,rfl,e⟩
 |.inr x,v,h=>by obtain⟨t,e⟩:=Value.isStrOf_shape (x:=x) (v:=v) h;exact .inr ⟨x,t,rfl,e⟩
theorem G3(i:Int)(t:Tok):z8 (.inl i) (.int i t)=true:=by simp[z8,l6]
theorem G4(x:Str)(t:Tok):z8 (.inr x) (.str x t)=true:=by simp[z8,lE]
theorem NN(a b:Int):decide ((Sum.inl a:Key)=Sum.inl b)=(a==b):=by
 by_cases e:a=b
 ·subst e;simp
 ·have h:¬(Sum.inl a:Key)=Sum.inl b:=λq=>e (Sum.inl.inj q);rw[aY h];exact(beq_eq_false_iff_ne.mpr e).symm
theorem NO(a b:Str):decide ((Sum.inr a:Key)=Sum.inr b)=decide (a=b):=by
 by_cases e:a=b
 ·subst e;simp
 ·have h:¬(Sum.inr a:Key)=Sum.inr b:=λq=>e (l7 q);rw[aY h,aY e]
theorem NP(a:Int)(b:Str):decide ((Sum.inl a:Key)=Sum.inr b)=false:=aY (λq=>nomatch q)
theorem NQ(a:Str)(b:Int):decide ((Sum.inr a:Key)=Sum.inl b)=false:=aY (λq=>nomatch q)
def oF(prog:aq)(w:aj):lG prog w Key where
 is:=z8
 hash:=RA w
 inj:=λv a b ha hb=>by
  rcases pf ha with ⟨i,t,rfl,rfl⟩|⟨x,t,rfl,rfl⟩
  ·rcases pf hb with ⟨j,u,rfl,e⟩|⟨y,u,rfl,e⟩
   ·injection e with e1 _;rw[e1]
   ·exact nomatch e
  ·rcases pf hb with ⟨j,u,rfl,e⟩|⟨y,u,rfl,e⟩
   ·exact nomatch e
   ·injection e with e1 _;rw[e1]
 byValue:=λk v h=>by rcases pf h with ⟨i,t,rfl,rfl⟩|⟨x,t,rfl,rfl⟩<;>rfl
 pyHash:=λhv h=>by
  rcases pf hv with ⟨i,t,rfl,rfl⟩|⟨x,t,rfl,rfl⟩
  ·exact wpAny_pyHash_int h
  ·exact kF h
 eqBool:=λhu hv h=>by
  rcases pf hu with ⟨i,t,rfl,rfl⟩|⟨x,t,rfl,rfl⟩
  ·rcases pf hv with ⟨j,u,rfl,rfl⟩|⟨y,u,rfl,rfl⟩
   ·rw[NN]at h;exact wpAny_eqBool_int h
   ·rw[NP]at h;exact j9 i t y u _ _ _ _ h
  ·rcases pf hv with ⟨j,u,rfl,rfl⟩|⟨y,u,rfl,rfl⟩
   ·rw[NQ]at h;exact ka x t j u _ _ _ _ h
   ·rw[NO]at h;exact wpAny_eqBool_str h
 «strs»:=λk x t v h=>by
  rcases pf h with ⟨i,u,rfl,e⟩|⟨y,u,rfl,e⟩
  ·exact nomatch e
  ·injection e with e1 _;subst e1;cases v<;>rfl
theorem DE(prog:aq)(w:aj)(i:Int)(t:Tok):(oF prog w).is (.inl i) (.int i t)=true:=G3 i t
theorem DF(prog:aq)(w:aj)(x:Str)(t:Tok):(oF prog w).is (.inr x) (.str x t)=true:=G4 x t
inductive V where
 |non|bl (b:Bool)|int (i:Int)|str (x:Str)|byt (b:Array UInt8)|flt (b:UInt64)|ref (a:Addr)|ty (n:String)
 deriving DecidableEq
def RelV:V->aa->Prop
 |.non,u=>u=Value.none
 |.bl b,u=>u=Value.bool b
 |.int i,u=>∃t,u=Value.int i t
 |.str x,u=>∃t,u=Value.str x t
 |.byt b,u=>∃t,u=Value.bytes b t
 |.flt b,u=>∃t,u=Value.float b t
 |.ref a,u=>u=Value.ref a
 |.ty n,u=>u=Value.type n
abbrev Vals:List V->List aa->Prop:=eU RelV
variable{us:List aa}
theorem Vals.length{xs:List V}(r:Vals xs us):xs.length=us.length:=iR r
theorem Vals.get:∀{xs:List V} {us:List aa} {i:Nat} {x:V},Vals xs us->xs[i]?=some x->∃u,us[i]?=some u/\RelV x u
 |_,_,_,_,.nil,e=>by simp at e
 |_,_,0,_,.cons r _,e=>by simp at e;subst e;exact⟨_,rfl,r⟩
 |_,_,i+1,x,.cons _ t,e=>by obtain⟨u,h1,h2⟩:=Vals.get (i:=i) (x:=x) t (by simpa using e);exact⟨u,by simpa using h1,h2⟩
variable{u:aa}
theorem Vals.set{x:V}(r:RelV x u):∀{xs:List V} {us:List aa} (i:Nat),Vals xs us->Vals (xs.set i x) (us.set i u)
 |_,_,_,.nil=>.nil
 |_,_,0,.cons _ t=>.cons r t
 |_,_,i+1,.cons q t=>.cons q (Vals.set r i t)
theorem Vals.append:∀{xs ys:List V} {us ws:List aa},Vals xs us->Vals ys ws->Vals (xs++ys) (us++ws)
 |_,_,_,_,.nil,s=>s
 |_,_,_,_,.cons r t,s=>.cons r (Vals.append t s)
theorem Vals.take:∀{xs:List V} {us:List aa} (n:Nat),Vals xs us->Vals (xs.take n) (us.take n)
 |_,_,0,_=>.nil
 |_,_,_+1,.nil=>.nil
 |_,_,n+1,.cons r t=>.cons r (Vals.take n t)
theorem Vals.drop:∀{xs:List V} {us:List aa} (n:Nat),Vals xs us->Vals (xs.drop n) (us.drop n)
 |_,_,0,r=>r
 |_,_,_+1,.nil=>.nil
 |_,_,n+1,.cons _ t=>Vals.drop n t
def vh:Option V->Option aa->Prop
 |some v,some u=>RelV v u
 |none,none=>True
 |_,_=>False
def KV{κ:Type}:List (κ×V)->List (κ×aa)->Prop:=eU λ(p:κ×V) (q:κ×aa)=>p.1=q.1/\RelV p.2 q.2
def kV:Key->V
 |.inl i=>.int i
 |.inr x=>.str x
inductive HO where
 |lst (xs:List V)
 |tup (xs:List V)
 |dK (kvs:List (Key×V))|dT (kvs:List (List Key×V))
 |set (S:Int->Bool) (n:Nat)
 |ins (C dx:Addr) (fs:List (Str×V))
 |own (x:Addr)
 |xd (fs:List (Str×V))
 |met (f x:Addr)
 |rng (lo hi:Int)
 |frz (o:Obj) (u:HO)
 |tbl (ps:Array aa)
 |ext (φ:Heap->Prop)
abbrev Hp:=Addr->Option HO
def upd(H:Hp)(a:Addr)(o:HO):Hp:=λb=>if b=a then some o else H b
variable{a:Addr}
theorem ox{H:Hp}{o:HO}:upd H a o a=some o:=by unfold upd;rw[ah rfl]
variable{b:Addr}
theorem oE{H:Hp}{o:HO}(h:b≠a):upd H a o b=H b:=by unfold upd;rw[ag h]
theorem RB{H:Hp}{o u:HO}(h:H a=some o)(h':H b=some u)(d:o≠u):a≠b:=by intro e;subst e;rw[h]at h';exact d (bB h')
theorem p9{H:Hp}{o:HO}(h:H a=some o)(h':H b=none):a≠b:=by intro e;subst e;rw[h]at h';cases h'
section
variable(P:aq)(w:aj)
def pD(H:Hp)(h:Heap)(a:Addr):HO->Prop
 |.lst xs=>xs.length<=av/\∃(its:List aa) (n:Nat),Vals xs its/\h.get? a=some { cls:=.type "list", data:=.seq its.toArray n }
 |.tup xs=>xs.length<=av/\∃its:List aa,Vals xs its/\eX h a its.toArray
 |.dK kvs=>kvs.length<=av/\(a==cc)=false/\∃vs,KV kvs vs/\h.DictOf (oF P w) a vs
 |.dT kvs=>kvs.length<=av/\(a==cc)=false/\∃xs:List (List Key×Addr×aa),
   eU (λ(p:List Key×V) (q:List Key×Addr×aa)=>p.1=q.1/\H q.2.1=some (.tup (p.1.map kV))/\RelV p.2 q.2.2) kvs xs/\
   ∃o es ep,h.get? a=some o/\o.ExactDict/\o.data=.dict es ep/\es.toList=xs.map (entryOfKey (tupleKind (oF P w)))/\(xs.map (·.1)).Nodup
 |.set S n=>h.SetOf (intKind P w) a S n
 |.ins C dx fs=>H dx=some (.own a)/\fs.length<=1000/\dx≠a/\h.get? a=some (dj C dx)/\
   ∃mA,h.Ns1 dx mA/\(∀f,vh (fs.lookup f) (mA f))/\i3 mA (fs.map (·.1))
 |.own _=>∃o,h.get? a=some o
 |.xd fs=>∃mA,h.Ns1 a mA/\∀f,vh (fs.lookup f) (mA f)
 |.rng lo hi=>∃t u v,h.get? a=some { cls:=.type "range", data:=.fields #[.int lo t,.int hi u,.int 1 v] }
 |.frz o u=>h.get? a=some o/\pD H h a u
 |.tbl ps=>h.get? a=some { cls:=.none,data:=.fields ps }
 |.met f x=>h.get? a=some (jc (.ref f) (.ref x))
 |.ext φ=>φ h/\(∃o,h.get? a=some o)/\∀h1 h2:Heap,φ h1->(∀o,h1.get? a=some o->h2.get? a=some o)->φ h2
def HOk(H:Hp)(h:Heap):Prop:=∀a o,H a=some o->pD P w H h a o
end
section
variable{P:aq}{w:aj}{H H':Hp}{h h':Heap}{a:Addr}{o:HO}
theorem pD.lt(x:pD P w H h a o):a<h.objs.size:=by
 cases o with
 |lst xs=>obtain⟨_,_,_,_,e⟩:=x;exact aA e
 |tup xs=>obtain⟨_,_,_,p⟩:=x;exact p.lt
 |dK kvs=>obtain⟨_,_,_,_,o,_,_,e,_⟩:=x;exact aA e
 |dT kvs=>obtain⟨_,_,_,_,o,_,_,e,_⟩:=x;exact aA e
 |set S n=>obtain⟨o,_,_,_,e,_⟩:=x;exact aA e
 |ins C dx fs=>obtain⟨_,_,_,e,_⟩:=x;exact aA e
 |own y=>obtain⟨_,e⟩:=x;exact aA e
 |xd fs=>obtain⟨_,⟨_,_,_,e,_⟩,_⟩:=x;exact aA e
 |rng lo hi=>obtain⟨_,_,_,e⟩:=x;exact aA e
 |frz ob u=>obtain⟨e,_⟩:=x;exact aA e
 |tbl ps=>exact aA (show h.get? a=some _ from x)
 |met f y=>exact aA (show h.get? a=some _ from x)
 |ext φ=>obtain⟨_,⟨_,e⟩,_⟩:=x;exact aA e
theorem Paired.mapP{α β:Type}{F G:α->β->Prop}:∀{l₁:List α} {l₂:List β},eU F l₁ l₂->(∀a b,F a b->G a b)->eU G l₁ l₂
 |_,_,.nil,_=>.nil
 |_,_,.cons r t,f=>.cons (f _ _ r) (Paired.mapP t f)
theorem pD.stay(x:pD P w H h a o)(k:∀b u,(b=a\/H b=some (.own a))->h.get? b=some u->h'.get? b=some u)
  (ho:∀b,H b=some (.own a)->H' b=some (.own a)) (ht:∀b xs,H b=some (.tup xs)->H' b=some (.tup xs)):pD P w H' h' a o:=by
 induction o with
 |lst xs=>obtain⟨z,its,n,r,e⟩:=x;exact⟨z,its,n,r,k _ _ (.inl rfl) e⟩
 |tup xs=>obtain⟨z,its,r,ob,e,c⟩:=x;exact⟨z,its,r,ob,k _ _ (.inl rfl) e,c⟩
 |dK kvs=>obtain⟨z,y,vs,r,ob,es,ep,e,c⟩:=x;exact⟨z,y,vs,r,ob,es,ep,k _ _ (.inl rfl) e,c⟩
 |dT kvs=>obtain⟨z,y,xs,r,ob,es,ep,e,c⟩:=x;exact⟨z,y,xs,Paired.mapP r λp q z=>⟨z.1,ht _ _ z.2.1,z.2.2⟩,ob,es,ep,k _ _ (.inl rfl) e,c⟩
 |set S n=>obtain⟨ob,es,ep,t,e,c⟩:=x;exact⟨ob,es,ep,t,k _ _ (.inl rfl) e,c⟩
 |ins C dx fs=>obtain⟨d,z,ne,e,mA,⟨od,es,ep,e2,c⟩,r⟩:=x;exact⟨ho _ d,z,ne,k _ _ (.inl rfl) e,mA,⟨od,es,ep,k _ _ (.inr d) e2,c⟩,r⟩
 |own y=>obtain⟨ob,e⟩:=x;exact⟨ob,k _ _ (.inl rfl) e⟩
 |xd fs=>obtain⟨mA,⟨od,es,ep,e,c⟩,r⟩:=x;exact⟨mA,⟨od,es,ep,k _ _ (.inl rfl) e,c⟩,r⟩
 |rng lo hi=>obtain⟨t,u,v,e⟩:=x;exact⟨t,u,v,k _ _ (.inl rfl) e⟩
 |frz ob u ih=>obtain⟨e,q⟩:=x;exact⟨k _ _ (.inl rfl) e,ih q⟩
 |tbl ps=>have e:h.get? a=some { cls:=.none,data:=.fields ps }:=x;show h'.get? a=some { cls:=.none,data:=.fields ps };exact k a _ (.inl rfl) e
 |met f y=>have e:h.get? a=some (jc (.ref f) (.ref y)):=x;show h'.get? a=some (jc (.ref f) (.ref y));exact k a _ (.inl rfl) e
 |ext φ=>obtain⟨p,⟨o,e⟩,st⟩:=x;exact⟨st _ _ p λo q=>k _ _ (.inl rfl) q,⟨o,k _ _ (.inl rfl) e⟩,st⟩
theorem HOk.lt(x:HOk P w H h)(e:H a=some o):a<h.objs.size:=(x a o e).lt
theorem HOk.fresh(x:HOk P w H h)(e:h.objs.size<=a):H a=none:=by
 cases q:H a with
 |none=>rfl
 |some u=>exact ai (bx (x.lt q) e) (dH _)
theorem HOk.kept(x:HOk P w H h)(k:∀b u,h.get? b=some u->h'.get? b=some u):HOk P w H h':=λa o e=>
 (x a o e).stay (λb u _ q=>k b u q) (λ_ q=>q) λ_ _ q=>q
theorem HOk.laid(x:HOk P w H h)(k:∀b u,h.get? b=some u->h'.get? b=some u)(hp:h.objs.size<=a)(new:pD P w (upd H a o) h' a o):HOk P w (upd H a o) h':=λb u e=>by
 have hn:=x.fresh hp;by_cases hb:b=a
 ·subst hb;rw[ox]at e;cases e;exact new
 ·rw[oE hb]at e;exact(x b u e).stay (λc v _ q=>k c v q) (λc q=>by rw[oE (p9 q hn)];exact q) λc xs q=>by rw[oE (p9 q hn)];exact q
end
def Rd(H:Hp)(a:Addr)(u:HO):Prop:=H a=some u\/∃o,H a=some (.frz o u)
theorem Rd.ok{P:aq}{w:aj}{H:Hp}{h:Heap}{u:HO}(r:Rd H a u)(x:HOk P w H h):pD P w H h a u:=by
 rcases r with r|⟨o,r⟩
 ·exact x a u r
 ·obtain⟨_,q⟩:=x a _ r;exact q
def Mut:Option HO->Prop
 |some (.lst _)=>True
 |some (.dK _)=>True
 |some (.dT _)=>True
 |some (.set _ _)=>True
 |some (.ins _ _ _)=>True
 |some (.ext _)=>True
 |_=>False
section
variable{P:aq}{w:aj}{H:Hp}{h h':Heap}{x e:Addr}{o':HO}
theorem HOk.write(ok:HOk P w H h)(mu:Mut (H x))(he:e=x\/H e=some (.own x))(k:∀b u,b≠e->h.get? b=some u->h'.get? b=some u)(heo:∃u,h'.get? e=some u)
  (new:pD P w (upd H x o') h' x o'):HOk P w (upd H x o') h':=λb u q=>by
 have nown:∀c y,H c=some (.own y)->c≠x:=λc y r z=>by subst z;rw[r]at mu;exact mu
 have ntup:∀c xs,H c=some (.tup xs)->c≠x:=λc xs r z=>by subst z;rw[r]at mu;exact mu
 by_cases hb:b=x
 ·subst hb;rw[ox]at q;cases q;exact new
 ·rw[oE hb]at q;by_cases hbe:b=e
  ·have q':H b=some (.own x):=by
    rcases he with z|z
    ·exact ai (hbe.trans z) hb
    ·rw[hbe];exact z
   rw[q]at q';cases q';obtain⟨v,hv⟩:=heo;exact⟨v,by rw[hbe];exact hv⟩
  ·refine(ok b u q).stay (λc v hc r=>k c v ?_ r) (λc r=>by rw[oE (nown c b r)];exact r) λc xs r=>by rw[oE (ntup c xs r)];exact r
   rcases hc with rfl|hc
   ·exact hbe
   ·rintro rfl;rcases he with z|z
    ·exact nown c b hc z
    ·rw[hc]at z;cases z;exact hb rfl
end
structure Un(fs ex:List Addr)(H H':Hp)(h h':Heap):Prop where
 keep:∀b o,h.get? b=some o->H b=none->b∉fs->b∉ex->h'.get? b=some o
 slot:∀b o,h.get? b=some o->H b=none->b∈fs->b∉ex->∃sl,h'.get? b=some { o with slots:=sl }
 free:∀b o,h.get? b=some o->H b=none->b∉ex->H' b=none
 there:∀b o,h.get? b=some o->b∉ex->∃o',h'.get? b=some o'
 tups:∀b xs,H b=some (.tup xs)->H' b=some (.tup xs)
 frzs:∀b o u,H b=some (.frz o u)->H' b=some (.frz o u)
 tbls:∀b ps,H b=some (.tbl ps)->∃more,H' b=some (.tbl (ps++more))
section
variable{fs fs' ex ex':List Addr}{H H1 H2:Hp}{h h1 h2 h':Heap}{a x e:Addr}{o:HO}
theorem Un.any(u:Un fs ex H H1 h h1){ob:Obj}(q:h.get? b=some ob)(n:H b=none)(hx:b∉ex):∃sl,h1.get? b=some { ob with slots:=sl }:=by
 by_cases hb:b∈fs
 ·exact u.slot b ob q n hb hx
 ·exact⟨ob.slots,u.keep b ob q n hb hx⟩
theorem Un.kept(k:∀b u,h.get? b=some u->h'.get? b=some u):Un fs ex H H h h':=
 ⟨λb ob q _ _ _=>k b ob q,λb ob q _ _ _=>⟨ob.slots,k b ob q⟩,λ_ _ _ n _=>n,λb ob q _=>⟨ob,k b ob q⟩,λ_ _ q=>q,λ_ _ _ q=>q,λ_ ps q=>⟨#[],by rw[q];simp⟩⟩
theorem Un.refl:Un fs ex H H h h:=Un.kept λ_ _ q=>q
theorem Un.laid(k:∀b u,h.get? b=some u->h'.get? b=some u)(hp:h.objs.size<=a)(hn:H a=none):Un fs ex H (upd H a o) h h' where
 keep:=λb u q _ _ _=>k b u q
 slot:=λb u q _ _ _=>⟨u.slots,k b u q⟩
 free:=λb u q n _=>by rw[oE (aD (bx (aA q) hp))];exact n
 there:=λb u q _=>⟨u,k b u q⟩
 tups:=λb xs q=>by rw[oE (p9 q hn)];exact q
 frzs:=λb u xs q=>by rw[oE (p9 q hn)];exact q
 tbls:=λb ps q=>⟨#[],by rw[oE (p9 q hn),q];simp⟩
theorem Un.write(mu:Mut (H x))(he:e=x\/H e=some (.own x))(k:∀b u,b≠e->h.get? b=some u->h'.get? b=some u)(heo:∃u,h'.get? e=some u):Un fs ex H (upd H x o) h h':=by
 have hx:∀b,H b=none->b≠x:=λb n z=>by subst z;rw[n]at mu;exact mu
 have hb:∀b,H b=none->b≠e:=λb n z=>by
  subst z;rcases he with r|r
  ·exact hx b n r
  ·rw[n]at r;cases r
 have hm:∀b u,H b=some u->¬Mut (some u)->b≠x:=λb u q nm z=>by subst z;rw[q]at mu;exact nm mu
 refine⟨λb u q n _ _=>k b u (hb b n) q,λb u q n _ _=>⟨u.slots,k b u (hb b n) q⟩,λb u q n _=>by rw[oE (hx b n)];exact n,λb u q _=>?_,
  λb xs q=>by rw[oE (hm b _ q λz=>z)];exact q,λb u xs q=>by rw[oE (hm b _ q λz=>z)];exact q,λb ps q=>⟨#[],by rw[oE (hm b _ q λz=>z),q];simp⟩⟩
 by_cases hbe:b=e
 ·subst hbe;exact heo
 ·exact⟨u,k b u hbe q⟩
end
def trk(h:Heap)(H:Hp):List Addr:=(aL h.objs.size).filter λa=>(H a).isSome
def CJ(h:Heap)(H:Hp):Heap:=W.hideAll h (trk h H)
theorem G5(h:Heap)(H:Hp):(CJ h H).objs.size=h.objs.size:=W.hideAll_size _ _
theorem Iy{h:Heap}{H:Hp}{o:Obj}(e:h.get? b=some o)(n:H b=none):(CJ h H).get? b=some o:=
 W.hideAll_get _ e λhm=>by have q:(H b).isSome=true:=(fG.mp hm).2;rw[n]at q;simp at q
theorem K8{h:Heap}{H:Hp}{o:Obj}(e:(CJ h H).get? b=some o):h.get? b=some o/\H b=none:=by
 have e':h.get? b=some o:=W.of_hideAll (trk h H) e;refine⟨e',?_⟩;cases q:H b with
 |none=>rfl
 |some x=>have hm:b∈trk h H:=fG.mpr ⟨bh.mpr (aA e'),by simp[q]⟩;have z:(CJ h H).get? b=none:=W.hideAll_none (trk h H) hm;rw[z]at e;cases e
def K9(g h:Heap)(L:Addr):List (Addr×Obj):=(aL h.objs.size).filterMap λa=>if a=L\/(g.get? a).isSome=true then none else (h.get? a).map λo=>(a,o)
def rest(g h:Heap)(L d:Addr):List (Addr×Obj):=(K9 g h L).filter λp=>decide (p.1≠d)
structure Mod(K:ak)(mg:Str->Option aa)(base:Heap):Prop where
 kin:K.In base
 glob:base.Ns aC mg
 blt:∃mb,base.Ns builtinsNs mb/\∀x:Str,x≠"__name__" -> mb x=cv x
 nolimit:base.NoLimit
structure Cx where
 prog:aq
 w:aj
 K:ak
 mg:Str->Option aa
 base:Heap
 A:ar
 N:List Str
 s₀:ab
 H₀:Hp
 env:Env
 outer:List Env
 stack:List Env
 ex:List Addr
 fn:Str->Bool
 calm:Bool
 pn:List (Addr×Obj)
 xe:aa->ab->Prop
def frs(l:List Env):List Addr:=l.filterMap (·.frame)
abbrev Cx.fs(X:Cx):List Addr:=frs X.outer
def Vis(sc:bQ)(x:Str):Prop:=sc.names.lookup x=some .local\/sc.names.lookup x=some .cell\/sc.names.lookup x=some .free
def Loc(sc:bQ)(x:Str):Prop:=sc.names.lookup x=some .local\/sc.names.lookup x=some .cell
def Look(env:Env)(h:Heap)(m:Str->Option aa)(x:Str)(u:aa):Prop:=
 (env.kindOf x=some .local/\m x=some u)\/((env.kindOf x=some .cell\/env.kindOf x=some .free)/\∃c,env.cells.lookup x=some c/\h.IsCell c (some u))
structure Cx.Ok(X:Cx):Prop where
 mod:Mod X.K X.mg X.base
 kind:X.env.scope.kind=.function
 glob:X.env.globals=aC
 blt:X.env.builtins=builtinsNs
 above:X.s₀.heap.objs.size<=X.env.locals
 inj:∀x y c,X.env.cells.lookup x=some c->X.env.cells.lookup y=some c->x=y
 has:∀x,(X.env.kindOf x=some .cell\/X.env.kindOf x=some .free)->∃c,X.env.cells.lookup x=some c
 cab:∀x c,X.fn x=true->X.env.cells.lookup x=some c->X.s₀.heap.objs.size<=c
 hd:X.calm=true->X.A.handled=none
 frames:X.A.frames=some X.stack
 stk:X.stack=X.outer\/(X.stack=X.env::X.outer/\X.env.frame=some X.env.locals)
 exf:∀b∈X.ex,b≠X.env.locals/\∀x c,X.env.cells.lookup x=some c->c≠b
 bs:∀b o,X.base.get? b=some o->X.s₀.heap.get? b=some o/\X.H₀ b=none
 bsz:X.base.objs.size<=X.s₀.heap.objs.size
 noex:∀b o,X.base.get? b=some o->b∉X.ex
 exfs:∀b∈X.ex,b∉X.fs
 funs:X.s₀.heap.FunFrames X.base X.outer
 frf:∀b∈X.fs,X.H₀ b=none
structure Inv(X:Cx)(pins:List (Addr×Obj))(σ:List (Option V))(H:Hp)(s:ab):Prop where
 ok:X.Ok
 os:s.os=X.s₀.os
 bare:cX s.gens
 base:Un X.fs X.ex X.H₀ H X.s₀.heap s.heap
 loc:∃m,s.heap.Ns X.env.locals m/\∀(i:Nat) (x:Str) (v:V),X.N[i]?=some x->σ[i]?=some (some v)->Vis X.env.scope x->∃u,RelV v u/\Look X.env s.heap m x u
 cell:∀x c,X.env.cells.lookup x=some c->∃v,s.heap.IsCell c v
 free:H X.env.locals=none
 freeC:∀x c,X.env.cells.lookup x=some c->H c=none
 pin:∀p∈X.pn++pins,s.heap.get? p.1=some p.2/\H p.1=none/\p.1≠X.env.locals/\p.1∉X.fs/\∀v,p.2.data≠.cell v
 hok:HOk X.prog X.w H s.heap
 len:σ.length=X.N.length
variable{g':Array dS}{t' i j:Nat}{d':Drawn}{ch:List Addr}{it:Addr}{N:List Str}{x:Str}{M:Model}{E:aa->ab->Prop}{s':ab}
section
variable{X:Cx}{pins:List (Addr×Obj)}{σ:List (Option V)}{H H':Hp}{s:ab}{h':Heap}
theorem Cx.Ok.nofr(ok:X.Ok){o:Obj}(e:X.base.get? b=some o):b∉X.fs:=λhb=>by have:=(ok.funs.mem hb).1;rw[e]at this;cases this
theorem Inv.bs(I:Inv X pins σ H s):∀b o,X.base.get? b=some o->s.heap.get? b=some o/\H b=none:=λb o e=>
 ⟨I.base.keep b o (I.ok.bs b o e).1 (I.ok.bs b o e).2 (I.ok.nofr e) (I.ok.noex b o e),I.base.free b o (I.ok.bs b o e).1 (I.ok.bs b o e).2 (I.ok.noex b o e)⟩
theorem Inv.bk(I:Inv X pins σ H s):∀b o,X.base.get? b=some o->s.heap.get? b=some o:=λb o e=>(I.bs b o e).1
theorem Inv.mod(I:Inv X pins σ H s):Mod X.K X.mg X.base:=I.ok.mod
theorem Inv.kIn(I:Inv X pins σ H s):X.K.In s.heap:=I.ok.mod.kin.keeps I.bk
theorem Inv.fr(I:Inv X pins σ H s):∃m,Fr X.base X.env.locals s.heap m:=
 let ⟨m,hn,_⟩:=I.loc
 ⟨m,hn,I.bk,bF I.ok.bsz I.ok.above⟩
theorem Inv.lt(I:Inv X pins σ H s):X.env.locals<s.heap.objs.size:=let ⟨_,hn,_⟩:=I.loc;hn.lt
theorem Inv.sz(I:Inv X pins σ H s):X.s₀.heap.objs.size<=s.heap.objs.size:=bF I.ok.above (eO I.lt)
theorem Inv.nofs(I:Inv X pins σ H s)(h:s.heap.objs.size<=a):a∉X.fs:=λhb=>by obtain⟨_,o,ho,_⟩:=I.ok.funs.mem hb;exact ai (bx (aA ho) (bF I.sz h)) (dH _)
theorem Inv.cne(I:Inv X pins σ H s):∀x c,X.env.cells.lookup x=some c->c≠X.env.locals:=λx c e z=>by obtain⟨v,o,ho,hd⟩:=I.cell x c e;obtain⟨m,⟨o',es,ep,ho',hd',_⟩,_⟩:=I.loc;rw[z,ho']at ho;cases ho;rw[hd']at hd;cases hd
theorem Inv.funs(I:Inv X pins σ H s):s.heap.FunFrames X.base X.outer:=by
 have all:∀(l:List Env),(∀b∈frs l,b∈X.fs)->X.s₀.heap.FunFrames X.base l->s.heap.FunFrames X.base l:=by
  intro l
  induction l with
  |nil=>intro _ _;trivial
  |cons env r ih=>intro hs hl;obtain⟨hk,⟨L,o,hf,hn,ho,hd⟩,hr⟩:=hl;have hL:L∈X.fs:=hs L (by unfold frs;rw[bZ,hf];exact aH);obtain⟨sl,e⟩:=I.base.slot L o ho (I.ok.frf L hL) hL λz=>I.ok.exfs L z hL;exact⟨hk,⟨L,_,hf,hn,e,hd⟩,ih (λb hb=>hs b (by unfold frs;rw[bZ,hf];exact aG _ hb)) hr⟩
 exact all X.outer (λ_ hb=>hb) I.ok.funs
theorem Inv.stack(I:Inv X pins σ H s):s.heap.FunFrames X.base X.stack:=by
 rcases I.ok.stk with e|⟨e,hf⟩
 ·rw[e];exact I.funs
 ·rw[e];obtain⟨m,hn,_⟩:=I.loc;refine .cons (by rw[I.ok.kind];decide) hf hn ?_ I.funs;exact Heap.get?_none_of_le (bF I.ok.bsz I.ok.above)
theorem Inv.stkSub(I:Inv X pins σ H s):∀b∈frs X.stack,b∈X.env.locals::X.fs:=λb hb=>by
 rcases I.ok.stk with e|⟨e,hf⟩
 ·rw[e]at hb;exact aG _ hb
 ·rw[e]at hb;unfold frs at hb;rw[bZ,hf]at hb;exact hb
theorem Inv.stkFree(I:Inv X pins σ H s):∀b∈frs X.stack,H b=none:=λb hb=>by
 rcases aF.mp (I.stkSub b hb)with e|hb
 ·rw[e];exact I.free
 ·obtain⟨_,o,ho,_⟩:=I.ok.funs.mem hb;exact I.base.free b o ho (I.ok.frf b hb) λz=>I.ok.exfs b z hb
theorem Inv.step(I:Inv X pins σ H s)
  (hch:∀b∈ch,(b∈X.ex\/X.s₀.heap.objs.size<=b)/\b≠X.env.locals/\(∀x c,X.env.cells.lookup x=some c->c≠b)/\∀p∈X.pn++pins,p.1≠b)
  (keep:∀b o,b≠X.env.locals->b∉X.fs->b∉ch->s.heap.get? b=some o->H b=none->h'.get? b=some o)
  (slot:∀b o,b≠X.env.locals->b∈X.fs->b∉ch->s.heap.get? b=some o->H b=none->∃sl,h'.get? b=some { o with slots:=sl }) (free:∀b o,b∉ch->s.heap.get? b=some o->H b=none->H' b=none)
  (there:∀b o,b∉ch->s.heap.get? b=some o->∃o',h'.get? b=some o')
  (tups:∀b xs,H b=some (.tup xs)->H' b=some (.tup xs)) (frzs:∀b o u,H b=some (.frz o u)->H' b=some (.frz o u)) (tbls:∀b ps,H b=some (.tbl ps)->∃more,H' b=some (.tbl (ps++more)))
  (ns:∀m,s.heap.Ns X.env.locals m->h'.Ns X.env.locals m) (hok:HOk X.prog X.w H' h') (hg:cX g'):
  Inv X pins σ H' { s with heap:=h',gens:=g',drawn:=d',toks:=t' }:=by
 have neL:∀b o,X.s₀.heap.get? b=some o->b≠X.env.locals:=λb o e=>aD (bx (aA e) I.ok.above);have neC:∀b o,X.s₀.heap.get? b=some o->b∉X.ex->b∉ch:=λb o e hx hb=>by
  rcases(hch b hb).1 with z|z
  ·exact hx z
  ·exact ai (bx (aA e) z) (dH _)
 have cellK:∀x c,X.env.cells.lookup x=some c->∀v,s.heap.IsCell c v->h'.IsCell c v:=λx c e v ⟨o,ho,hd⟩=>by
  have nch:c∉ch:=λz=>(hch c z).2.2.1 x c e rfl;by_cases hc:c∈X.fs
  ·obtain⟨sl,q⟩:=slot c o (I.cne x c e) hc nch ho (I.freeC x c e);exact⟨_,q,hd⟩
  ·exact⟨o,keep c o (I.cne x c e) hc nch ho (I.freeC x c e),hd⟩
 refine⟨I.ok,I.os,hg,⟨λb o e n hb hx=>?_,λb o e n hb hx=>?_,λb o e n hx=>?_,λb o e hx=>?_,λb xs e=>tups b xs (I.base.tups b xs e),λb o xs e=>frzs b o xs (I.base.frzs b o xs e),λb ps e=>?_⟩,?_,λx c e=>?_,?_,λx c e=>?_,λp hp=>?_,hok,I.len⟩
 ·exact keep b o (neL b o e) hb (neC b o e hx) (I.base.keep b o e n hb hx) (I.base.free b o e n hx)
 ·obtain⟨sl,e1⟩:=I.base.slot b o e n hb hx;obtain⟨sl',e2⟩:=slot b _ (neL b o e) hb (neC b o e hx) e1 (I.base.free b o e n hx);exact⟨sl',e2⟩
 ·obtain⟨o',e1⟩:=I.base.there b o e hx;exact free b o' (neC b o e hx) e1 (I.base.free b o e n hx)
 ·obtain⟨o',e1⟩:=I.base.there b o e hx;exact there b o' (neC b o e hx) e1
 ·obtain⟨m1,e1⟩:=I.base.tbls b ps e;obtain⟨m2,e2⟩:=tbls b _ e1;exact⟨m1++m2,by rw[e2,Array.append_assoc]⟩
 ·obtain⟨m,hn,hl⟩:=I.loc;refine⟨m,ns m hn,λi x v e1 e2 e3=>?_⟩;obtain⟨u,r,l⟩:=hl i x v e1 e2 e3;refine⟨u,r,?_⟩;rcases l with l|⟨k,c,e,z⟩
  ·exact .inl l
  ·exact .inr ⟨k,c,e,cellK x c e _ z⟩
 ·obtain⟨v,z⟩:=I.cell x c e;exact⟨v,cellK x c e v z⟩
 ·obtain⟨m,⟨o,_,_,ho,_⟩,_⟩:=I.loc;exact free _ o (λz=>(hch _ z).2.1 rfl) ho I.free
 ·obtain⟨v,o,ho,hd⟩:=I.cell x c e;exact free c o (λz=>(hch c z).2.2.1 x c e rfl) ho (I.freeC x c e)
 ·obtain⟨e,n,ne,nf,d⟩:=I.pin p hp;have nch:p.1∉ch:=λz=>(hch p.1 z).2.2.2 p hp rfl;exact⟨keep p.1 p.2 ne nf nch e n,free p.1 p.2 nch e n,ne,nf,d⟩
theorem Inv.un(I:Inv X pins σ H s)(u:Un X.fs [] H H' s.heap h')(hok:HOk X.prog X.w H' h'):Inv X pins σ H' { s with heap:=h',toks:=t' }:=by
 obtain⟨m,⟨o,es,ep,ho,r⟩,_⟩:=id I.loc;obtain⟨sl,hL⟩:=u.any ho I.free (by simp);exact I.step (g':=s.gens) (d':=s.drawn) (ch:=[]) (λ_ z=>nomatch z) (λb o _ hb _ e n=>u.keep b o e n hb (by simp)) (λb o _ hb _ e n=>u.slot b o e n hb (by simp)) (λb o _ e n=>u.free b o e n (by simp)) (λb o _ e=>u.there b o e (by simp)) u.tups u.frzs u.tbls (λm' hm=>by
  obtain⟨o',es',ep',ho',r'⟩:=hm;rw[ho]at ho';cases ho';exact⟨_,es',ep',hL,r'⟩) hok I.bare
theorem Inv.call(I:Inv X pins σ H s)(u:Un (frs X.stack) ch H H' s.heap h')(hok:HOk X.prog X.w H' h')(hg:cX g')
  (hch:∀b∈ch,(b∈X.ex\/X.s₀.heap.objs.size<=b)/\b≠X.env.locals/\(∀x c,X.env.cells.lookup x=some c->c≠b)/\∀p∈X.pn++pins,p.1≠b):
  Inv X pins σ H' { s with heap:=h',gens:=g',drawn:=d',toks:=t' }:=by
 obtain⟨m,⟨o,es,ep,ho,r⟩,_⟩:=id I.loc;obtain⟨sl,hL⟩:=u.any ho I.free λz=>(hch _ z).2.1 rfl;exact I.step (ch:=ch) hch (λb o hL hb hc e n=>u.keep b o e n (λz=>(aF.mp (I.stkSub b z)).elim hL hb) hc) (λb o _ _ hc e n=>u.any e n hc) (λb o hc e n=>u.free b o e n hc) (λb o hc e=>u.there b o e hc) u.tups u.frzs u.tbls (λm' hm=>by
  obtain⟨o',es',ep',ho',r'⟩:=hm;rw[ho]at ho';cases ho';exact⟨_,es',ep',hL,r'⟩) hok hg
theorem Inv.turned(I:Inv X pins σ H s)(k:∀b o,b≠it->s.heap.get? b=some o->h'.get? b=some o)(hn:H it=none)(hL:it≠X.env.locals)
  (h1:it∈X.ex\/X.s₀.heap.objs.size<=it) (h2:∀x c,X.env.cells.lookup x=some c->c≠it) (h3:∀p∈X.pn++pins,p.1≠it):Inv X pins σ H { s with heap:=h',toks:=t' }:=by
 have nit:∀b u,H b=some u->b≠it:=λb u e z=>by rw[z,hn]at e;cases e
 refine I.step (g':=s.gens) (d':=s.drawn) (ch:=[it]) (λb hb=>?_) (λb o _ _ hc e _=>k b o (λz=>hc (by simp[z])) e) (λb o _ _ hc e _=>⟨o.slots,k b o (λz=>hc (by simp[z])) e⟩) (λ_ _ _ _ n=>n)
  (λb o hc e=>⟨o,k b o (λz=>hc (by simp[z])) e⟩) (λ_ _ e=>e) (λ_ _ _ e=>e) (λb ps e=>⟨#[],by rw[e];simp⟩) (λm hm=>?_) (λb u e=>?_) I.bare
 ·have e:b=it:=by simpa using hb
  subst e;exact⟨h1,hL,h2,h3⟩
 ·obtain⟨o,es,ep,ho,r⟩:=hm;exact⟨o,es,ep,k _ o (bX hL) ho,r⟩
 ·refine(I.hok b u e).stay (λc v hc q=>k c v ?_ q) (λ_ q=>q) λ_ _ q=>q;rcases hc with z|z
  ·rw[z];exact nit b u e
  ·exact nit c _ z
theorem Inv.tok(I:Inv X pins σ H s)(t:Nat):Inv X pins σ H { s with toks:=t }:=I.un (h':=s.heap) (t':=t) Un.refl I.hok
theorem Inv.kept(I:Inv X pins σ H s)(k:∀b u,s.heap.get? b=some u->h'.get? b=some u):Inv X pins σ H { s with heap:=h',toks:=t' }:=I.un (Un.kept k) (I.hok.kept k)
theorem Inv.laid{o:HO}(I:Inv X pins σ H s)(k:∀b u,s.heap.get? b=some u->h'.get? b=some u)(hp:s.heap.objs.size<=a)(new:pD X.prog X.w (upd H a o) h' a o):
  Inv X pins σ (upd H a o) { s with heap:=h',toks:=t' }:=I.un (Un.laid k hp (I.hok.fresh hp)) (I.hok.laid k hp new)
theorem Inv.write{x e:Addr}{o:HO}(I:Inv X pins σ H s)(mu:Mut (H x))(he:e=x\/H e=some (.own x))(k:∀b u,b≠e->s.heap.get? b=some u->h'.get? b=some u)(heo:∃u,h'.get? e=some u)
  (new:pD X.prog X.w (upd H x o) h' x o):Inv X pins σ (upd H x o) { s with heap:=h',toks:=t' }:=I.un (Un.write mu he k heo) (I.hok.write mu he k heo new)
theorem Inv.weak{σ':List (Option V)}(I:Inv X pins σ H s)(hl:σ'.length=σ.length)(w:∀(i:Nat) v,σ'[i]?=some (some v)->σ[i]?=some (some v)):Inv X pins σ' H s:=
 ⟨I.ok,I.os,I.bare,I.base,let ⟨m,hn,hl'⟩:=I.loc;⟨m,hn,λi x v e1 e2 e3=>hl' i x v e1 (w i v e2) e3⟩,I.cell,I.free,I.freeC,I.pin,I.hok,hl.trans I.len⟩
theorem Inv.pins_of{pins':List (Addr×Obj)}(I:Inv X pins σ H s)(h:∀p∈pins',s.heap.get? p.1=some p.2/\H p.1=none/\p.1≠X.env.locals/\p.1∉X.fs/\∀v,p.2.data≠.cell v):Inv X pins' σ H s:=
 ⟨I.ok,I.os,I.bare,I.base,I.loc,I.cell,I.free,I.freeC,λp hp=>(dD.mp hp).elim (λz=>I.pin p (f9 _ z)) (h p),I.hok,I.len⟩
theorem DG(hN:N.Nodup)(a:N[i]?=some x)(b:N[j]?=some x):i=j:=by obtain⟨h1,e1⟩:=bb.mp a;obtain⟨h2,e2⟩:=bb.mp b;exact(iC hN).mp (e1.trans e2.symm)
theorem G6{A:ar}{v:V}{Q:Unit->ab->Prop}(I:Inv X pins σ H s)(hN:X.N.Nodup)(hi:X.N[i]?=some x)(hx:Loc X.env.scope x)(r:RelV v u)
  (h:∀s',Inv X pins (σ.set i (some v)) H s'->(∃a,de a s.heap s'.heap/\(a=X.env.locals\/X.env.cells.lookup x=some a))->Q () s') (hf:X.fn x=true\/X.env.scope.names.lookup x=some .local:=by first|exact .inl rfl|exact .inr rfl|assumption):ae M A (storeName X.env x u) Q E s:=by
 obtain⟨m,hn,hl⟩:=id I.loc;have hcls:(X.env.scope.kind==.class||(X.env.scope.kind==.module&&X.env.locals != X.env.globals))=false:=by rw[I.ok.kind];rfl
 have hiσ:i<σ.length:=by rw[I.len];exact(bb.mp hi).1
 have cne:=I.cne;have tracked:∀{a:Addr} {h':Heap},(∃o,s.heap.get? a=some o/\H a=none)->de a s.heap h'->HOk X.prog X.w H h':=λ{a h'} ha hs b ob e=>by
  obtain⟨_,_,hfree⟩:=ha;refine(I.hok b ob e).stay (λc w' hc q=>(hs.2 c ?_).trans q) (λ_ q=>q) λ_ _ q=>q;rintro rfl;rcases hc with rfl|hc
  ·rw[hfree]at e;cases e
  ·rw[hfree]at hc;cases hc
 rcases hx with hk|hk
 ·refine wpAny_storeName_local hk hn (λh' hn' hs=>?_) hcls;obtain⟨oL,_,_,hoL,_⟩:=id hn;refine h _ ⟨I.ok,I.os,I.bare,⟨λb o e n hb hx=>?_,λb o e n hb hx=>?_,I.base.free,λb o e hx=>?_,I.base.tups,I.base.frzs,I.base.tbls⟩,⟨_,hn',λj y v' e1 e2 e3=>?_⟩,λy c e=>?_,I.free,I.freeC,λp hp=>?_,tracked ⟨oL,hoL,I.free⟩ hs,by simpa using I.len⟩ ⟨_,hs,.inl rfl⟩
  ·exact(hs.2 b (aD (bx (aA e) I.ok.above))).trans (I.base.keep b o e n hb hx)
  ·obtain⟨sl,e1⟩:=I.base.slot b o e n hb hx;exact⟨sl,(hs.2 b (aD (bx (aA e) I.ok.above))).trans e1⟩
  ·obtain⟨o',e1⟩:=I.base.there b o e hx;exact⟨o',(hs.2 b (aD (bx (aA e) I.ok.above))).trans e1⟩
  ·by_cases hj:j=i
   ·subst hj;rw[hi]at e1;cases e1;rw[fZ hiσ]at e2;cases e2;exact⟨u,r,.inl ⟨hk,by simp⟩⟩
   ·rw[hU (bX hj)]at e2;obtain⟨u',r',q⟩:=hl j y v' e1 e2 e3;refine⟨u',r',?_⟩;rcases q with ⟨k,e⟩|⟨k,c,e,z⟩
    ·refine .inl ⟨k,?_⟩;have:y≠x:=λe=>hj (DG hN e1 (e▸hi));simp[this,e]
    ·exact .inr ⟨k,c,e,z.sameBut hs (cne y c e)⟩
  ·obtain⟨w',z⟩:=I.cell y c e;exact⟨w',z.sameBut hs (cne y c e)⟩
  ·obtain⟨e,n,ne,nf,d⟩:=I.pin p hp;exact⟨(hs.2 p.1 ne).trans e,n,ne,nf,d⟩
 ·have hfn:X.fn x=true:=by
   rcases hf with z|z
   ·exact z
   ·rw[z]at hk;cases hk
  obtain⟨c,hc⟩:=I.ok.has x (.inl hk);obtain⟨w',z⟩:=I.cell x c hc;refine wpAny_storeName_cell I.ok.kind hk hc z (λh' hc' hs=>?_);obtain⟨oc,hoc,hocd⟩:=id z;refine h { s with heap:=h' } ⟨I.ok,I.os,I.bare,⟨λb o e n hb hx=>?_,λb o e n hb hx=>?_,I.base.free,λb o e hx=>?_,I.base.tups,I.base.frzs,I.base.tbls⟩,⟨m,hn.sameBut hs (bX (cne x c hc)),λj y v' e1 e2 e3=>?_⟩,λy c' e=>?_,I.free,I.freeC,λp hp=>?_,tracked ⟨oc,hoc,I.freeC x c hc⟩ hs,by simpa using I.len⟩ ⟨c,hs,.inr hc⟩
  ·exact(hs.2 b (aD (bx (aA e) (I.ok.cab x c hfn hc)))).trans (I.base.keep b o e n hb hx)
  ·obtain⟨sl,e1⟩:=I.base.slot b o e n hb hx;exact⟨sl,(hs.2 b (aD (bx (aA e) (I.ok.cab x c hfn hc)))).trans e1⟩
  ·obtain⟨o',e1⟩:=I.base.there b o e hx;exact⟨o',(hs.2 b (aD (bx (aA e) (I.ok.cab x c hfn hc)))).trans e1⟩
  ·by_cases hj:j=i
   ·subst hj;rw[hi]at e1;cases e1;rw[fZ hiσ]at e2;cases e2;exact⟨u,r,.inr ⟨.inl hk,c,hc,hc'⟩⟩
   ·rw[hU (bX hj)]at e2;obtain⟨u',r',q⟩:=hl j y v' e1 e2 e3;refine⟨u',r',?_⟩;rcases q with q|⟨k,c',e,z'⟩
    ·exact .inl q
    ·refine .inr ⟨k,c',e,z'.sameBut hs ?_⟩;rintro rfl;exact hj (DG hN e1 (I.ok.inj _ _ _ e hc▸hi))
  ·by_cases hcc:c'=c
   ·subst hcc;exact⟨_,hc'⟩
   ·obtain⟨w2,z2⟩:=I.cell y c' e;exact⟨w2,z2.sameBut hs hcc⟩
  ·obtain⟨e,n,ne,nf,d⟩:=I.pin p hp;refine⟨(hs.2 p.1 ?_).trans e,n,ne,nf,d⟩;intro q;rw[q,hoc]at e;have q':oc=p.2:=bB e;exact d w' (by rw[<-q'];exact hocd)
theorem DH{A:ar}{v:V}{Q:Unit->ab->Prop}(I:Inv X pins σ H s)(hN:X.N.Nodup)(hi:X.N[i]?=some x)(hx:Loc X.env.scope x)(r:RelV v u)
  (h:∀s',Inv X pins (σ.set i (some v)) H s'->Q () s') (hf:X.fn x=true\/X.env.scope.names.lookup x=some .local:=by first|exact .inl rfl|exact .inr rfl|assumption):ae M A (storeName X.env x u) Q E s:=
 G6 I hN hi hx r (λs' I' _=>h s' I') hf
theorem Inv.call'(I:Inv X pins σ H s)(ho:s'.os=s.os)(u:Un (frs X.stack) ch H H' s.heap s'.heap)(hok:HOk X.prog X.w H' s'.heap)(hg:cX s'.gens)
  (hch:∀b∈ch,(b∈X.ex\/X.s₀.heap.objs.size<=b)/\b≠X.env.locals/\(∀x c,X.env.cells.lookup x=some c->c≠b)/\∀p∈X.pn++pins,p.1≠b):Inv X pins σ H' s':=by
 obtain⟨h',g',d',t',o'⟩:=s';have e:o'=s.os:=ho;subst e;exact I.call (g':=g') (t':=t') (d':=d') u hok hg hch
end
abbrev XK:=aa->Option Addr->Hp->Prop
abbrev St:=List (Option V)
abbrev VK:=V->Hp->Prop
abbrev TE:=St->Hp->VK->Prop
abbrev TT:=St->Hp->(Bool->Hp->Prop)->Prop
abbrev TA:=St->Hp->(List V->Hp->Prop)->Prop
structure Ends where
 nx:St->Hp->Prop
 rt:VK
 bk:St->Hp->Prop:=λ_ _=>False
 ct:St->Hp->Prop:=λ_ _=>False
abbrev TS:=Ends->St->Hp->Prop
def EP(X:Cx)(pins:List (Addr×Obj))(σ:St)(Q:VK)(u:aa)(s':ab):Prop:=∃v H',Inv X pins σ H' s'/\RelV v u/\Q v H'
def TP(X:Cx)(pins:List (Addr×Obj))(σ:St)(Q:Bool->Hp->Prop)(b:Bool)(s':ab):Prop:=∃H',Inv X pins σ H' s'/\Q b H'
def AP(X:Cx)(pins:List (Addr×Obj))(σ:St)(Q:List V->Hp->Prop)(us:List aa)(s':ab):Prop:=∃vs H',Inv X pins σ H' s'/\Vals vs us/\Q vs H'
def SP(X:Cx)(pins:List (Addr×Obj))(D:Ends)(f:Flow)(s':ab):Prop:=
 match f with
 |.next=>∃σ' H',Inv X pins σ' H' s'/\D.nx σ' H'
 |.brk=>∃σ' H',Inv X pins σ' H' s'/\D.bk σ' H'
 |.cont=>∃σ' H',Inv X pins σ' H' s'/\D.ct σ' H'
 |.ret u=>∃v σ' H',Inv X pins σ' H' s'/\RelV v u/\D.rt v H'
def PE(X:Cx)(e:Expr)(t:TE):Prop:=
 ∀(pins:List (Addr×Obj)) (s:ab) (σ:St) (H:Hp) (Q:VK),Inv X pins σ H s->t σ H Q->ae (model X.prog X.w) X.A (eval e X.env) (EP X pins σ Q) X.xe s
def PT(X:Cx)(e:Expr)(t:TT):Prop:=
 ∀(pins:List (Addr×Obj)) (s:ab) (σ:St) (H:Hp) (Q:Bool->Hp->Prop),Inv X pins σ H s->t σ H Q->ae (model X.prog X.w) X.A (isTrue e X.env (eval e X.env)) (TP X pins σ Q) X.xe s
def PW(X:Cx)(e:Expr)(t:TT):Prop:=
 ∀(whole:Sem aa) (pins:List (Addr×Obj)) (s:ab) (σ:St) (H:Hp) (Q:Bool->Hp->Prop),Inv X pins σ H s->t σ H Q->ae (model X.prog X.w) X.A (isTrue e X.env whole) (TP X pins σ Q) X.xe s
variable{X:Cx}{e:Expr}
theorem PW.pt{t:TT}(h:PW X e t):PT X e t:=h _
def PA(X:Cx)(es:List Expr)(t:TA):Prop:=
 ∀(pos:Pos) (pins:List (Addr×Obj)) (s:ab) (σ:St) (H:Hp) (Q:List V->Hp->Prop),Inv X pins σ H s->t σ H Q->ae (model X.prog X.w) X.A (spliced (aT pos (au es X.env))) (AP X pins σ Q) X.xe s
def PS(X:Cx)(st:Stmt)(t:TS):Prop:=
 ∀(pins:List (Addr×Obj)) (s:ab) (σ:St) (H:Hp) (D:Ends),Inv X pins σ H s->t D σ H->ae (model X.prog X.w) X.A (exec st X.env) (SP X pins D) X.xe s
def PSs(X:Cx)(st:List Stmt)(t:TS):Prop:=
 ∀(pins:List (Addr×Obj)) (s:ab) (σ:St) (H:Hp) (D:Ends),Inv X pins σ H s->t D σ H->ae (model X.prog X.w) X.A (execs st X.env) (SP X pins D) X.xe s
theorem thn{α:Type}{t:Sem α}{Q Q':α->ab->Prop}{A:ar}{s:ab}(h:ae M A t Q E s)(hQ:∀a s,Q a s->Q' a s):ae M A t Q' E s:=bt h hQ λ_ _ x=>x
variable{pins:List (Addr×Obj)}{σ:St}{R:V->V->Hp->Prop}{pos:Pos}{Q:aa->ab->Prop}{op:dU}{t:TE}{c:Expr}
section
variable{X:Cx}
theorem bin{a b:Expr}{ta tb:TE}(ha:PE X a ta)(hb:PE X b tb){s:ab}{H:Hp}(I:Inv X pins σ H s)(h:ta σ H λx H1=>tb σ H1 λy H2=>R x y H2)
  {α:Type} {Q:α->ab->Prop} {f:aa->aa->Sem α}
  (hf:∀v u s2 x y H2,Inv X pins σ H2 s2->RelV x v->RelV y u->R x y H2->ae (model X.prog X.w) X.A (f v u) Q X.xe s2):
  ae (model X.prog X.w) X.A (eval a X.env) (λv s₁=>ae (model X.prog X.w) X.A (eval b X.env) (λu s₂=>ae (model X.prog X.w) X.A (f v u) Q X.xe s₂) X.xe s₁) X.xe s:=by
 refine thn (ha pins s σ H _ I h) λv s1 zz=>?_;obtain⟨x,H1,I1,r1,q1⟩:=zz;refine thn (hb pins s1 σ H1 _ I1 q1) λu s2 zz=>?_;obtain⟨y,H2,I2,r2,q2⟩:=zz;exact hf v u s2 x y H2 I2 r1 r2 q2
def vm(i:Nat):TE:=λσ H Q=>∃v,σ[i]?=some (some v)/\Q v H
def tC(v:V):TE:=λ_ H Q=>Q v H
theorem NR(hN:X.N[i]?=some x)(hv:Vis X.env.scope x)(hd:(x==("__debug__" : Str))=false:=by decide)(hcd:(x==("__classdict__" : Str))=false:=by decide):PE X (.Name x pos) (vm i):=by
 intro pins s σ H Q I h;obtain⟨v,e,h⟩:=h;obtain⟨m,hn,hl⟩:=I.loc;obtain⟨u,r,l⟩:=hl i x v hN e hv;have fin:EP X pins σ Q u s:=⟨v,H,I,r,h⟩;rcases l with ⟨hk,hm⟩|⟨hk,c,hc,hcell⟩
 ·exact jh (wpAny_loadName_local I.ok.kind hk hn hm fin) hd
 ·rcases hk with hk|hk
  ·exact jh (wpAny_loadName_cell I.ok.kind hk hc hcell fin) hd
  ·exact jh (wpAny_loadName_free I.ok.kind hk hc hcell fin hcd) hd
theorem ES{i j pos}:PE X (.Constant (.int i) j pos) (tC (.int i)):=λ_ _ _ H _ I h=>wpAny_Constant_int ⟨.int i,H,I.tok _,⟨_,rfl⟩,h⟩
theorem RD{b j pos}:PE X (.Constant (.bool b) j pos) (tC (.bl b)):=λ_ _ _ H _ I h=>Constant_bool ⟨.bl b,H,I,rfl,h⟩
theorem NS{j pos}:PE X (.Constant .none j pos) (tC .non):=λ_ _ _ H _ I h=>Constant_none ⟨.non,H,I,rfl,h⟩
theorem NT{x j pos}:PE X (.Constant (.str x) j pos) (tC (.str x)):=λ_ _ _ H _ I h=>Calls.Constant_str ⟨.str x,H,I.tok _,⟨_,rfl⟩,h⟩
def Gl(X:Cx)(x:Str):Prop:=X.env.kindOf x=some .globalImplicit
theorem zU{s:ab}{H:Hp}(I:Inv X pins σ H s)(hg:Gl X x)(hm:X.mg x=some u)(h:Q u s)
  (hd:(x==("__debug__" : Str))=false:=by decide):ae (model X.prog X.w) X.A (eval (.Name x pos) X.env) Q E s:=
 jy I.ok.kind hg (Calls.loadGlobal_global (by rw[I.ok.glob];exact I.mod.glob.keeps I.bk) hm h) hd
theorem ue{s:ab}{H:Hp}(I:Inv X pins σ H s)(hg:Gl X x)(hm:X.mg x=none)(hv:cv x=some u)(h:Q u s)
  (hn:x≠"__name__" := by decide) (hd:(x==("__debug__" : Str))=false:=by decide):ae (model X.prog X.w) X.A (eval (.Name x pos) X.env) Q E s:=by
 obtain⟨mb,h1,h2⟩:=I.mod.blt;exact jy I.ok.kind hg (Calls.loadGlobal_builtin (by rw[I.ok.glob];exact I.mod.glob.keeps I.bk) hm (by rw[I.ok.blt];exact h1.keeps I.bk) ((h2 x hn).trans hv) h) hd
theorem zV{v:V}(hg:Gl X x)(hm:X.mg x=some u)(r:RelV v u)(hd:(x==("__debug__" : Str))=false:=by decide):PE X (.Name x pos) (tC v):=
 λ_ _ _ H _ I h=>zU I hg hm ⟨v,H,I,r,h⟩ hd
theorem La{v:V}(hg:Gl X x)(hm:X.mg x=none)(hv:cv x=some u)(r:RelV v u)(hn:x≠"__name__" := by decide)(hd:(x==("__debug__" : Str))=false:=by decide):PE X (.Name x pos) (tC v):=
 λ_ _ _ H _ I h=>ue I hg hm hv ⟨v,H,I,r,h⟩ hn hd
variable{a b:Expr}{ta tb:TE}{pos:Pos}
def PC(X:Cx)(op:dU)(a b:Expr)(t:TE):Prop:=
 ∀(pins:List (Addr×Obj)) (s:ab) (σ:St) (H:Hp) (Q:VK),Inv X pins σ H s->t σ H Q->
  ae (model X.prog X.w) X.A (eval a X.env) (λv s₁=>ae (model X.prog X.w) X.A (eval b X.env) (λu s₂=>ae (model X.prog X.w) X.A (aO op v u) (EP X pins σ Q) X.xe s₂) X.xe s₁) X.xe s
def tB(t:TE):TT:=λσ H Q=>t σ H λx H1=>∃c,x=.bl c/\Q c H1
theorem TY(h:PC X op a b t)(h1:dJ op b=false:=by first|exact nobehind _ (by decide) (by decide)|rfl):PT X (.Compare a [op] [b] pos) (tB t):=by intro pins s σ H Q I hw;refine jM (thn (h pins s σ H _ I hw) λv s1 h1=>thn h1 λu s2 h2=>thn h2 λc s3 zz=>?_) h1;obtain⟨x,H1,I1,r1,q1⟩:=zz;obtain⟨d,rfl,q⟩:=q1;cases r1;exact b0 ⟨H1,I1,q⟩
theorem NU(h:PE X e t)(he:∀whole,isTrue e X.env whole=(do let v<-whole;standAt e.pos;holding [v] (truthy v)):=by intro _;rfl):PT X e (tB t):=by intro pins s σ H Q I hw;refine isTrue_plain (thn (h pins s σ H _ I hw) λv s1 zz=>?_) (he _);obtain⟨x,H1,I1,r1,q1⟩:=zz;obtain⟨d,rfl,q⟩:=q1;cases r1;exact b0 ⟨H1,I1,q⟩
variable{tA tB':TT}{rest:List Expr}
def RE(t u:TT):TT:=λσ H Q=>t σ H λc H1=>if c=true then u σ H1 Q else Q false H1
def tOr(t u:TT):TT:=λσ H Q=>t σ H λc H1=>if c=true then Q true H1 else u σ H1 Q
def TZ(t:TT):TT:=λσ H Q=>t σ H λc H1=>Q (!c) H1
theorem Lb(ha:PT X a tA):PW X (.BoolOp .And [a] pos) tA:=by
 intro wh pins s σ H Q I h;refine isTrue_and (thn (ha pins s σ H Q I h) λc s1 e=>?_);cases c with
 |true=>exact isTrue_and_nil e
 |false=>exact e
theorem NV(ha:PT X a tA):PW X (.BoolOp .Or [a] pos) tA:=by
 intro wh pins s σ H Q I h;refine isTrue_or (thn (ha pins s σ H Q I h) λc s1 e=>?_);cases c with
 |false=>exact isTrue_or_nil e
 |true=>exact e
theorem NW(ha:PT X a tA)(hb:PW X (.BoolOp .And (b::rest) pos) tB'):PW X (.BoolOp .And (a::b::rest) pos) (RE tA tB'):=by
 intro wh pins s σ H Q I h;refine isTrue_and (thn (ha pins s σ H _ I h) λc s1 zz=>?_);obtain⟨H1,I1,q1⟩:=zz;cases c with
 |true=>exact hb wh pins s1 σ H1 Q I1 q1
 |false=>exact⟨H1,I1,q1⟩
theorem RF(ha:PT X a tA)(hb:PW X (.BoolOp .Or (b::rest) pos) tB'):PW X (.BoolOp .Or (a::b::rest) pos) (tOr tA tB'):=by
 intro wh pins s σ H Q I h;refine isTrue_or (thn (ha pins s σ H _ I h) λc s1 zz=>?_);obtain⟨H1,I1,q1⟩:=zz;cases c with
 |true=>exact⟨H1,I1,q1⟩
 |false=>exact hb wh pins s1 σ H1 Q I1 q1
theorem NX(ha:PT X a tA):PT X (.UnaryOp .Not a pos) (TZ tA):=by intro pins s σ H Q I h;exact isTrue_not (ha pins s σ H (λc H1=>Q (!c) H1) I h)
def RG(ta tb:TE):TE:=λσ H Q=>ta σ H λx H1=>∃c,x=.bl c/\if c=true then tb σ H1 Q else Q (.bl false) H1
def T2(ta tb:TE):TE:=λσ H Q=>ta σ H λx H1=>∃c,x=.bl c/\if c=true then Q (.bl true) H1 else tb σ H1 Q
def RH(ta:TE):TE:=λσ H Q=>ta σ H λx H1=>∃c,x=.bl c/\Q (.bl (!c)) H1
theorem NY{op}(h:PE X a t):PE X (.BoolOp op [a] pos) t:=λpins s σ H Q I hw=>BoolOp_one (h pins s σ H Q I hw)
theorem NZ(ha:PE X a ta)(hb:PE X (.BoolOp .And (b::rest) pos) tb):PE X (.BoolOp .And (a::b::rest) pos) (RG ta tb):=by
 intro pins s σ H Q I h;refine BoolOp_and (thn (ha pins s σ H _ I h) λv s1 zz=>?_);obtain⟨x,H1,I1,r1,q1⟩:=zz;obtain⟨c,rfl,q1⟩:=q1;cases r1;refine b0 ?_;cases c with
 |true=>exact hb pins s1 σ H1 Q I1 q1
 |false=>exact⟨.bl false,H1,I1,rfl,q1⟩
theorem RI(ha:PE X a ta)(hb:PE X (.BoolOp .Or (b::rest) pos) tb):PE X (.BoolOp .Or (a::b::rest) pos) (T2 ta tb):=by
 intro pins s σ H Q I h;refine BoolOp_or (thn (ha pins s σ H _ I h) λv s1 zz=>?_);obtain⟨x,H1,I1,r1,q1⟩:=zz;obtain⟨c,rfl,q1⟩:=q1;cases r1;refine b0 ?_;cases c with
 |false=>exact hb pins s1 σ H1 Q I1 q1
 |true=>exact⟨.bl true,H1,I1,rfl,q1⟩
theorem N0(ha:PE X a ta):PE X (.UnaryOp .Not a pos) (RH ta):=by intro pins s σ H Q I h;refine UnaryOp_ (thn (ha pins s σ H _ I h) λv s1 zz=>?_);obtain⟨x,H1,I1,r1,q1⟩:=zz;obtain⟨c,rfl,q1⟩:=q1;cases r1;exact not_of (b0 ⟨.bl (!c),H1,I1,rfl,q1⟩)
def tIf(t:TT)(ta tb:TE):TE:=λσ H Q=>t σ H λc H1=>if c=true then ta σ H1 Q else tb σ H1 Q
theorem IA(hc:PT X c tA)(ha:PE X a ta)(hb:PE X b tb):PE X (.IfExp c a b pos) (tIf tA ta tb):=by
 intro pins s σ H Q I h;refine wpAny_IfExp (thn (hc pins s σ H _ I h) λd s1 zz=>?_);obtain⟨H1,I1,q1⟩:=zz;cases d with
 |true=>exact ha pins s1 σ H1 Q I1 q1
 |false=>exact hb pins s1 σ H1 Q I1 q1
end
def SqL(K:ak)(H:Hp)(a:Addr)(xs:List V):Prop:=
 Rd H a (.lst xs)\/
  ∃(o:Obj) (its:Array aa) (n:Nat),K.lookup a=some o/\o.cls=.type "list" /\ o.dict=none/\o.data=.seq its n/\its.size<=av/\Vals xs its.toList
def SqT(K:ak)(H:Hp)(a:Addr)(xs:List V):Prop:=
 Rd H a (.tup xs)\/
  ∃(o:Obj) (its:Array aa) (n:Nat),K.lookup a=some o/\o.cls=.type "tuple" /\ o.data=.seq its n/\its.size<=av/\Vals xs its.toList
def T4:aa->Option V
 |.none=>some .non
 |.bool b=>some (.bl b)
 |.int i _=>some (.int i)
 |.str x _=>some (.str x)
 |.bytes b _=>some (.byt b)
 |.float b _=>some (.flt b)
 |.ref a=>some (.ref a)
 |.type n=>some (.ty n)
 |_=>none
theorem RelV.abs{x:V}(r:RelV x u):T4 u=some x:=by
 cases x with
 |non=>cases r;rfl
 |bl _=>cases r;rfl
 |int _=>obtain⟨t,rfl⟩:=r;rfl
 |str _=>obtain⟨t,rfl⟩:=r;rfl
 |byt _=>obtain⟨t,rfl⟩:=r;rfl
 |flt _=>obtain⟨t,rfl⟩:=r;rfl
 |ref _=>cases r;rfl
 |ty _=>cases r;rfl
variable{y:V}
theorem RelV.inj{x:V}(r:RelV x u)(q:RelV y u):x=y:=bB (r.abs.symm.trans q.abs)
theorem Vals.inj:∀{xs ys:List V} {us:List aa},Vals xs us->Vals ys us->xs=ys
 |_,_,_,.nil,.nil=>rfl
 |_,_,_,.cons r t,.cons r' t'=>by rw[r.inj r',Vals.inj t t']
section
variable{X:Cx}{pins:List (Addr×Obj)}{σ:St}{H:Hp}{s:ab}{a:Addr}{xs ys:List V}
theorem SqL.of{K:ak}(h:H a=some (.lst xs)):SqL K H a xs:=.inl (.inl h)
theorem SqT.of{K:ak}(h:H a=some (.tup xs)):SqT K H a xs:=.inl (.inl h)
theorem Inv.list(I:Inv X pins σ H s)(h:SqL X.K H a xs):∃its:List aa,Vals xs its/\PlainL s.heap a its.toArray/\xs.length<=av:=by
 rcases h with h|⟨o,its,n,hk,hc,hd,hs,hz,r⟩
 ·obtain⟨z,its,n,r,e⟩:=h.ok I.hok;exact⟨its,r,⟨_,n,e,rfl,rfl,rfl⟩,z⟩
 ·refine⟨its.toList,r,⟨o,n,I.kIn a o hk,hc,hd,by simpa using hs⟩,?_⟩;have e:=r.length;simp only[bc]at e;omega
theorem Inv.tuple(I:Inv X pins σ H s)(h:SqT X.K H a xs):∃its:List aa,Vals xs its/\eX s.heap a its.toArray/\xs.length<=av:=by
 rcases h with h|⟨o,its,n,hk,hc,hs,hz,r⟩
 ·obtain⟨z,its,r,p⟩:=h.ok I.hok;exact⟨its,r,p,z⟩
 ·refine⟨its.toList,r,⟨o,I.kIn a o hk,hc,n,by simpa using hs⟩,?_⟩;have e:=r.length;simp only[bc]at e;omega
theorem Inv.list_inj(I:Inv X pins σ H s)(h:SqL X.K H a xs)(h':SqL X.K H a ys):xs=ys:=by
 obtain⟨its,r,⟨o,n,e,_,_,d⟩,_⟩:=I.list h;obtain⟨its',r',⟨o',n',e',_,_,d'⟩,_⟩:=I.list h';rw[e]at e';cases e';rw[d]at d';injection d' with d1 _;have:its=its':=by simpa using bf lV d1
 subst this;exact r.inj r'
theorem Inv.tuple_inj(I:Inv X pins σ H s)(h:SqT X.K H a xs)(h':SqT X.K H a ys):xs=ys:=by
 obtain⟨its,r,⟨o,e,_,n,d⟩,_⟩:=I.tuple h;obtain⟨its',r',⟨o',e',_,n',d'⟩,_⟩:=I.tuple h';rw[e]at e';cases e';rw[d]at d';injection d' with d1 _;have:its=its':=by simpa using bf lV d1
 subst this;exact r.inj r'
end
abbrev Cx.wish(X:Cx)(E:aa->ab->Prop):Cx:={ X with xe:=E }
abbrev Cx.nox(X:Cx):Cx:=X.wish λ_ _=>False
theorem Cx.Ok.wish(ok:X.Ok)(E:aa->ab->Prop):(X.wish E).Ok:=
 ⟨ok.mod,ok.kind,ok.glob,ok.blt,ok.above,ok.inj,ok.has,ok.cab,ok.hd,ok.frames,ok.stk,ok.exf,ok.bs,ok.bsz,ok.noex,ok.exfs,ok.funs,ok.frf⟩
theorem Cx.Ok.unwish(ok:(X.wish E).Ok):X.Ok:=
 ⟨ok.mod,ok.kind,ok.glob,ok.blt,ok.above,ok.inj,ok.has,ok.cab,ok.hd,ok.frames,ok.stk,ok.exf,ok.bs,ok.bsz,ok.noex,ok.exfs,ok.funs,ok.frf⟩
section
variable{X:Cx}{pins:List (Addr×Obj)}{σ:St}{H:Hp}{s:ab}{E:aa->ab->Prop}
theorem Inv.wish(I:Inv X pins σ H s)(E:aa->ab->Prop):Inv (X.wish E) pins σ H s:=⟨I.ok.wish E,I.os,I.bare,I.base,I.loc,I.cell,I.free,I.freeC,I.pin,I.hok,I.len⟩
theorem Inv.unwish(I:Inv (X.wish E) pins σ H s):Inv X pins σ H s:=⟨I.ok.unwish,I.os,I.bare,I.base,I.loc,I.cell,I.free,I.freeC,I.pin,I.hok,I.len⟩
theorem SP.unwish{D:Ends}{f:Flow}(h:SP (X.wish E) pins D f s'):SP X pins D f s':=by
 cases f with
 |next=>obtain⟨σ',H',I,q⟩:=h;exact⟨σ',H',I.unwish,q⟩
 |brk=>obtain⟨σ',H',I,q⟩:=h;exact⟨σ',H',I.unwish,q⟩
 |cont=>obtain⟨σ',H',I,q⟩:=h;exact⟨σ',H',I.unwish,q⟩
 |ret u=>obtain⟨v,σ',H',I,r,q⟩:=h;exact⟨v,σ',H',I.unwish,r,q⟩
theorem PSs.nox{st:List Stmt}{t:TS}(h:PSs X.nox st t):PSs X st t:=λpins s σ H D I hw=>
 bt (h pins s σ H D (I.wish _) hw) (λ_ _ q=>q.unwish) λ_ _ z=>bO z
end
variable{tc:TT}
section
variable{X:Cx}{st:Stmt}{rest:List Stmt}{t u:TS}{e:Expr}{te:TE}{pos:Pos}
def RJ:TS:=λD σ H=>D.nx σ H
def T5(t u:TS):TS:=λD σ H=>t { D with nx:=u D } σ H
theorem Lc:PSs X [] RJ:=λ_ _ σ H _ I h=>gw ⟨σ,H,I,h⟩
theorem z9(h1:PS X st t)(h2:PSs X rest u):PSs X (st::rest) (T5 t u):=by
 intro pins s σ H D I h;refine kG (thn (h1 pins s σ H { D with nx:=u D } I h) λf s1 q=>?_);cases f with
 |next=>obtain⟨σ',H',I',q⟩:=q;exact h2 pins s1 σ' H' D I' q
 |ret v=>exact q
 |brk=>exact q
 |cont=>exact q
theorem CK(h1:PS X st t):PSs X [st] t:=by
 intro pins s σ H D I h;refine kG (thn (h1 pins s σ H D I h) λf s1 q=>?_);cases f with
 |next=>exact gw q
 |ret v=>exact q
 |brk=>exact q
 |cont=>exact q
theorem Inv.quiet{H:Hp}{s:ab}(I:Inv X pins σ H s):interactive X.env=false:=by simp[interactive,I.ok.kind]
def M7(te:TE):TS:=λD σ H=>te σ H λ_ H1=>D.nx σ H1
theorem FY(he:PE X e te)(hs:cz e none pos.line X.env=pure false:=by rfl):PS X (.Expr e pos) (M7 te):=by intro pins s σ H D I h;exact wpAny_Expr_any (thn (he pins s σ H _ I h) λv s1 ⟨x,H1,I1,r1,q1⟩=>⟨σ,H1,I1,q1⟩) I.quiet hs
def RK(te:TE):TS:=λD σ H=>te σ H D.rt
theorem ET(he:PE X e te):PS X (.Return (some e) pos) (RK te):=by intro pins s σ H D I h;exact wpAny_Return_some (thn (he pins s σ H _ I h) λv s1 ⟨x,H1,I1,r1,q1⟩=>⟨x,σ,H1,I1,r1,q1⟩)
def T6(c:TT)(t u:TS):TS:=λD σ H=>c σ H λb H1=>if b=true then t D σ H1 else u D σ H1
theorem RM{a b:List Stmt}(hc:PT X c tc)(ha:PSs X a t)(hb:PSs X b u):PS X (.If c a b pos) (T6 tc t u):=by
 intro pins s σ H D I h;refine wpAny_If (thn (hc pins s σ H _ I h) λd s1 zz=>?_);obtain⟨H1,I1,q1⟩:=zz;cases d with
 |true=>exact ha pins s1 σ H1 D I1 q1
 |false=>exact hb pins s1 σ H1 D I1 q1
end
abbrev TG:=V->St->Hp->(St->Hp->Prop)->Prop
abbrev TGs:=List V->St->Hp->(St->Hp->Prop)->Prop
def PG(X:Cx)(target:Expr)(t:TG):Prop:=
 ∀(pins:List (Addr×Obj)) (s:ab) (σ:St) (H:Hp) (v:V) (u:aa) (Q:St->Hp->Prop),Inv X pins σ H s->RelV v u->t v σ H Q->
  ae (model X.prog X.w) X.A (assign target X.env u) (λ_ s'=>∃σ' H',Inv X pins σ' H' s'/\Q σ' H') X.xe s
def PGs(X:Cx)(ts:List Expr)(t:TGs):Prop:=
 ∀(pins:List (Addr×Obj)) (s:ab) (σ:St) (H:Hp) (vs:List V) (us:List aa) (Q:St->Hp->Prop),Inv X pins σ H s->Vals vs us->t vs σ H Q->
  ae (model X.prog X.w) X.A (assignInOrder ((bJ ts X.env).map (·.2)) us) (λ_ s'=>∃σ' H',Inv X pins σ' H' s'/\Q σ' H') X.xe s
abbrev N1:=V->V->V->Hp->(Hp->Prop)->Prop
def RN(X:Cx)(t:N1):Prop:=
 ∀(pins:List (Addr×Obj)) (s:ab) (σ:St) (H:Hp) (o i v:V) (ov iv u:aa) (Q:Hp->Prop),Inv X pins σ H s->RelV o ov->RelV i iv->RelV v u->t o i v H Q->
  ae (model X.prog X.w) X.A (setItem ov iv u) (λ_ s'=>∃H',Inv X pins σ H' s'/\Q H') X.xe s
variable{es:List Expr}{tg:Expr}{te:TE}
section
variable{X:Cx}{pos:Pos}
def tN(i:Nat):TG:=λv σ H Q=>Q (σ.set i (some v)) H
theorem FZ(hN:X.N.Nodup)(hi:X.N[i]?=some x)(hx:Loc X.env.scope x)(hf:X.fn x=true\/X.env.scope.names.lookup x=some .local:=by first|exact .inl rfl|exact .inr rfl|assumption):PG X (.Name x pos) (tN i):=by intro pins s σ H v u Q I r h;exact wpAny_assign_Name (DH I hN hi hx r (λs' I'=>⟨_,H,I',h⟩) hf)
def RO:TGs:=λvs σ H Q=>vs=[]/\Q σ H
def M8(t:TG)(u:TGs):TGs:=λvs σ H Q=>∃v r,vs=v::r/\t v σ H λσ' H'=>u r σ' H' Q
theorem Ld:PGs X [] RO:=by intro pins s σ H vs us Q I r h;obtain⟨e,h⟩:=h;subst e;cases r;exact assignInOrder_nil ⟨σ,H,I,h⟩
theorem IB{t:TG}{u:TGs}(h1:PG X e t)(h2:PGs X es u)
  (hs:(bJ (e::es) X.env).map (·.2)=assign e X.env::(bJ es X.env).map (·.2):=by rfl):PGs X (e::es) (M8 t u):=by
 intro pins s σ H vs us Q I r h;obtain⟨v,vr,e1,h⟩:=h;subst e1;cases r with
 |cons r rr=>rw[hs];refine assignInOrder_cons (thn (h1 pins s σ H _ _ _ I r h) λ_ s1 zz=>?_);obtain⟨σ1,H1,I1,q1⟩:=zz;exact h2 pins s1 σ1 H1 _ _ Q I1 rr q1
def N2(K:ak)(n:Nat)(t:TGs):TG:=λv σ H Q=>∃a xs,v=.ref a/\SqT K H a xs/\xs.length=n/\t xs σ H Q
theorem N3{k:Nat}{t:TGs}{n:Nat}(hc:X.calm=true)(h:PGs X es t)
  (hn:(bJ es X.env).length=n:=by rfl) (hst:(bJ es X.env).findIdx? (·.1)=none:=by rfl):PG X (.Tuple es k pos) (N2 X.K n t):=by
 intro pins s σ H v u Q I r hw;obtain⟨a,xs,e1,hq,hl,hw⟩:=hw;subst e1;cases r;obtain⟨its,rv,ht,hz⟩:=I.tuple hq;refine assign_Tuple_tuple (I.ok.hd hc) ht (by simp[hn,<- hl,rv.length]) hst λh' hx=>?_;have I1:Inv X pins σ H { s with heap:=h' }:=I.kept (t':=s.toks) λb o e=>hx b o (aD (aA e)) e;exact h pins _ σ H xs _ Q I1 (by simpa using rv) hw
def RP(to ti:TE)(t:N1):TG:=λv σ H Q=>to σ H λo H1=>ti σ H1 λi H2=>t o i v H2 λH3=>Q σ H3
theorem N4{o i:Expr}{to ti:TE}{t:N1}(ho:PE X o to)(hi:PE X i ti)(hs:RN X t)
  (ha:∀v,assign (.Subscript o i pos) X.env v=(do
   let ov<-holding [v] (eval o X.env);let iv<-holding [v,ov] (eval i X.env)
   standAt pos
   holding [v,ov,iv] (setItem ov iv v)
   release [v,ov,iv] []):=by intro _;rfl):PG X (.Subscript o i pos) (RP to ti t):=by
 intro pins s σ H v u Q I r h;rw[ha];refine af (bz (thn (ho pins s σ H _ I h) λov s1 zz=>?_));obtain⟨x,H1,I1,r1,q1⟩:=zz;refine af (bz (thn (hi pins s1 σ H1 _ I1 q1) λiv s2 zz=>?_));obtain⟨y,H2,I2,r2,q2⟩:=zz;refine af (iU (af (bz (thn (hs pins s2 σ H2 x y v ov iv u _ I2 r1 r2 r q2) λ_ s3 zz=>?_))));obtain⟨H3,I3,q3⟩:=zz;exact wpAny_release ⟨σ,H3,I3,q3⟩
def xp(te:TE)(g:TG):TS:=λD σ H=>te σ H λx H1=>g x σ H1 D.nx
theorem IC{g:TG}(he:PE X e te)(hg:PG X tg g)(hs:swapsWithSole [tg] e pos.line X.env=pure false:=by rfl)(hw:swappedStores [tg] e X.env=pure none:=by rfl)
  (h1:(bJ [tg] X.env).map (·.2)=[assign tg X.env]:=by rfl):PS X (.Assign [tg] e pos) (xp te g):=by
 intro pins s σ H D I h;refine wpAny_Assign_stores (thn (he pins s σ H _ I h) λv s1 zz=>?_) hs hw;obtain⟨x,H1,I1,r1,q1⟩:=zz;rw[h1];exact thn (hg pins s1 σ H1 x v _ I1 r1 q1) λ_ s2 q=>q
theorem N5{pos':Pos}(hN:X.N.Nodup)(hi:X.N[i]?=some x)(hx:Loc X.env.scope x)(he:PE X e te)(hs:cz e (some (.Name x pos')) pos.line X.env=pure false:=by rfl)(hf:X.fn x=true\/X.env.scope.names.lookup x=some .local:=by first|exact .inl rfl|exact .inr rfl|assumption):
  PS X (.Assign [.Name x pos'] e pos) (xp te (tN i)):=by
 intro pins s σ H D I h;refine wpAny_Assign_Name (thn (he pins s σ H _ I h) λv s1 zz=>?_) hs;obtain⟨y,H1,I1,r1,q1⟩:=zz;exact DH I1 hN hi hx r1 (λs2 I2=>⟨_,H1,I2,q1⟩) hf
end
variable{body:List Stmt}{tb:TS}
section
variable{X:Cx}{pos:Pos}
def ID(c:TT)(tb:TS):TS:=λD σ H=>∃W:Nat->St->Hp->Prop,(∃m,W m σ H)/\∀m σ H,W m σ H->
 c σ H λb H1=>if b=true then ∃N:St->Hp->Prop,(∀σ' H',N σ' H'->∃m',m'<m/\W m' σ' H')/\tb { D with nx:=N,ct:=N,bk:=D.nx } σ H1 else D.nx σ H1
theorem IE(hp:gO (model X.prog X.w) X.A X.env X.xe)(hc:PT X c tc)(hb:PSs X body tb):PS X (.While c body [] pos) (ID tc tb):=by
 intro pins s σ H D I h;obtain⟨W,⟨m0,w0⟩,turn⟩:=h;refine wpAny_While (codeAny_whileLoop (λn s'=>∃σ' H',Inv X pins σ' H' s'/\W n σ' H') ?_ m0 ⟨σ,H,I,w0⟩);rintro n s1 ⟨σ1,H1,I1,w1⟩;refine dE hp (thn (hc pins s1 σ1 H1 _ I1 (turn n σ1 H1 w1)) λb s2 zz=>?_);obtain⟨H2,I2,q2⟩:=zz;cases b with
 |true=>
  obtain⟨N,hN,q2⟩:=q2;rw[ah rfl];refine dE hp (thn (hb pins s2 σ1 H2 _ I2 q2) λf s3 q3=>?_);cases f with
  |next=>obtain⟨σ3,H3,I3,n3⟩:=q3;obtain⟨m',hm,w3⟩:=hN σ3 H3 n3;exact⟨m',hm,σ3,H3,I3,w3⟩
  |cont=>obtain⟨σ3,H3,I3,n3⟩:=q3;obtain⟨m',hm,w3⟩:=hN σ3 H3 n3;exact⟨m',hm,σ3,H3,I3,w3⟩
  |brk=>exact q3
  |ret v=>exact q3
 |false=>rw[ag aN];exact gw ⟨σ1,H2,I2,q2⟩
end
structure It where
 go:Nat->Hp->Prop
 yld:Nat->Hp->V->Hp->Prop
 stop:Nat->Hp->Prop
def CL(X:Cx)(pins:List (Addr×Obj))(H:Hp)(b:Addr):Prop:=
 H b=none/\b≠X.env.locals/\b∉X.fs/\(b∈X.ex\/X.s₀.heap.objs.size<=b)/\(∀x c,X.env.cells.lookup x=some c->c≠b)/\∀p∈X.pn++pins,p.1≠b
theorem Inv.fpOk{H H':Hp}{s:ab}(I:Inv X pins σ H s)(hb:s.heap.objs.size<=b)(hn:H' b=none):CL X pins H' b:=by
 refine⟨hn,dQ (bx I.lt hb),I.nofs hb,.inr (bF I.sz hb),λx c e z=>?_,λp hp z=>?_⟩
 ·obtain⟨v,q⟩:=I.cell x c e;exact ai (bx q.lt (by rw[z];exact hb)) (dH _)
 ·exact ai (bx (aA (I.pin p hp).1) (by rw[z];exact hb)) (dH _)
structure Turn(P:aq)(w:aj)(K:ak)(tg:Expr)(J:It)(fp:List Addr)(it:Addr)(tn:Nat->Heap->Prop):Prop where
 mem:it∈fp
 obj:∀i h,tn i h->∀b∈fp,∃o,h.get? b=some o/\∀v,o.data≠.cell v
 keep:∀i h h',tn i h->(∀b∈fp,∀o,h.get? b=some o->h'.get? b=some o)->tn i h'
 item:∀(X:Cx),X.prog=P->X.w=w->X.K=K->X.calm=true->∀(i:Nat) (pins:List (Addr×Obj)) (s:ab) (σ:St) (H:Hp) (E:aa->ab->Prop),Inv X pins σ H s->(∀b∈fp,CL X pins H b)->tn i s.heap->J.go i H->
  ae (model P w) X.A (pyNext (.ref it)) (λr s1=>∃u,r=some u/\
   ae (model P w) X.A (eJ tg (.ref it) u) (λ_ s2=>∃x H',Inv X pins σ H' s2/\RelV x u/\J.yld i H x H'/\tn (i+1) s2.heap/\∀b∈fp,H' b=none) E s1) E s
 done:∀(X:Cx),X.prog=P->X.w=w->X.K=K->X.calm=true->∀(i:Nat) (pins:List (Addr×Obj)) (s:ab) (σ:St) (H:Hp) (E:aa->ab->Prop),Inv X pins σ H s->(∀b∈fp,CL X pins H b)->tn i s.heap->J.stop i H->
  ae (model P w) X.A (pyNext (.ref it)) (λr s1=>r=none/\Inv X pins σ H s1) E s
 self:∀(A:ar) (i:Nat) (s:ab) (Q:aa->ab->Prop) (E:aa->ab->Prop),tn i s.heap->Q (.ref it) s->ae (model P w) A (pyIter (.ref it)) Q E s
abbrev TI:=St->Hp->(It->Hp->Prop)->Prop
def PIE(X:Cx)(pins:List (Addr×Obj))(σ:St)(tg:Expr)(R:It->Hp->Prop)(itv:aa)(s2:ab):Prop:=
 ∃(it:Addr) (fp:List Addr) (tn:Nat->Heap->Prop) (J:It) (H':Hp),itv=.ref it/\Inv X pins σ H' s2/\Turn X.prog X.w X.K tg J fp it tn/\tn 0 s2.heap/\(∀b∈fp,CL X pins H' b)/\R J H'
def PI(X:Cx)(tg iter:Expr)(wi:TI):Prop:=
 ∀(pins:List (Addr×Obj)) (s:ab) (σ:St) (H:Hp) (R:It->Hp->Prop),Inv X pins σ H s->wi σ H R->
  ae (model X.prog X.w) X.A (eval iter X.env) (λv s1=>ae (model X.prog X.w) X.A (pyIter v) (PIE X pins σ tg R) X.xe s1) X.xe s
theorem F0{A:ar}{s:ab}{o:Obj}{n:String}{vs:Array aa}{Q:Unit->ab->Prop}(ho:s.heap.get? it=some o)(hc:o.cls=.type n)(hd:o.data=.fields vs)
  (hn:["enumerate", "zip", "dict_itemiterator", "dict_reverseitemiterator", "odict_iterator", "itertools.zip_longest", "itertools.pairwise"].contains n=false) (hQ:Q () s):ae M A (eJ tg (.ref it) u) Q E s:=by
 unfold eJ;cases tg<;>first
  |exact ao hQ
  |(cases u<;>first
    |exact ao hQ
    |(refine af (wpAny_load ho ?_)
      rw[hc,hd];show ae M A (if (["enumerate", "zip", "dict_itemiterator", "dict_reverseitemiterator", "odict_iterator", "itertools.zip_longest", "itertools.pairwise"].contains n&&vs[0]?==some (rawInt _))=true then _ else _) Q E s;rw[ag (by intro h;rw[hn,lb]at h;cases h)];exact ao hQ))
def Itl(K:ak)(a:Addr):It:=
 ⟨λi H=>∃xs x,SqL K H a xs/\xs[i]?=some x,λi H x H'=>H'=H/\∀xs,SqL K H a xs->xs[i]?=some x,λi H=>∃xs,SqL K H a xs/\xs.length<=i⟩
def Itt(K:ak)(a:Addr):It:=
 ⟨λi H=>∃xs x,SqT K H a xs/\xs[i]?=some x,λi H x H'=>H'=H/\∀xs,SqT K H a xs->xs[i]?=some x,λi H=>∃xs,SqT K H a xs/\xs.length<=i⟩
def Itr(lo:Int)(n:Nat):It:=⟨λi _=>i<n,λi H x H'=>H'=H/\x=.int (lo+i),λi _=>n<=i⟩
theorem G7{P:aq}{w:aj}{K:ak}(a it:Addr):Turn P w K tg (Itl K a) [it] it (λi h=>h.IsListIter it a i) where
 mem:=by simp
 obj:=λi h st b hb=>by
  have e:b=it:=by simpa using hb
  subst e;obtain⟨o,e,c,d⟩:=st;exact⟨o,e,λv z=>by rw[d]at z;cases z⟩
 keep:=λi h h' st k=>st.at λo e=>k it (by simp) o e
 item:=by intro X hP hw hK hc i pins s σ H E I hf st hg;subst hP hw hK;obtain⟨xs,x,hq,hx⟩:=hg;obtain⟨its,rv,p,hz⟩:=I.list hq;obtain⟨u,hu,ru⟩:=rv.get hx;obtain⟨f0,f1,f2,f3,f4,f5⟩:=hf it (by simp);refine wpAny_pyNext_list_item st p.isList (x:=u) (by simpa using hu) λh' st' sb=>?_;have I1:Inv X pins σ H { s with heap:=h' }:=I.turned (t':=s.toks) (λb o hb e=>(sb.2 b hb).trans e) f0 f1 f3 f4 f5;obtain⟨o,e,c,d⟩:=id st';exact⟨u,rfl,F0 (s:={ s with heap:=h' }) e c d (by decide) ⟨x,H,I1,ru,⟨rfl,λys hy=>by rw[I.list_inj hy hq];exact hx⟩,st',λb hb=>(hf b hb).1⟩⟩
 done:=by intro X hP hw hK hc i pins s σ H E I hf st hg;subst hP hw hK;obtain⟨xs,hq,hx⟩:=hg;obtain⟨its,rv,p,hz⟩:=I.list hq;obtain⟨f0,f1,f2,f3,f4,f5⟩:=hf it (by simp);have hl:=rv.length;exact wpAny_pyNext_list_end (I.ok.hd hc) st p.isList (by simp;omega) λh' eb=>⟨rfl,I.turned (t':=s.toks) (λb o hb e=>eb b o hb e) f0 f1 f3 f4 f5⟩
 self:=λ_ _ _ _ _ st h=>wpAny_pyIter_listiter st h
theorem EU{P:aq}{w:aj}{K:ak}(a it:Addr):Turn P w K tg (Itt K a) [it] it (λi h=>h.IsTupleIter it a i) where
 mem:=by simp
 obj:=λi h st b hb=>by
  have e:b=it:=by simpa using hb
  subst e;obtain⟨o,e,c,d⟩:=st;exact⟨o,e,λv z=>by rw[d]at z;cases z⟩
 keep:=λi h h' st k=>st.at λo e=>k it (by simp) o e
 item:=by intro X hP hw hK hc i pins s σ H E I hf st hg;subst hP hw hK;obtain⟨xs,x,hq,hx⟩:=hg;obtain⟨its,rv,p,hz⟩:=I.tuple hq;obtain⟨u,hu,ru⟩:=rv.get hx;obtain⟨f0,f1,f2,f3,f4,f5⟩:=hf it (by simp);refine wpAny_pyNext_tuple_item st (show s.heap.IsTuple a its.toArray from p) (x:=u) (by simpa using hu) λh' st' sb=>?_;have I1:Inv X pins σ H { s with heap:=h' }:=I.turned (t':=s.toks) (λb o hb e=>(sb.2 b hb).trans e) f0 f1 f3 f4 f5;obtain⟨o,e,c,d⟩:=id st';exact⟨u,rfl,F0 (s:={ s with heap:=h' }) e c d (by decide) ⟨x,H,I1,ru,⟨rfl,λys hy=>by rw[I.tuple_inj hy hq];exact hx⟩,st',λb hb=>(hf b hb).1⟩⟩
 done:=by intro X hP hw hK hc i pins s σ H E I hf st hg;subst hP hw hK;obtain⟨xs,hq,hx⟩:=hg;obtain⟨its,rv,p,hz⟩:=I.tuple hq;obtain⟨f0,f1,f2,f3,f4,f5⟩:=hf it (by simp);have hl:=rv.length;exact wpAny_pyNext_tuple_end (I.ok.hd hc) st (show s.heap.IsTuple a its.toArray from p) (by simp;omega) λh' eb=>⟨rfl,I.turned (t':=s.toks) (λb o hb e=>eb b o hb e) f0 f1 f3 f4 f5⟩
 self:=λ_ _ _ _ _ st h=>wpAny_pyIter_tupleiter st h
theorem EV{P:aq}{w:aj}{K:ak}(it:Addr)(lo:Int)(n:Nat):Turn P w K tg (Itr lo n) [it] it (λi h=>IsRangeIter h it (lo+(i:Nat) * 1) ((n:Int) - (i:Nat)) 1) where
 mem:=by simp
 obj:=λi h st b hb=>by
  have e:b=it:=by simpa using hb
  subst e;exact⟨_,st,λv z=>by
   have z':Data.fields _=Data.cell v:=z;cases z'⟩
 keep:=λi h h' st k=>k it (by simp) _ st
 item:=by intro X hP hw hK hc i pins s σ H E I hf st hg;subst hP hw hK;obtain⟨f0,f1,f2,f3,f4,f5⟩:=hf it (by simp);have W:=Walks.range (prog:=X.prog) (w:=X.w) (I.ok.hd hc) it lo 1 n;refine W.item i s _ _ hg st λv h' tk hv st' kk=>?_;obtain⟨t,rfl⟩:=hv;have I1:Inv X pins σ H { s with heap:=h',toks:=tk }:=I.turned (λb o hb e=>kk b o (by simpa using hb) e) f0 f1 f3 f4 f5;refine⟨_,rfl,F0 (s:={ s with heap:=h',toks:=tk }) (n:="range_iterator") st' rfl rfl (by decide) ⟨.int (lo+i),H,I1,⟨t,?_⟩,⟨rfl,rfl⟩,st',λb hb=>(hf b hb).1⟩⟩;rw[Int.mul_one]
 done:=by intro X hP hw hK hc i pins s σ H E I hf st hg;subst hP hw hK;obtain⟨f0,f1,f2,f3,f4,f5⟩:=hf it (by simp);exact wpAny_pyNext_range_end (I.ok.hd hc) st (by have:n<=i:=hg;omega) λh' eb=>⟨rfl,I.turned (t':=s.toks) (λb o hb e=>eb b o hb e) f0 f1 f3 f4 f5⟩
 self:=λ_ _ _ _ _ st h=>wpAny_pyIter_rangeiter st h
variable{l:Expr}{tl:TE}{ta:TA}
section
variable{X:Cx}{tg:Expr}
def IF(K:ak)(tl:TE):TI:=λσ H R=>tl σ H λx H1=>∃a,x=.ref a/\(∃xs,SqL K H1 a xs)/\R (Itl K a) H1
def N6(K:ak)(tl:TE):TI:=λσ H R=>tl σ H λx H1=>∃a,x=.ref a/\(∃xs,SqT K H1 a xs)/\R (Itt K a) H1
theorem Le(hl:PE X l tl):PI X tg l (IF X.K tl):=by
 intro pins s σ H R I h;refine thn (hl pins s σ H _ I h) λv s1 zz=>?_;obtain⟨x,H1,I1,r1,q1⟩:=zz;obtain⟨a,e,⟨xs,hq⟩,q⟩:=q1;subst e;cases r1;obtain⟨its,rv,p,hz⟩:=I1.list hq;refine d0 p.isList ?_;refine⟨s1.heap.objs.size,[s1.heap.objs.size],_,_,H1,rfl,I1.kept (t':=s1.toks) λb o e=>az _ e,G7 a _,⟨_,aQ _ rfl,rfl,rfl⟩,λb hb=>?_,q⟩;have e:b=s1.heap.objs.size:=by simpa using hb
 subst e;exact I1.fpOk (ay _) (I1.hok.fresh (ay _))
theorem N7(hl:PE X l tl):PI X tg l (N6 X.K tl):=by
 intro pins s σ H R I h;refine thn (hl pins s σ H _ I h) λv s1 zz=>?_;obtain⟨x,H1,I1,r1,q1⟩:=zz;obtain⟨a,e,⟨xs,hq⟩,q⟩:=q1;subst e;cases r1;obtain⟨its,rv,p,hz⟩:=I1.tuple hq;refine ie (show s1.heap.IsTuple a its.toArray from p) ?_;refine⟨s1.heap.objs.size,[s1.heap.objs.size],_,_,H1,rfl,I1.kept (t':=s1.toks) λb o e=>az _ e,EU a _,⟨_,aQ _ rfl,rfl,rfl⟩,λb hb=>?_,q⟩;have e:b=s1.heap.objs.size:=by simpa using hb
 subst e;exact I1.fpOk (ay _) (I1.hok.fresh (ay _))
theorem DI{H:Hp}{s:ab}{R:It->Hp->Prop}{lo hi:Int}{t u v:Tok}{tk:Nat}(I:Inv X pins σ H s)(h1:-(2 ^ 62)<=lo)(h2:lo<2 ^ 62)(h3:-(2 ^ 62)<=hi)(h4:hi<2 ^ 62)
  (q:R (Itr lo (hi - lo).toNat) H):ae (model X.prog X.w) X.A (pyIter (.ref s.heap.objs.size)) (PIE X pins σ tg R) E { s with heap:=s.heap.push { cls:=.type "range", data:=.fields #[.int lo t,.int hi u,.int 1 v] },toks:=tk }:=by
 refine wpAny_pyIter_range (IsRange.new ..) (small_one h1 h2 h3 h4) ?_;have I1:Inv X pins σ H { s with heap:=s.heap.push { cls:=.type "range", data:=.fields #[.int lo t,.int hi u,.int 1 v] },toks:=tk }:=I.kept λb o e=>az _ e;refine⟨(s.heap.push { cls:=.type "range", data:=.fields #[.int lo t,.int hi u,.int 1 v] }).objs.size,[(s.heap.push { cls:=.type "range", data:=.fields #[.int lo t,.int hi u,.int 1 v] }).objs.size],_,_,H,rfl,
  I1.kept (t':=tk) λb o e=>az _ e,EV _ lo (hi - lo).toNat,?_,λb hb=>?_,q⟩
 ·have e1:lo+((0:Nat):Int) * 1=lo:=by simp
  have e2:(((hi - lo).toNat:Nat):Int) - ((0:Nat):Int)=m5 lo hi 1:=by rw[rangeSize_one];split<;>omega
  show IsRangeIter _ _ (lo+((0:Nat):Int) * 1) ((((hi - lo).toNat:Nat):Int) - ((0:Nat):Int)) 1;rw[e1,e2];exact aQ _ rfl
 ·have e:b=(s.heap.push { cls:=.type "range", data:=.fields #[.int lo t,.int hi u,.int 1 v] }).objs.size:=by simpa using hb
  subst e;exact I1.fpOk (ay _) (I1.hok.fresh (ay _))
def M9(ta:TA):TI:=λσ H R=>ta σ H λvs H1=>∃j:Int,vs=[.int j]/\-(2 ^ 62)<=j/\j<2 ^ 62/\R (Itr 0 j.toNat) H1
def Na(ta:TA):TI:=λσ H R=>ta σ H λvs H1=>∃i j:Int,vs=[.int i,.int j]/\(-(2 ^ 62)<=i/\i<2 ^ 62/\-(2 ^ 62)<=j/\j<2 ^ 62)/\R (Itr i (j - i).toNat) H1
theorem G8{a:Expr}{p:Pos}(hg:Gl X "range")(hm:X.mg "range" = none)(ha:PA X [a] ta)(hs:au [a] X.env=[(false,eval a X.env)]:=by rfl):PI X tg (.Call (.Name "range" p) [a] [] pos) (M9 ta):=by
 intro pins s σ H R I h;refine Call_ (ue I hg hm boot_range (callWith_type1 (thn (ha pos pins s σ H _ I h) λus s1 zz=>?_) hs rfl));obtain⟨vs,H1,I1,r1,q1⟩:=zz;obtain⟨j,e,q1,q2,q⟩:=q1;subst e;cases r1 with
 |cons r rr=>cases rr;obtain⟨t,rfl⟩:=r;exact call_range_1 (DI I1 (by omega) (by omega) q1 q2 (by simpa using q))
theorem G9{a b:Expr}{p:Pos}(hg:Gl X "range")(hm:X.mg "range" = none)(ha:PA X [a,b] ta)(hs:au [a,b] X.env=[(false,eval a X.env),(false,eval b X.env)]:=by rfl)(hs2:au [b] X.env=[(false,eval b X.env)]:=by rfl):
  PI X tg (.Call (.Name "range" p) [a,b] [] pos) (Na ta):=by
 intro pins s σ H R I h;refine Call_ (ue I hg hm boot_range (callWith_type1 (thn (ha pos pins s σ H _ I h) λus s1 zz=>?_) (by rw[hs,hs2]) (by rw[hs2];rfl)));obtain⟨vs,H1,I1,r1,q1⟩:=zz;obtain⟨i,j,e,⟨q1,q2,q3,q4⟩,q⟩:=q1;subst e;cases r1 with
 |cons r rr=>
  cases rr with
  |cons r' rr=>cases rr;obtain⟨t,rfl⟩:=r;obtain⟨t',rfl⟩:=r';exact call_range_2 (DI I1 q1 q2 q3 q4 q)
def N8(wi:TI)(g:TG)(tb:TS):TS:=λD σ H=>wi σ H λJ H1=>∃W:Nat->Nat->St->Hp->Prop,(∃m,W 0 m σ H1)/\∀i m σ H,W i m σ H->
 (J.stop i H/\D.nx σ H)\/(J.go i H/\∃N:St->Hp->Prop,(∀σ' H',N σ' H'->∃m',m'<m/\W (i+1) m' σ' H')/\∀x H',J.yld i H x H'->g x σ H' λσ2 H2=>tb { D with nx:=N,ct:=N,bk:=D.nx } σ2 H2)
def Aa(fp:List Addr)(h:Heap):List (Addr×Obj):=fp.filterMap λb=>(h.get? b).map λo=>(b,o)
theorem sg{fp:List Addr}{h:Heap}{o:Obj}(hb:b∈fp)(e:h.get? b=some o):(b,o)∈Aa fp h:=fq.mpr ⟨b,hb,by rw[e];rfl⟩
theorem He{fp:List Addr}{h:Heap}{p:Addr×Obj}(hp:p∈Aa fp h):p.1∈fp/\h.get? p.1=some p.2:=by
 obtain⟨b,hb,e⟩:=fq.mp hp;cases q:h.get? b with
 |none=>rw[q]at e;cases e
 |some o=>rw[q]at e;have e':(b,o)=p:=bB e;subst e';exact⟨hb,q⟩
theorem Inv.pinned{H:Hp}{s:ab}{fp:List Addr}(I:Inv X pins σ H s)(hf:∀b∈fp,CL X pins H b)(ho:∀b∈fp,∃o,s.heap.get? b=some o/\∀v,o.data≠.cell v):Inv X (pins++Aa fp s.heap) σ H s:=
 I.pins_of λp hp=>(dD.mp hp).elim (λz=>I.pin p (bM _ z)) λz=>by obtain⟨hb,e⟩:=He z;obtain⟨f0,f1,f2,_⟩:=hf p.1 hb;obtain⟨o,e',d⟩:=ho p.1 hb;rw[e]at e';cases e';exact⟨e,f0,f1,f2,d⟩
theorem Inv.unpinned{pl:List (Addr×Obj)}{H:Hp}{s:ab}(I:Inv X (pins++pl) σ H s):Inv X pins σ H s:=I.pins_of λp hp=>I.pin p (bM _ (f9 _ hp))
theorem IG{iter:Expr}{wi:TI}{g:TG}(hp:gO (model X.prog X.w) X.A X.env X.xe)(hc:X.calm=true)(hi:PI X tg iter wi)(hg:PG X tg g)(hb:PSs X body tb)
  (hs:∀x,fA iter X.env x=pure x:=by intro _;rfl):PS X (.For tg iter body [] pos) (N8 wi g tb):=by
 intro pins s σ H D I h;refine wpAny_For (thn (hi pins s σ H _ I h) λv s1 h1=>thn h1 λitv s2 h2=>?_) hs;obtain⟨it,fp,tn,J,H2,e,I2,T,st2,f2,W,⟨m0,w0⟩,turn⟩:=h2;subst e;have stat:∀{H':Hp},(∀b∈fp,H' b=none)->∀b∈fp,CL X pins H' b:=λhn b hb=>⟨hn b hb,(f2 b hb).2⟩;refine codeAny_forLoop_any (λn s'=>∃i σ' H',Inv X pins σ' H' s'/\tn i s'.heap/\(∀b∈fp,H' b=none)/\W i n σ' H') ?_ m0 ⟨0,σ,H2,I2,st2,λb hb=>(f2 b hb).1,w0⟩;rintro n s3 ⟨i,σ3,H3,I3,st3,fr3,w3⟩;rcases turn i n σ3 H3 w3 with ⟨stop,qn⟩|⟨go,N,hN,step⟩
 ·refine dE hp (thn (T.done X rfl rfl rfl hc i pins s3 σ3 H3 X.xe I3 (stat fr3) st3 stop) λr s4 zz=>?_);obtain⟨hr,I4⟩:=zz;subst hr;exact gw ⟨σ3,H3,I4,qn⟩
 ·refine dE hp (thn (T.item X rfl rfl rfl hc i pins s3 σ3 H3 X.xe I3 (stat fr3) st3 go) λr s4 zz=>?_);obtain⟨u,hr,h4⟩:=zz;subst hr;refine dE hp (thn h4 λ_ s5 zz=>?_);obtain⟨x,H5,I5,r5,y5,st5,fr5⟩:=zz;have I5':=I5.pinned (stat fr5) (T.obj _ _ st5);refine dE hp (thn (hg _ s5 σ3 H5 x u _ I5' r5 (step x H5 y5)) λ_ s6 zz=>?_);obtain⟨σ6,H6,I6,q6⟩:=zz;refine dE hp (thn (hb _ s6 σ6 H6 _ I6 q6) λf s7 q7=>?_);have again:∀{σ7:St} {H7:Hp},Inv X (pins++Aa fp s5.heap) σ7 H7 s7->N σ7 H7->∃m,m<n/\∃i σ' H',Inv X pins σ' H' s7/\tn i s7.heap/\(∀b∈fp,H' b=none)/\W i m σ' H':=λ{σ7 H7} I7 n7=>by obtain⟨m',hm,w7⟩:=hN σ7 H7 n7;refine⟨m',hm,i+1,σ7,H7,I7.unpinned,T.keep _ _ _ st5 λb hb o e=>(I7.pin (b,o) (bM _ (bM _ (sg hb e)))).1,λb hb=>?_,w7⟩;obtain⟨o,e,d⟩:=T.obj _ _ st5 b hb;exact(I7.pin (b,o) (bM _ (bM _ (sg hb e)))).2.1
  cases f with
  |next=>obtain⟨σ7,H7,I7,n7⟩:=q7;exact again I7 n7
  |cont=>obtain⟨σ7,H7,I7,n7⟩:=q7;exact again I7 n7
  |brk=>obtain⟨σ7,H7,I7,q7⟩:=q7;exact⟨σ7,H7,I7.unpinned,q7⟩
  |ret v=>obtain⟨x7,σ7,H7,I7,r7,q7⟩:=q7;exact⟨x7,σ7,H7,I7.unpinned,r7,q7⟩
end
abbrev R2:=V->V->Hp->VK->Prop
def OpR(X:Cx)(f:aa->aa->Sem aa)(r:R2):Prop:=
 ∀(pins:List (Addr×Obj)) (s:ab) (σ:St) (H:Hp) (x y:V) (v u:aa) (Q:VK),Inv X pins σ H s->RelV x v->RelV y u->r x y H Q->
  ae (model X.prog X.w) X.A (f v u) (EP X pins σ Q) X.xe s
def pK(X:Cx)(f:aa)(r:List V->Hp->VK->Prop):Prop:=
 ∀(pins:List (Addr×Obj)) (s:ab) (σ:St) (H:Hp) (xs:List V) (us:List aa) (Q:VK),Inv X pins σ H s->Vals xs us->r xs H Q->
  ae (model X.prog X.w) X.A (call f us) (EP X pins σ Q) X.xe s
def tOp(r:R2)(ta tb:TE):TE:=λσ H Q=>ta σ H λx H1=>tb σ H1 λy H2=>r x y H2 Q
def rI(C:Int->Int->Prop)(g:Int->Int->V):R2:=λx y H Q=>∃i j,x=.int i/\y=.int j/\C i j/\Q (g i j) H
def rI0(g:Int->Int->V):R2:=λx y H Q=>∃i j,x=.int i/\y=.int j/\Q (g i j) H
variable{f:aa->aa->Sem aa}{r:R2}
section
variable{X:Cx}{a b c:Expr}{ta tb tc:TE}{pos:Pos}
theorem N9(ha:PE X a ta)(hb:PE X b tb){s:ab}{H:Hp}(I:Inv X pins σ H s)
  (h:ta σ H λx H1=>tb σ H1 λy H2=>R x y H2)
  (hf:∀v u s2 x y H2,Inv X pins σ H2 s2->RelV x v->RelV y u->R x y H2->ae (model X.prog X.w) X.A (f v u) Q X.xe s2):
  ae (model X.prog X.w) X.A (eval a X.env) (λv s₁=>ae (model X.prog X.w) X.A (eval b X.env) (λu s₂=>ae (model X.prog X.w) X.A (f v u) Q X.xe s₂) X.xe s₁) X.xe s:=by
 refine thn (ha pins s σ H _ I h) λv s1 zz=>?_;obtain⟨x,H1,I1,r1,q1⟩:=zz;refine thn (hb pins s1 σ H1 _ I1 q1) λu s2 zz=>?_;obtain⟨y,H2,I2,r2,q2⟩:=zz;exact hf v u s2 x y H2 I2 r1 r2 q2
theorem IH{op:gQ}(ho:OpR X (bP op) r)(ha:PE X a ta)(hb:PE X b tb):PE X (.BinOp a op b pos) (tOp r ta tb):=by intro pins s σ H Q I h;exact wpAny_BinOp (N9 ha hb I h λv u s2 x y H2 I2 rx ry q=>ho pins s2 σ H2 x y v u Q I2 rx ry q)
theorem opI{C:Int->Int->Prop}{g:Int->Int->Int}
  (rule:∀(i j:Int) (t u:Tok) (s:ab) (Q:aa->ab->Prop) (E:aa->ab->Prop),C i j->Q (.int (g i j) s.toks) { s with toks:=s.toks+1 }->ae (model X.prog X.w) X.A (f (.int i t) (.int j u)) Q E s):
  OpR X f (rI C λi j=>.int (g i j)):=by
 intro pins s σ H x y v u Q I rx ry h;obtain⟨i,j,rfl,rfl,hc,q⟩:=h;obtain⟨t,rfl⟩:=rx;obtain⟨t',rfl⟩:=ry;exact rule i j t t' s _ _ hc ⟨.int (g i j),H,I.tok _,⟨_,rfl⟩,q⟩
theorem RQ{g:Int->Int->Int}
  (rule:∀(i j:Int) (t u:Tok) (s:ab) (Q:aa->ab->Prop) (E:aa->ab->Prop),Q (.int (g i j) s.toks) { s with toks:=s.toks+1 }->ae (model X.prog X.w) X.A (f (.int i t) (.int j u)) Q E s):
  OpR X f (rI0 λi j=>.int (g i j)):=by
 intro pins s σ H x y v u Q I rx ry h;obtain⟨i,j,rfl,rfl,q⟩:=h;obtain⟨t,rfl⟩:=rx;obtain⟨t',rfl⟩:=ry;exact rule i j t t' s _ _ ⟨.int (g i j),H,I.tok _,⟨_,rfl⟩,q⟩
theorem Lf{g:Int->Int->Bool}
  (rule:∀(i j:Int) (t u:Tok) (s:ab) (Q:aa->ab->Prop) (E:aa->ab->Prop),Q (.bool (g i j)) s->ae (model X.prog X.w) X.A (f (.int i t) (.int j u)) Q E s):
  OpR X f (rI0 λi j=>.bl (g i j)):=by
 intro pins s σ H x y v u Q I rx ry h;obtain⟨i,j,rfl,rfl,q⟩:=h;obtain⟨t,rfl⟩:=rx;obtain⟨t',rfl⟩:=ry;exact rule i j t t' s _ _ ⟨.bl (g i j),H,I,rfl,q⟩
def Oa(i j:Int):Prop:=0<j/\j<1073741824
def RR(i j:Int):Prop:=0<=j/\j<=1000000/\i.natAbs<2 ^ 64
def Lg(i j:Int):Prop:=(-(2 ^ 64)<i/\i<2 ^ 64)\/(-(2 ^ 64)<j/\j<2 ^ 64)
theorem Lg.ok{i j:Int}(h:Lg i j):IntMulOk i j:=by
 rcases h with ⟨h1,h2⟩|⟨h1,h2⟩
 ·exact .of_left (lH h1 h2)
 ·exact .of_right (lH h1 h2)
theorem Ob:OpR X (bP .Add) (rI0 λi j=>.int (i+j)):=RQ λ_ _ _ _ _ _ _ q=>add_int q
theorem Od:OpR X (bP .Sub) (rI0 λi j=>.int (i - j)):=RQ λ_ _ _ _ _ _ _ q=>sub_int q
theorem Oe:OpR X (bP .Mult) (rI Lg λi j=>.int (i * j)):=opI λ_ _ _ _ _ _ _ hc q=>mul_int q hc.ok
theorem Lh:OpR X (bP .FloorDiv) (rI Oa λi j=>.int (i / j)):=opI λi j _ _ _ _ _ hc q=>by have h1:(0:Int)<j:=hc.1;have h2:j<1073741824:=hc.2;exact floordiv_int (by omega) (by rw[Int.fdiv_eq_ediv_of_nonneg i (by omega)];exact q) (.inl (PyProof.noPylong_small (by omega)))
theorem Of:OpR X (bP .Mod) (rI (λ_ j=>0<j) λi j=>.int (i % j)):=opI λi j _ _ _ _ _ hc q=>by have h1:(0:Int)<j:=hc;exact mod_int' (by omega) (by rw[Int.fmod_eq_emod_of_nonneg i (by omega)];exact q)
theorem Og:OpR X (bP .Pow) (rI RR λi j=>.int (i ^ j.toNat)):=opI λ_ _ _ _ _ _ _ hc q=>pow_int_small hc.1 hc.2.1 hc.2.2 q
end
def II:V->V->Bool
 |.non,.non=>true|.non,.int _=>true|.int _,.non=>true|.non,.bl _=>true|.bl _,.non=>true|.non,.str _=>true|.str _,.non=>true
 |.int _,.int _=>true|.bl _,.bl _=>true|.str _,.str _=>true|.byt _,.byt _=>true
 |.int _,.str _=>true|.str _,.int _=>true|.bl _,.str _=>true|.str _,.bl _=>true
 |_,_=>false
def rEq:R2:=λx y H Q=>II x y=true/\Q (.bl (decide (x=y))) H
def rNe:R2:=λx y H Q=>II x y=true/\Q (.bl (!decide (x=y))) H
theorem F1{i j:Int}:decide (V.int i=V.int j)=(i==j):=by rw[cp];simp
theorem IJ{i j:Bool}:decide (V.bl i=V.bl j)=(i==j):=by rw[cp];simp
theorem F2{i j:Str}:decide (V.str i=V.str j)=(i==j):=by rw[cp];simp
theorem F3{i j:Array UInt8}:decide (V.byt i=V.byt j)=(i.toList==j.toList):=by rw[cp];cases i;cases j;simp
variable{op':dU}{r':R2}
section
variable{X:Cx}{a b c:Expr}{ta tb tc:TE}{pos:Pos}
theorem oX{H:Hp}{s:ab}{Q:VK}{k k':Bool}(I:Inv X pins σ H s)(q:Q (.bl k) H)(e:k=k'):EP X pins σ Q (.bool k') s:=by subst e;exact⟨.bl k,H,I,rfl,q⟩
theorem RT:OpR X (aO .Eq) rEq:=by
 intro pins s σ H x y v u Q I rx ry h;obtain⟨hs,q⟩:=h;cases x with
 |non=>
  cases rx;cases y with
  |non=>cases ry;exact mE (oX I q (by simp))
  |bl j=>cases ry;exact mF (oX I q (by simp))
  |int j=>obtain⟨t',rfl⟩:=ry;exact mO (oX I q (by simp))
  |str j=>obtain⟨t',rfl⟩:=ry;exact mP (oX I q (by simp))
  |_=>exact ai (show false=true from hs) aN
 |bl i=>
  cases rx;cases y with
  |non=>cases ry;exact mG (oX I q (by simp))
  |bl j=>cases ry;exact eq_bool (oX I q IJ)
  |str j=>obtain⟨t',rfl⟩:=ry;exact mH (oX I q (by simp))
  |_=>exact ai (show false=true from hs) aN
 |int i=>
  obtain⟨t,rfl⟩:=rx;cases y with
  |non=>cases ry;exact mQ (oX I q (by simp))
  |int j=>obtain⟨t',rfl⟩:=ry;exact eq_int (oX I q F1)
  |str j=>obtain⟨t',rfl⟩:=ry;exact mR (oX I q (by simp))
  |_=>exact ai (show false=true from hs) aN
 |str i=>
  obtain⟨t,rfl⟩:=rx;cases y with
  |non=>cases ry;exact mS (oX I q (by simp))
  |bl j=>cases ry;exact mI (oX I q (by simp))
  |int j=>obtain⟨t',rfl⟩:=ry;exact mT (oX I q (by simp))
  |str j=>obtain⟨t',rfl⟩:=ry;exact eq_str (oX I q F2)
  |_=>exact ai (show false=true from hs) aN
 |byt i=>
  obtain⟨t,rfl⟩:=rx;cases y with
  |byt j=>obtain⟨t',rfl⟩:=ry;exact W.eq_bytes (oX I q F3)
  |_=>exact ai (show false=true from hs) aN
 |_=>cases y<;>exact ai (show false=true from hs) aN
theorem RU:OpR X (aO .NotEq) rNe:=by
 intro pins s σ H x y v u Q I rx ry h;obtain⟨hs,q⟩:=h;cases x with
 |non=>
  cases rx;cases y with
  |non=>cases ry;exact mJ (oX I q (by simp))
  |bl j=>cases ry;exact mK (oX I q (by simp))
  |int j=>obtain⟨t',rfl⟩:=ry;exact mU (oX I q (by simp))
  |str j=>obtain⟨t',rfl⟩:=ry;exact mV (oX I q (by simp))
  |_=>exact ai (show false=true from hs) aN
 |bl i=>
  cases rx;cases y with
  |non=>cases ry;exact mL (oX I q (by simp))
  |bl j=>cases ry;exact ne_bool (oX I q (bf not IJ))
  |str j=>obtain⟨t',rfl⟩:=ry;exact mM (oX I q (by simp))
  |_=>exact ai (show false=true from hs) aN
 |int i=>
  obtain⟨t,rfl⟩:=rx;cases y with
  |non=>cases ry;exact mW (oX I q (by simp))
  |int j=>obtain⟨t',rfl⟩:=ry;exact ne_int (oX I q (bf not F1))
  |str j=>obtain⟨t',rfl⟩:=ry;exact mX (oX I q (by simp))
  |_=>exact ai (show false=true from hs) aN
 |str i=>
  obtain⟨t,rfl⟩:=rx;cases y with
  |non=>cases ry;exact mY (oX I q (by simp))
  |bl j=>cases ry;exact mN (oX I q (by simp))
  |int j=>obtain⟨t',rfl⟩:=ry;exact mZ (oX I q (by simp))
  |str j=>obtain⟨t',rfl⟩:=ry;exact ne_str (oX I q (bf not F2))
  |_=>exact ai (show false=true from hs) aN
 |byt i=>
  obtain⟨t,rfl⟩:=rx;cases y with
  |byt j=>obtain⟨t',rfl⟩:=ry;exact W.ne_bytes (oX I q (bf not F3))
  |_=>exact ai (show false=true from hs) aN
 |_=>cases y<;>exact ai (show false=true from hs) aN
theorem RV:OpR X (aO .Lt) (rI0 λi j=>.bl (decide (i<j))):=Lf λ_ _ _ _ _ _ _ q=>lt_int q
theorem RW:OpR X (aO .LtE) (rI0 λi j=>.bl (decide (i<=j))):=Lf λ_ _ _ _ _ _ _ q=>le_int q
theorem RX:OpR X (aO .Gt) (rI0 λi j=>.bl (decide (j<i))):=Lf λ_ _ _ _ _ _ _ q=>gt_int q
theorem RY:OpR X (aO .GtE) (rI0 λi j=>.bl (decide (j<=i))):=Lf λ_ _ _ _ _ _ _ q=>ge_int q
theorem Oh:OpR X (aO .Is) (λx y H Q=>y=.non/\Q (.bl (decide (x=.non))) H):=by
 intro pins s σ H x y v u Q I rx ry h;obtain⟨rfl,q⟩:=h;cases ry;refine is_none_gen (oX I q ?_);cases x<;>first
  |(cases rx;rfl)
  |(obtain⟨t,rfl⟩:=rx;rfl)
theorem Li:OpR X (aO .IsNot) (λx y H Q=>y=.non/\Q (.bl (!decide (x=.non))) H):=by
 intro pins s σ H x y v u Q I rx ry h;obtain⟨rfl,q⟩:=h;cases ry;refine isnot_none_gen (oX I q ?_);cases x<;>first
  |(cases rx;rfl)
  |(obtain⟨t,rfl⟩:=rx;rfl)
theorem Lj(ho:OpR X (aO op) r)(ha:PE X a ta)(hb:PE X b tb)(hm:dJ op b=false):PE X (.Compare a [op] [b] pos) (tOp r ta tb):=by intro pins s σ H Q I h;exact wpAny_Compare1 (N9 ha hb I h λv u s2 x y H2 I2 rx ry q=>ho pins s2 σ H2 x y v u Q I2 rx ry q) hm
def IK(t:TE):TT:=λσ H Q=>t σ H λx H'=>∃k,x=.bl k/\Q k H'
theorem Lk(ho:OpR X (aO op) r)(ha:PE X a ta)(hb:PE X b tb)(hm:dJ op b=false):PT X (.Compare a [op] [b] pos) (IK (tOp r ta tb)):=by
 intro pins s σ H Q I h;refine jM (thn (ha pins s σ H _ I h) λv s1 ⟨x,H1,I1,r1,q1⟩=>thn (hb pins s1 σ H1 _ I1 q1) λu s2 ⟨y,H2,I2,r2,q2⟩=>
  thn (ho pins s2 σ H2 x y v u _ I2 r1 r2 q2) λc s3 ⟨z,H3,I3,r3,k,e,q3⟩=>?_) hm
 subst e;cases r3;exact b0 ⟨H3,I3,q3⟩
def EW(r r':R2)(ta tb tc:TE):TE:=λσ H Q=>ta σ H λx H1=>tb σ H1 λy H2=>r x y H2 λz H3=>∃k,z=.bl k/\
 (if k=true then tc σ H3 λw' H4=>r' y w' H4 Q else Q (.bl false) H3)
theorem IL(ho:OpR X (aO op) r)(ho':OpR X (aO op') r')(ha:PE X a ta)(hb:PE X b tb)(hc:PE X c tc)
  (hm:lastMarks [op,op'] [b,c]=false:=by with_unfolding_all rfl):PE X (.Compare a [op,op'] [b,c] pos) (EW r r' ta tb tc):=by
 intro pins s σ H Q I h;refine Compare_chain (thn (ha pins s σ H _ I h) λv s1 ⟨x,H1,I1,r1,q1⟩=>chain_link (thn (hb pins s1 σ H1 _ I1 q1) λu s2 ⟨y,H2,I2,r2,q2⟩=>
  thn (ho pins s2 σ H2 x y v u _ I2 r1 r2 q2) λd s3 ⟨z,H3,I3,r3,k,e,q3⟩=>?_)) hm
 subst e;cases r3;refine b0 ?_;cases k with
 |false=>exact ite_ff ⟨.bl false,H3,I3,rfl,q3⟩
 |true=>exact ite_tt (chain_last (thn (hc pins s3 σ H3 _ I3 q3) λw' s4 ⟨z',H4,I4,r4,q4⟩=>ho' pins s4 σ H4 y z' u w' Q I4 r2 r4 q4))
theorem IM(ho:OpR X (aO op) r)(ho':OpR X (aO op') r')(ha:PE X a ta)(hb:PE X b tb)(hc:PE X c tc)
  (hm:lastMarks [op,op'] [b,c]=false:=by with_unfolding_all rfl):PT X (.Compare a [op,op'] [b,c] pos) (IK (EW r r' ta tb tc)):=by
 intro pins s σ H Q I h;refine isTrue_chain (thn (ha pins s σ H _ I h) λv s1 ⟨x,H1,I1,r1,q1⟩=>test_link (thn (hb pins s1 σ H1 _ I1 q1) λu s2 ⟨y,H2,I2,r2,q2⟩=>
  thn (ho pins s2 σ H2 x y v u _ I2 r1 r2 q2) λd s3 ⟨z,H3,I3,r3,k,e,q3⟩=>?_)) hm
 subst e;cases r3;refine b0 ?_;cases k with
 |false=>obtain⟨k',e',q'⟩:=q3;cases e';exact ite_ff ⟨H3,I3,q'⟩
 |true=>refine ite_tt (test_last (thn (hc pins s3 σ H3 _ I3 q3) λw' s4 ⟨z',H4,I4,r4,q4⟩=>thn (ho' pins s4 σ H4 y z' u w' _ I4 r2 r4 q4) λd' s5 ⟨z2,H5,I5,r5,k2,e2,q5⟩=>?_));subst e2;cases r5;exact b0 ⟨H5,I5,q5⟩
theorem yz:(av:Nat)<2 ^ 63:=by rw[aZ];decide
theorem EX:OpR X (bP .Add) (λx y H Q=>∃i j,x=.str i/\y=.str j/\i.length+j.length<=av/\Q (.str (i++j)) H):=by intro pins s σ H x y v u Q I rx ry h;obtain⟨i,j,rfl,rfl,hz,q⟩:=h;obtain⟨t,rfl⟩:=rx;obtain⟨t',rfl⟩:=ry;exact add_str (λt' tk=>⟨.str (i++j),H,I.tok _,⟨_,rfl⟩,q⟩) hz
theorem vals1{x:V}(r:Vals [x] us):∃u,us=[u]/\RelV x u:=by
 cases r with
 |cons r1 r2=>cases r2;exact⟨_,rfl,r1⟩
theorem vals2{x:V}(r:Vals [x,y] us):∃u w',us=[u,w']/\RelV x u/\RelV y w':=by
 cases r with
 |cons r1 r2=>
  cases r2 with
  |cons r3 r4=>cases r4;exact⟨_,_,rfl,r1,r3⟩
theorem Hf(hc:X.calm=true):pK X (.builtin "max") (λxs H Q=>∃i j,xs=[.int i,.int j]/\Q (.int (if j > i then j else i)) H):=by
 intro pins s σ H xs us Q I r h;obtain⟨i,j,rfl,q⟩:=h;obtain⟨u,w',rfl,⟨t,rfl⟩,⟨t',rfl⟩⟩:=vals2 r;refine max_two_ints (I.ok.hd hc) λh' tk k=>⟨_,H,I.kept k,?_,q⟩;by_cases hj:j > i
 ·rw[ah hj,ah hj];exact⟨_,rfl⟩
 ·rw[ag hj,ag hj];exact⟨_,rfl⟩
theorem Hg(hc:X.calm=true):pK X (.builtin "min") (λxs H Q=>∃i j,xs=[.int i,.int j]/\Q (.int (if j<i then j else i)) H):=by
 intro pins s σ H xs us Q I r h;obtain⟨i,j,rfl,q⟩:=h;obtain⟨u,w',rfl,⟨t,rfl⟩,⟨t',rfl⟩⟩:=vals2 r;refine min_two_ints (I.ok.hd hc) λh' tk k=>⟨_,H,I.kept k,?_,q⟩;by_cases hj:j<i
 ·rw[ah hj,ah hj];exact⟨_,rfl⟩
 ·rw[ag hj,ag hj];exact⟨_,rfl⟩
theorem Hh:pK X (.type "int") (λxs H Q=>(∃i,xs=[.int i]/\Q (.int i) H)\/∃k,xs=[.bl k]/\Q (.int (if k then 1 else 0)) H):=by
 intro pins s σ H xs us Q I r h;rcases h with ⟨i,rfl,q⟩|⟨k,rfl,q⟩
 ·obtain⟨u,rfl,t,rfl⟩:=vals1 r;exact call_int_int ⟨.int i,H,I,⟨_,rfl⟩,q⟩
 ·obtain⟨u,rfl,r1⟩:=vals1 r;cases r1;exact call_int_bool ⟨.int (if k then 1 else 0),H,I.tok _,⟨_,rfl⟩,q⟩
theorem CM:pK X (.type "str") (λxs H Q=>∃i,xs=[.int i]/\i.natAbs.log2<1920/\Q (.str (toString i)) H):=by intro pins s σ H xs us Q I r h;obtain⟨i,rfl,hz,q⟩:=h;obtain⟨u,rfl,t,rfl⟩:=vals1 r;exact PySem.P.str_of_int hz ⟨.str _,H,I.tok _,⟨_,rfl⟩,q⟩
end
structure EY(h:Heap)(x dx C:Addr)(mA:Str->Option aa):Prop where
 obj:h.get? x=some (dj C dx)
 ns:h.Ns1 dx mA
 ne:dx≠x
variable{dx:Addr}{mA:Str->Option aa}
theorem Hk{h:Heap}(n:h.Ns1 dx mA):∃od,h.get? dx=some od/\∀name,gR name od=some (mA name):=by
 obtain⟨o,es,ep,ho,hd,hk,_,hm⟩:=n;refine⟨o,ho,λname=>?_⟩;have e:=hm name;unfold nsFind findBy at e;rw[<-Array.find?_toList]at e;unfold gR;rw[hd];dsimp only;split
 ·rename_i y q;rw[q]at e;exact bf some e
 ·rename_i q;rw[q]at e;have a:es.toList.any (·.refKey)=false:=by rw[List.any_eq_false];intro y hy;obtain⟨z,t,hkey⟩:=hk y (Array.mem_toList_iff.mp hy);simp[DictEntry.refKey,hkey]
  have a':¬es.toList.any (·.refKey)=true:=by rw[a];exact aN
  rw[ag a'];exact bf some e
variable{C:Addr}
theorem EY.look{h:Heap}{x:Addr}(I:EY h x dx C mA):∃od,W.InstAt h x (dj C dx) C (some od)/\∀name,gR name od=some (mA name):=
 let ⟨od,ho,hl⟩:=Hk I.ns
 ⟨od,⟨I.obj,rfl,rfl,ho⟩,hl⟩
variable{pl:Sem Bool}{kw:List (Str×aa)}
section
variable{prog:aq}{w:aj}{A:ar}{E:aa->ab->Prop}{s:ab}{K:ak}{x dx C f:Addr}{mA:Str->Option aa}{name:Str}{v:aa}
theorem get_map{expr:Bool}(X:K.In s.heap)(I:EY s.heap x dx C mA)(hg:gL K C name=true)(hh:jd K C=true)
  (ha:bV K (.ref C) name=some none) (hv:mA name=some v) (hv':W.handedIn v=true) (h:Q v { s with toks:=s.toks+1 }):
  ae (model prog w) A (getAttr (.ref x) name expr) Q E s:=by
 obtain⟨od,J,hl⟩:=I.look;exact W.get_value X J (iV hg).1 (W.findObj_own hh ha rfl (by rw[hl,hv])) hv' h
theorem IP{Q:aa×List aa->ab->Prop}(X:K.In s.heap)(I:EY s.heap x dx C mA)(hg:gL K C name=true)
  (hf:bV K (.ref C) name=some (some (.ref f))) (ht:gW K (.ref f)=true) (hv:mA name=none) (h:Q (.ref f,[.ref x]) s):
  ae (model prog w) A (getMethod (.ref x) name pl) Q E s:=by
 obtain⟨od,J,hl⟩:=I.look;exact W.method_fn X J (iV hg).1 (iV hg).2 hf (beq_iff_eq.mp ht) (by show (gR name od).map (·.isSome)=some false;rw[hl,hv];rfl) h
theorem Ll{ns:List Str}{Q:Unit->ab->Prop}(X:K.In s.heap)(I:EY s.heap x dx C mA)
  (hs:bV K (.ref C) "__setattr__" = some (some (.builtin "object.__setattr__"))) (hp:l8 K C=true) (ht:jt K C name=some none) (hh:jd K C=true)
  (hw:i3 mA ns) (hsz:ns.length<=av)
  (h:∀h',EY h' x dx C (λy=>if y=name then some v else mA y)->de dx s.heap h'->Q () { s with heap:=h',toks:=s.toks+2 }):
  ae (model prog w) A (setAttr (.ref x) name v) Q E s:=by
 obtain⟨od,J,hl⟩:=I.look;refine W.set_plain X J hs (W.osa_open (s:={ s with toks:=s.toks+1 }) (r:=none) X J hp ht λb=>?_);obtain⟨cd,hc,hd'⟩:=W.any_some hh;have hx:s.heap.get? x=some ⟨.ref C,some dx,.plain,#[]⟩:=I.obj;refine af (ao (af (af (wpAny_loadPart hx (af (W.Looks.here (s:={ s with toks:=s.toks+1 }) (W.looks_clsIn X hc) ?_))))));rw[hd'];refine ao (a:=some dx) (af (ao (af ?_)));refine wpAny_nsSet1 (s:={ s with toks:=s.toks+1 }) I.ns λh' hn2 hs2=>?_;obtain⟨oD,esD,epD,hoD,hdD,hcD⟩:=hn2.count (nY name v hw);refine af (wpAny_lookBehind hoD (by rw[hdD];exact pastItsLine_dict (bF hcD (by rw[aI];omega))) ?_);exact ao (h _ ⟨(hs2.2 _ (bX I.ne)).trans I.obj,hn2,I.ne⟩ hs2)
theorem IQ{R:cE->ab->Prop}{vs:List aa}(X:K.In s.heap)(hm:W.makesIn K C=true)
  (hi:bV K (.ref C) "__init__" = some (some (.ref f))) (hf:W.typeIn K (.ref f)=some (.type "function"))
  (h:bH (model prog w) (A.under (.builtin "type.__call__" ⟨.ref C::vs,kw⟩)) (.call (.ref f) ⟨.ref (s.heap.objs.size+1)::vs,kw⟩) (W.InitBack (s.heap.objs.size+1) R)
   { s with heap:=(s.heap.push cW).push (dj C s.heap.objs.size) }):
  bH (model prog w) A (.call (.ref C) ⟨vs,kw⟩) R s:=by
 obtain⟨hh,g,d,t,os⟩:=s;exact W.make_core (W.makes_of X hm) (W.looks_findIn X hi) (λself=>W.bind_fn X self hf) (.inl rfl) h
end
def tP(f:Str)(v:V):List (Str×V)->List (Str×V)
 |[]=>[(f,v)]
 |(g,x)::r=>if g=f then (g,v)::r else (g,x)::tP f v r
theorem yZ(f g:Str)(v:V):∀fs:List (Str×V),(tP f v fs).lookup g=if g=f then some v else fs.lookup g
 |[]=>by
  show cb g [(f,v)]=_;by_cases h:g=f
  ·have hb:(g==f)=true:=beq_iff_eq.mpr h;simp only[cb,hb,ah h]
  ·have hb:(g==f)=false:=beq_eq_false_iff_ne.mpr h;simp only[cb,hb,ag h]
 |(k,x)::r=>by
  have ih:=yZ f g v r;rw[show tP f v ((k,x)::r)=(if k=f then (k,v)::r else (k,x)::tP f v r) from rfl];by_cases hk:k=f
  ·rw[ah hk];by_cases h:g=k
   ·have hb:(g==k)=true:=beq_iff_eq.mpr h;simp only[cb,hb,ah (h.trans hk)]
   ·have hb:(g==k)=false:=beq_eq_false_iff_ne.mpr h;simp only[cb,hb,ag (λe:g=f=>h (e.trans hk.symm))]
  ·rw[ag hk];by_cases h:g=k
   ·have hb:(g==k)=true:=beq_iff_eq.mpr h;simp only[cb,hb,ag (λe:g=f=>hk (h.symm.trans e))]
   ·have hb:(g==k)=false:=beq_eq_false_iff_ne.mpr h;simp only[cb,hb];exact ih
theorem yA(f:Str)(v:V):∀fs:List (Str×V),f∈(tP f v fs).map (·.1)/\∀g,g∈fs.map (·.1)->g∈(tP f v fs).map (·.1)
 |[]=>⟨by simp[tP],λg h=>by simp at h⟩
 |(k,x)::r=>by
  obtain⟨i1,i2⟩:=yA f v r;rw[show tP f v ((k,x)::r)=(if k=f then (k,v)::r else (k,x)::tP f v r) from rfl];by_cases hk:k=f
  ·rw[ah hk];subst hk;exact⟨by simp,λg h=>by simpa using h⟩
  ·rw[ag hk];refine⟨?_,λg h=>?_⟩
   ·rw[aW];exact aG _ i1
   ·rw[aW]at h ⊢;rcases aF.mp h with e|e
    ·exact aF.mpr (.inl e)
    ·exact aG _ (i2 g e)
theorem y1(f:Str)(v:V):∀fs:List (Str×V),(tP f v fs).length<=fs.length+1
 |[]=>by simp[tP]
 |(k,x)::r=>by
  have ih:=y1 f v r;rw[show tP f v ((k,x)::r)=(if k=f then (k,v)::r else (k,x)::tP f v r) from rfl];by_cases hk:k=f
  ·rw[ah hk,aI,aI];omega
  ·rw[ag hk,aI,aI];omega
theorem vh.some_of{v:V}{o:Option aa}(r:vh (some v) o):∃u,o=some u/\RelV v u:=by
 cases o with
 |none=>exact(show False from r).elim
 |some u=>exact⟨u,rfl,r⟩
theorem vh.none_of{o:Option aa}(r:vh none o):o=none:=by
 cases o with
 |none=>rfl
 |some u=>exact(show False from r).elim
theorem Hl{v:V}(r:RelV v u):W.handedIn u=true:=by
 cases v with
 |non=>cases (show u=Value.none from r);rfl
 |bl b=>cases (show u=Value.bool b from r);rfl
 |int i=>obtain⟨t,e⟩:=(show ∃t,u=Value.int i t from r);cases e;rfl
 |str x=>obtain⟨t,e⟩:=(show ∃t,u=Value.str x t from r);cases e;rfl
 |byt b=>obtain⟨t,e⟩:=(show ∃t,u=Value.bytes b t from r);cases e;rfl
 |flt b=>obtain⟨t,e⟩:=(show ∃t,u=Value.float b t from r);cases e;rfl
 |ref a=>cases (show u=Value.ref a from r);rfl
 |ty n=>cases (show u=Value.type n from r);rfl
section
variable{P:aq}{w:aj}{H H':Hp}{h h':Heap}{a C dx:Addr}{fs fs':List (Str×V)}
theorem sI(hok:HOk P w H h)(e:H a=some (.ins C dx fs)):∃mA,EY h a dx C mA/\(∀f,vh (fs.lookup f) (mA f))/\i3 mA (fs.map (·.1))/\fs.length<=1000/\H dx=some (.own a):=by obtain⟨d,z,ne,ob,mA,n,r,q⟩:=(show pD P w H h a (.ins C dx fs) from hok a _ e);exact⟨mA,⟨ob,n,ne⟩,r,q,z,d⟩
end
structure Cls(K:ak)(C:Addr):Prop where
 pg:gL K C Str.empty=true
 hd:jd K C=true
 po:l8 K C=true
 sa:bV K (.ref C) "__setattr__" = some (some (.builtin "object.__setattr__"))
theorem Cls.get{K:ak}(c:Cls K C)(f:Str):gL K C f=true:=c.pg
def sh(K:ak)(C:Addr)(f:Str):Prop:=bV K (.ref C) f=some none
theorem sh.taker{K:ak}{f:Str}(n:sh K C f):jt K C f=some none:=by unfold jt;rw[show bV K (.ref C) f=some none from n];rfl
structure Meth(K:ak)(C:Addr)(m:Str)(f:Addr):Prop where
 at_:bV K (.ref C) m=some (some (.ref f))
 fn:gW K (.ref f)=true
 kp:cA K (.ref f)=true
section
variable{X:Cx}{pins:List (Addr×Obj)}{σ:St}{H:Hp}{s:ab}{a C dx:Addr}{fs:List (Str×V)}{f:Str}{v:V}{A:ar}{E:aa->ab->Prop}
theorem EZ{b:Bool}(I:Inv X pins σ H s)(e:H a=some (.ins C dx fs))(c:Cls X.K C)(n:sh X.K C f)(l:fs.lookup f=some v)
  (h:∀u s',Inv X pins σ H s'->RelV v u->Q u s'):ae (model X.prog X.w) A (getAttr (.ref a) f b) Q E s:=by
 obtain⟨mA,O,r,_,_,_⟩:=sI I.hok e;obtain⟨u,hu,ru⟩:=vh.some_of (v:=v) (o:=mA f) (by rw[<-l];exact r f);exact get_map I.kIn O (c.get f) c.hd n hu (Hl ru) (h u _ (I.tok _) ru)
theorem Ab{m:Str}{g:Addr}{Q:aa×List aa->ab->Prop}(I:Inv X pins σ H s)(e:H a=some (.ins C dx fs))(c:Cls X.K C)(k:Meth X.K C m g)(l:fs.lookup m=none)
  (h:Q (.ref g,[.ref a]) s):ae (model X.prog X.w) A (getMethod (.ref a) m pl) Q E s:=by
 obtain⟨mA,O,r,_,_,_⟩:=sI I.hok e;have hn:mA m=none:=vh.none_of (by rw[<-l];exact r m);exact IP I.kIn O (c.get m) k.at_ k.fn hn h
theorem E1{Q:Unit->ab->Prop}(I:Inv X pins σ H s)(e:H a=some (.ins C dx fs))(c:Cls X.K C)(n:sh X.K C f)(hl:fs.length<1000)(ry:RelV y u)
  (h:∀s',Inv X pins σ (upd H a (.ins C dx (tP f y fs))) s'->Q () s'):ae (model X.prog X.w) A (setAttr (.ref a) f u) Q E s:=by
 obtain⟨mA,O,r,wi,_,ho⟩:=sI I.hok e;have hz:(fs.map (·.1)).length<=av:=by rw[aw,aZ];omega
 refine Ll I.kIn O c.sa c.po n.taker c.hd wi hz λh' O' sb=>h _ ?_;have hd:∃o,h'.get? dx=some o:=let ⟨o,_,_,e',_⟩:=O'.ns;⟨o,e'⟩;refine I.write (x:=a) (e:=dx) (by rw[e];exact True.intro) (.inr ho) (λb q hb z=>(sb.2 b hb).trans z) hd ?_;refine⟨by rw[oE O.ne];exact ho,?_,O.ne,O'.obj,_,O'.ns,λg=>?_,λg hg=>?_⟩
 ·have:=y1 f y fs;omega
 ·show vh ((tP f y fs).lookup g) (if g=f then some u else mA g);rw[yZ];by_cases q:g=f
  ·rw[ah q,ah q];exact ry
  ·rw[ag q,ag q];exact r g
 ·by_cases q:g=f
  ·rw[q];exact(yA f y fs).1
  ·refine(yA f y fs).2 g (wi g λz=>hg ?_);show (if g=f then some u else mA g)=none;rw[ag q];exact z
theorem Inv.made(I:Inv X pins σ H s):Inv X pins σ (upd (upd H s.heap.objs.size (.own (s.heap.objs.size+1))) (s.heap.objs.size+1) (.ins C s.heap.objs.size []))
  { s with heap:=(s.heap.push cW).push (dj C s.heap.objs.size) }:=by
 have e1:(s.heap.push cW).get? s.heap.objs.size=some cW:=aQ s.heap rfl;have e2:((s.heap.push cW).push (dj C s.heap.objs.size)).get? (s.heap.objs.size+1)=some (dj C s.heap.objs.size):=by
  have:=aQ (s.heap.push cW) (o:=dj C s.heap.objs.size) rfl
  rwa [bT]at this
 have e3:(s.heap.push cW).Ns s.heap.objs.size (λ_=>none):=⟨cW,#[],_,e1,rfl,(λe he=>ai he (by simp)),λ_=>rfl⟩;have I1:=I.laid (a:=s.heap.objs.size) (o:=.own (s.heap.objs.size+1)) (h':=s.heap.push cW) (t':=s.toks) (λb u q=>az _ q) (ay _) ⟨_,e1⟩;refine I1.laid (a:=s.heap.objs.size+1) (o:=.ins C s.heap.objs.size []) (t':=s.toks) (λb u q=>az _ q) (lW (bT _ _)) ?_;have ne:s.heap.objs.size≠s.heap.objs.size+1:=aD (bS _);refine⟨by rw[oE ne,ox],ba _,ne,e2,λ_=>none,(Heap.Ns1.of_empty e3).at λo q=>az _ q,λ_=>True.intro,λy hy=>ai rfl hy⟩
theorem Lm{prog:aq}{w:aj}{env:Env}{f:Str}{s:ab}(hb:c9 e f env (eval e env)=eval e env)
  (h:ae (model prog w) A (eval e env) (λo s₁=>ae (model prog w) A (getAttr o f true) Q E s₁) E s):ae (model prog w) A (eval (.Attribute e f pos) env) Q E s:=
 Attribute_any_ h (by rw[arm_eval_Attribute,hb])
end
def T7(K:ak)(ta:TE)(f:Str):TE:=λσ H Q=>ta σ H λx H1=>∃a C dx fs v,x=.ref a/\H1 a=some (.ins C dx fs)/\Cls K C/\sh K C f/\fs.lookup f=some v/\Q v H1
def RZ(K:ak)(ta tv:TE)(f:Str):TS:=λD σ H=>tv σ H λy H1=>ta σ H1 λx H2=>∃a C dx fs,x=.ref a/\H2 a=some (.ins C dx fs)/\Cls K C/\sh K C f/\fs.length<1000/\
 D.nx σ (upd H2 a (.ins C dx (tP f y fs)))
section
variable{X:Cx}{o e value:Expr}{f:Str}{pos pos' tpos:Pos}{ta tv:TE}
theorem Oi(he:PE X e ta)(hb:c9 e f X.env (eval e X.env)=eval e X.env):PE X (.Attribute e f pos) (T7 X.K ta f):=by intro pins s σ H Q I h;refine Lm hb (thn (he pins s σ H _ I h) λu s1 zz=>?_);obtain⟨x,H1,I1,rx,a,C,dx,fs,v,ex,ea,c,n,l,q⟩:=zz;subst ex;obtain rfl:u=Value.ref a:=rx;exact EZ I1 ea c n l λu' s2 I2 ru=>⟨v,H1,I2,ru,q⟩
theorem Oj(ha:PE X o ta)(hv:PE X value tv)(hs:cz value (some (.Attribute o f pos')) pos.line X.env=pure false):PS X (.Assign [.Attribute o f pos'] value pos) (RZ X.K ta tv f):=by intro pins s σ H D I h;refine plainObj_wpAny_Assign_Attribute (thn (hv pins s σ H _ I h) λu s1 ⟨y,H1,I1,ry,q⟩=>thn (ha pins s1 σ H1 _ I1 q) λov s2 zz=>?_) hs;obtain⟨x,H2,I2,rx,a,C,dx,fs,ex,ea,c,n,l,q2⟩:=zz;subst ex;obtain rfl:ov=Value.ref a:=rx;exact E1 I2 ea c n l ry λs3 I3=>⟨σ,_,I3,q2⟩
end
section
variable{X:Cx}{pins:List (Addr×Obj)}{σ:St}{H:Hp}{s:ab}{A:ar}{E:aa->ab->Prop}{Q:aa->ab->Prop}{c:aa}{b:Bool}
inductive zP(K:ak) (H:Hp):V->aa->Prop where
 |non:zP K H .non (.type "NoneType")
 |bl (x:Bool):zP K H (.bl x) (.type "bool")
 |int (i:Int):zP K H (.int i) (.type "int")
 |str (x:Str):zP K H (.str x) (.type "str")
 |flt (x:UInt64):zP K H (.flt x) (.type "float")
 |lst {a:Addr} {xs:List V} (e:H a=some (.lst xs)):zP K H (.ref a) (.type "list")
 |frz {a:Addr} {o:Obj} {xs:List V} (e:H a=some (.frz o (.lst xs))):zP K H (.ref a) (.type "list")
 |tup {a:Addr} {xs:List V} (e:H a=some (.tup xs)):zP K H (.ref a) (.type "tuple")
 |dK {a:Addr} {kvs:List (Key×V)} (e:H a=some (.dK kvs)):zP K H (.ref a) (.type "dict")
 |dT {a:Addr} {kvs:List (List Key×V)} (e:H a=some (.dT kvs)):zP K H (.ref a) (.type "dict")
 |ins {a C dx:Addr} {fs:List (Str×V)} (e:H a=some (.ins C dx fs)) (cl:Cls K C) (ha:bV K (.ref C) "__class__" = some (some (.builtin "object.__class__")))
   (hn:l9 K (.builtin "object.__class__") "__get__" = some (some (.builtin "getset_descriptor.__get__"))) (htk:W.takesIn K (.builtin "object.__class__")=some true)
   (hm:W.mroIn K C (.type "object")=some true):zP K H (.ref a) (.ref C)
theorem rY{x:V}{t:aa}(I:Inv X pins σ H s)(rx:RelV x u)(ty:zP X.K H x t)(e:bW X.K t c=some b)(h:∀tk,Q (.bool b) { s with toks:=tk }):
  ae (model X.prog X.w) A (call (.builtin "isinstance") [u,c]) Q E s:=by
 cases ty with
 |non=>cases (show u=Value.none from rx);exact bL md I.kIn True.intro e (λz=>nomatch z) h
 |bl y=>cases (show u=Value.bool y from rx);exact bL me I.kIn True.intro e (λz=>nomatch z) h
 |int i=>obtain⟨t,q⟩:=(show ∃t,u=Value.int i t from rx);cases q;exact bL W.kitx_int I.kIn True.intro e (λz=>nomatch z) h
 |str y=>obtain⟨t,q⟩:=(show ∃t,u=Value.str y t from rx);cases q;exact bL W.kitx_str I.kIn True.intro e (λz=>nomatch z) h
 |flt y=>obtain⟨t,q⟩:=(show ∃t,u=Value.float y t from rx);cases q;exact bL W.kitx_float I.kIn True.intro e (λz=>nomatch z) h
 |@lst a xs ea=>cases (show u=Value.ref a from rx);obtain⟨_,_,n,_,h1⟩:=(show pD X.prog X.w H s.heap a (.lst xs) from I.hok a _ ea);exact bL fN I.kIn ⟨_,h1,rfl⟩ e (λz=>nomatch z) h
 |@frz a ob xs ea=>cases (show u=Value.ref a from rx);obtain⟨_,_,_,n,_,h1⟩:=(show pD X.prog X.w H s.heap a (.frz ob (.lst xs)) from I.hok a _ ea);exact bL fN I.kIn ⟨_,h1,rfl⟩ e (λz=>nomatch z) h
 |@tup a xs ea=>cases (show u=Value.ref a from rx);obtain⟨_,_,_,p⟩:=(show pD X.prog X.w H s.heap a (.tup xs) from I.hok a _ ea);obtain⟨o,h1,h2,_⟩:=p;exact bL i4 I.kIn ⟨o,h1,h2⟩ e (λz=>nomatch z) h
 |@dK a kvs ea=>cases (show u=Value.ref a from rx);obtain⟨_,_,vs,_,p⟩:=(show pD X.prog X.w H s.heap a (.dK kvs) from I.hok a _ ea);obtain⟨o,es,ep,h1,h2,_⟩:=p;exact bL gE I.kIn ⟨o,h1,h2.1⟩ e (λz=>nomatch z) h
 |@dT a kvs ea=>cases (show u=Value.ref a from rx);obtain⟨_,_,xs,_,o,es,ep,h1,h2,_⟩:=(show pD X.prog X.w H s.heap a (.dT kvs) from I.hok a _ ea);exact bL gE I.kIn ⟨o,h1,h2.1⟩ e (λz=>nomatch z) h
 |@ins a C dx fs ea cl ha hn htk hm=>cases (show u=Value.ref a from rx);obtain⟨mA,O,_⟩:=sI I.hok ea;obtain⟨od,J,_⟩:=O.look;exact bL (W.kitx_own (cl.get _) cl.hd ha hn htk hm) I.kIn J e (λz=>nomatch z) h
end
structure pT(k:Nat)(A:ar):Prop where
 hd:A.handled=none
 dp:A.depth+3 * k+5<recursionLimit
 un:A.units+16 * k+200<cLine
theorem pT.mono{k:Nat}{A:ar}(r:pT k A)(h:j<=k):pT j A:=⟨r.hd,by have:=r.dp;omega,by have:=r.un;omega⟩
theorem pT.deeper{k:Nat}{A:ar}(r:pT (k+1) A)(env:Env):pT k (A.deeper env):=
 ⟨r.hd,by have:=r.dp;show A.depth+1+3 * k+5<_;omega,by have:=r.un;show A.units+3+16 * k+200<_;omega⟩
theorem E2{A:ar}:(A.under (.builtin "type.__call__" ⟨.ref C::us,kw⟩)).depth=A.depth+1:=by
 first|rfl|simp[i5,Code.weight,Code.isCreation,Code.isGuard,Code.isCaller,mf,i6,guardIds]
theorem E3{A:ar}:(A.under (.builtin "type.__call__" ⟨.ref C::us,kw⟩)).units=A.units+1:=by
 first|rfl|simp[i5,Code.cUnits,mf,i6]
theorem pT.make{k:Nat}{A:ar}(r:pT (k+1) A)(C:Addr)(us:List aa)(kw:List (Str×aa)):pT k (A.under (.builtin "type.__call__" ⟨.ref C::us,kw⟩)):=
 ⟨r.hd,by have:=r.dp;rw[E2];omega,by have:=r.un;rw[E3];omega⟩
theorem pT.depth{k:Nat}{A:ar}(r:pT k A):A.depth<recursionLimit:=by have:=r.dp;omega
theorem pT.units{k:Nat}{A:ar}(r:pT k A):A.units+64<cLine:=by have:=r.un;omega
def Bm:TA:=λ_ H Q=>Q [] H
def wq(ta:TE)(tr:TA):TA:=λσ H Q=>ta σ H λx H1=>tr σ H1 λxs H2=>Q (x::xs) H2
section
variable{X:Cx}{e:Expr}{es:List Expr}{te:TE}{t:TA}{pos:Pos}
theorem sj:PA X [] Bm:=λ_ _ _ _ H Q I h=>dw ⟨[],H,I,.nil,h⟩
theorem pW(ha:PE X e te)(hr:PA X es t)(hs:au (e::es) X.env=(false,eval e X.env)::au es X.env:=by rfl):PA X (e::es) (wq te t):=by intro pos pins s σ H Q I h;rw[hs];show ae _ _ (spliced ((false,eval e X.env)::aT pos (au es X.env))) _ _ s;refine cJ (thn (ha pins s σ H _ I h) λu s1 zz=>?_);obtain⟨x,H1,I1,r1,q1⟩:=zz;exact thn (hr pos pins s1 σ H1 _ I1 q1) λus s2 ⟨xs,H2,I2,r2,q2⟩=>⟨x::xs,H2,I2,.cons r1 r2,q2⟩
def R0(t:TA):TE:=λσ H Q=>t σ H λxs H1=>xs.length<=av/\∀p,H1 p=none->Q (.ref p) (upd H1 p (.tup xs))
def R7(t:TA):TE:=λσ H Q=>t σ H λxs H1=>xs.length<=av/\∀p,H1 p=none->Q (.ref p) (upd H1 p (.lst xs))
theorem IR{x1}(h:PA X es t):PE X (.Tuple es x1 pos) (R0 t):=by intro pins s σ H Q I hq;refine wpAny_Tuple_spliced (thn (h pos pins s σ H _ I hq) λus s1 ⟨xs,H1,I1,r,z,q⟩=>⟨by rw[<-r.length];exact z,?_⟩);have hf:H1 s1.heap.objs.size=none:=I1.hok.fresh (ay _);refine⟨.ref s1.heap.objs.size,upd H1 s1.heap.objs.size (.tup xs),I1.laid (t':=s1.toks) (λb u e=>az _ e) (ay _) ?_,rfl,q _ hf⟩;exact⟨z,us,r,⟨_,aQ _ rfl,rfl,_,rfl⟩⟩
theorem IS(h:PA X es t):PE X (.List es pos) (R7 t):=by intro pins s σ H Q I hq;refine wpAny_List_spliced (thn (h pos pins s σ H _ I hq) λus s1 ⟨xs,H1,I1,r,z,q⟩=>⟨by rw[<-r.length];exact z,?_⟩);have hf:H1 s1.heap.objs.size=none:=I1.hok.fresh (ay _);refine⟨.ref s1.heap.objs.size,upd H1 s1.heap.objs.size (.lst xs),I1.laid (t':=s1.toks) (λb u e=>az _ e) (ay _) ?_,rfl,q _ hf⟩;exact⟨z,us,0,r,aQ _ rfl⟩
end
abbrev Sp:=List V->Hp->VK->XK->Prop
abbrev CXT:=List Env->Hp->ab->XK->aa->ab->Prop
structure E4(P:aq)(w:aj)(K:ak)(mg:Str->Option aa)(base:Heap)(A:ar)(outer:List Env)(s:ab)(H:Hp):Prop where
 frames:A.frames=some outer
 mod:Mod K mg base
 bs:∀b o,base.get? b=some o->s.heap.get? b=some o/\H b=none
 bsz:base.objs.size<=s.heap.objs.size
 funs:s.heap.FunFrames base outer
 frf:∀b∈frs outer,H b=none
 hok:HOk P w H s.heap
 bare:cX s.gens
def CE(outer:List Env)(P:aq)(w:aj)(H:Hp)(s:ab)(Q:VK)(u:aa)(s':ab):Prop:=
 ∃v H',s'.os=s.os/\cX s'.gens/\Un (frs outer) [] H H' s.heap s'.heap/\HOk P w H' s'.heap/\RelV v u/\Q v H'
def CR(CX:CXT)(outer:List Env)(P:aq)(w:aj)(H:Hp)(s:ab)(Q:VK)(E:XK)(r:cE)(s':ab):Prop:=
 match r with
 |.ok (.ret u)=>CE outer P w H s Q u s'
 |.ok _=>False
 |.error e=>CX outer H s E e s'
structure qZ(P:aq)(w:aj)(K:ak)(mg:Str->Option aa)(base:Heap)(CX:CXT)(k:Nat)(f:Addr)(fd:bq)(ps:List Str)(sp:Sp):Prop where
 len:∀vs H Q E,sp vs H Q E->vs.length=ps.length
 run:∀(A:ar) (outer:List Env) (s:ab) (H:Hp) (args:Args) (us:List aa) (vs:List V) (Q:VK) (E:XK),pT k A->E4 P w K mg base A outer s H->eW s fd args (ps.zip us)->Vals vs us->sp vs H Q E->
  bH (model P w) A (.call (.ref f) args) (CR CX outer P w H s Q E) s
variable{mg:Str->Option aa}{base:Heap}{CX:CXT}{fd:bq}{ps:List Str}{sp:Sp}
theorem qZ.mono{P:aq}{w:aj}{K:ak}{k:Nat}{f:Addr}(F:qZ P w K mg base CX j f fd ps sp)(h:j<=k):
  qZ P w K mg base CX k f fd ps sp:=⟨F.len,λA outer s H args us vs Q E hr=>F.run A outer s H args us vs Q E (hr.mono h)⟩
theorem qZ.imp{P:aq}{w:aj}{K:ak}{k:Nat}{f:Addr}{sp':Sp}(F:qZ P w K mg base CX k f fd ps sp)
  (h:∀vs H Q E,sp' vs H Q E->sp vs H Q E):qZ P w K mg base CX k f fd ps sp':=
 ⟨λvs H Q E q=>F.len vs H Q E (h _ _ _ _ q),λA outer s H args us vs Q E hr he hb hv hs=>F.run A outer s H args us vs Q E hr he hb hv (h _ _ _ _ hs)⟩
variable{outer:List Env}
theorem E4.make{P:aq}{w:aj}{K:ak}{A:ar}{s:ab}{H:Hp}(e:E4 P w K mg base A outer s H)(C:Addr)(us:List aa)(kw:List (Str×aa)):
  E4 P w K mg base (A.under (.builtin "type.__call__" ⟨.ref C::us,kw⟩)) outer s H:=⟨by first|exact e.frames|(simpa [i5,Code.envs,i6,pushEnvs]using e.frames),e.mod,e.bs,e.bsz,e.funs,e.frf,e.hok,e.bare⟩
section
variable{X:Cx}{pins:List (Addr×Obj)}{σ:St}{H:Hp}{s s':ab}
theorem Inv.env0(I:Inv X pins σ H s):E4 X.prog X.w X.K X.mg X.base X.A X.stack s H:=
 ⟨I.ok.frames,I.ok.mod,I.bs,bF I.ok.bsz I.sz,I.stack,I.stkFree,I.hok,I.bare⟩
theorem Inv.after{Q:VK}(I:Inv X pins σ H s)(h:CE X.stack X.prog X.w H s Q u s'):EP X pins σ Q u s':=by obtain⟨v,H',os,bare,un,hok,r,q⟩:=h;obtain⟨hh,g,d,t,os'⟩:=s';obtain rfl:os'=s.os:=os;exact⟨v,H',I.call (h':=hh) (g':=g) (d':=d) (t':=t) (ch:=[]) un hok bare (λb z=>ai z (by simp)),r,q⟩
end
def y9(sp:Sp)(dvs:List V)(E:XK)(t:TA):TE:=λσ H Q=>t σ H λvs H1=>sp (vs++dvs) H1 Q E
def Nc(C:Addr)(sp:Sp)(dvs:List V)(E:XK)(t:TA):TE:=λσ H Q=>t σ H λvs H1=>∀x dx,H1 x=none->H1 dx=none->dx≠x->
 sp (.ref x::(vs++dvs)) (upd (upd H1 dx (.own x)) x (.ins C dx [])) (λv H2=>v=.non/\Q (.ref x) H2) E
def Binds(K:ak)(fd:bq)(ps:List Str)(ds:List aa):Prop:=
 ∀(s:ab) (us:List aa),K.In s.heap->(us++ds).length=ps.length->eW s fd ⟨us,[]⟩ (ps.zip (us++ds))
theorem Binds.all{K:ak}(h:∀us:List aa,us.length=ps.length->bindArgs fd ⟨us,[]⟩=pure (ps.zip us)):Binds K fd ps []:=λs us _ hl=>by rw[bI]at hl ⊢;exact .of_eq (h us hl)
def Passes(CX:CXT)(X:Cx)(E:XK):Prop:=∀(pins:List (Addr×Obj)) (σ:St) (H:Hp) (s:ab) (e:aa) (s':ab),Inv X pins σ H s->CX X.stack H s E e s'->X.xe e s'
variable{vs:List V}
section
variable{X:Cx}{CX:CXT}{k:Nat}{f C:Addr}{fd:bq}{ps:List Str}{sp:Sp}{dvs:List V}{ds:List aa}{E:XK}{x m:Str}{p pos apos:Pos}{e o:Expr}{es:List Expr}{ta:TE}{t:TA}
theorem CN{H:Hp}{s:ab}{Q:VK}(F:qZ X.prog X.w X.K X.mg X.base CX k f fd ps sp)(hr:pT k X.A)(hb:Binds X.K fd ps ds)(hd:Vals dvs ds)(hx:Passes CX X E)
  (I:Inv X pins σ H s) (r:Vals vs us) (h:sp (vs++dvs) H Q E):ae (model X.prog X.w) X.A (call (.ref f) us) (EP X pins σ Q) X.xe s:=by
 have r2:Vals (vs++dvs) (us++ds):=r.append hd;have hl:(us++ds).length=ps.length:=by rw[<-r2.length];exact F.len _ _ _ _ h
 refine ji (eP (F.run X.A X.stack s H ⟨us,[]⟩ (us++ds) (vs++dvs) Q E hr I.env0 (hb s us I.kIn hl) r2 h) λr s' hq=>?_);cases r with
 |error e=>exact hx pins σ H s e s' I hq
 |ok fl=>
  cases fl with
  |ret u=>exact I.after hq
  |next=>exact bO hq
  |brk=>exact bO hq
  |cont=>exact bO hq
theorem CO(F:qZ X.prog X.w X.K X.mg X.base CX k f fd ps sp)(hr:pT k X.A)(hg:Gl X x)(hm:X.mg x=some (.ref f))(hk:cA X.K (.ref f)=true)(hb:Binds X.K fd ps ds)(hd:Vals dvs ds)(hx:Passes CX X E)
  (ha:PA X (e::es) t) (hdb:(x==("__debug__" : Str))=false:=by decide) (he:au (e::es) X.env=(false,eval e X.env)::au es X.env:=by rfl) (hpl:(aT pos (au es X.env)).any (·.1)=false:=by rfl):
  PE X (.Call (.Name x p) (e::es) [] pos) (y9 sp dvs E t):=by
 intro pins s σ H Q I h;refine cK (zU I hg hm ?_ hdb);refine i7 (h₀:=X.base) I.ok.mod.kin hk (thn (ha pos pins s σ H _ I h) λus s1 ⟨vs,H1,I1,r,q⟩=>⟨I1.kIn,?_⟩) he hpl;exact CN F hr hb hd hx I1 r q
theorem IT(F:qZ X.prog X.w X.K X.mg X.base CX k f fd ps sp)(hr:pT k X.A)(hg:Gl X x)(hm:X.mg x=some (.ref f))(hk:cA X.K (.ref f)=true)(hb:Binds X.K fd ps ds)(hd:Vals dvs ds)(hx:Passes CX X E)
  (hdb:(x==("__debug__" : Str))=false:=by decide):PE X (.Call (.Name x p) [] [] pos) (y9 sp dvs E Bm):=by
 intro pins s σ H Q I h;refine cK (zU I hg hm ?_ hdb);exact lI I.kIn hk (CN (us:=[]) F hr hb hd hx I .nil h)
structure Mk(K:ak)(C f:Addr):Prop where
 makes:W.makesIn K C=true
 init:bV K (.ref C) "__init__" = some (some (.ref f))
 fn:gW K (.ref f)=true
 kp:cA K (.ref C)=true
theorem IU{H:Hp}{s:ab}{Q:VK}(M:Mk X.K C f)(F:qZ X.prog X.w X.K X.mg X.base CX k f fd ps sp)(hr:pT (k+1) X.A)(hb:Binds X.K fd ps ds)(hd:Vals dvs ds)
  (hx:Passes CX X E) (I:Inv X pins σ H s) (r:Vals vs us)
  (h:∀x dx,H x=none->H dx=none->dx≠x->sp (.ref x::(vs++dvs)) (upd (upd H dx (.own x)) x (.ins C dx [])) (λv H2=>v=.non/\Q (.ref x) H2) E):
  ae (model X.prog X.w) X.A (call (.ref C) us) (EP X pins σ Q) X.xe s:=by
 have hq:=h (s.heap.objs.size+1) s.heap.objs.size (I.hok.fresh (eR _)) (I.hok.fresh (ay _)) (aD (bS _));have I2:=Inv.made (C:=C) I;have r2:Vals (V.ref (s.heap.objs.size+1)::(vs++dvs)) (Value.ref (s.heap.objs.size+1)::(us++ds)):=.cons rfl (r.append hd);have hl:(Value.ref (s.heap.objs.size+1)::us++ds).length=ps.length:=by have e:=r2.length;rw[F.len _ _ _ _ hq]at e;exact e.symm
 refine ji (IQ (f:=f) I.kIn M.makes M.init (beq_iff_eq.mp M.fn) (eP (F.run _ X.stack _ _ ⟨Value.ref (s.heap.objs.size+1)::us,[]⟩ (Value.ref (s.heap.objs.size+1)::(us++ds)) _ _ E (hr.make C us [])
  (I2.env0.make C us []) (hb _ (Value.ref (s.heap.objs.size+1)::us) I2.kIn hl) r2 hq) λr s' hq'=>?_))
 cases r with
 |error e=>exact hx pins σ _ _ e s' I2 hq'
 |ok fl=>
  cases fl with
  |ret u=>obtain⟨v,H',I3,rv,ev,q3⟩:=I2.after hq';subst ev;exact⟨rv,⟨V.ref (s.heap.objs.size+1),H',I3,rfl,q3⟩⟩
  |next=>exact bO hq'
  |brk=>exact bO hq'
  |cont=>exact bO hq'
theorem Ln(M:Mk X.K C f)(F:qZ X.prog X.w X.K X.mg X.base CX k f fd ps sp)(hr:pT (k+1) X.A)(hg:Gl X x)(hm:X.mg x=some (.ref C))(hb:Binds X.K fd ps ds)(hd:Vals dvs ds)(hx:Passes CX X E)
  (ha:PA X (e::es) t) (hdb:(x==("__debug__" : Str))=false:=by decide) (he:au (e::es) X.env=(false,eval e X.env)::au es X.env:=by rfl) (hpl:(aT pos (au es X.env)).any (·.1)=false:=by rfl):
  PE X (.Call (.Name x p) (e::es) [] pos) (Nc C sp dvs E t):=by
 intro pins s σ H Q I h;refine cK (zU I hg hm ?_ hdb);refine i7 (h₀:=X.base) I.ok.mod.kin M.kp (thn (ha pos pins s σ H _ I h) λus s1 ⟨vs,H1,I1,r,q⟩=>⟨I1.kIn,?_⟩) he hpl;exact IU M F hr hb hd hx I1 r q
end
structure pX(N P:List Str)(sc:bQ):Prop where
 kind:sc.kind=.function
 co:sc.isCoroutine=false
 gen:sc.isGenerator=false
 nd:N.Nodup
 pre:N.take P.length=P
 par:∀x∈P,sc.names.lookup x=some .local\/sc.names.lookup x=some .cell
 nofree:∀y∈sc.names,y.2≠.free
theorem BD{kindOf:Str->Option cD}{x:Str}:∀{binds:List (Str×aa)} {m:Str->Option aa},(∀v,(x,v)∉binds)->bindL kindOf binds m x=m x
 |[],_,_=>rfl
 |(n,v)::r,m,h=>by
  unfold bindL;rw[BD λw hw=>h w (aG _ hw)];split
  ·have:x≠n:=by rintro rfl;exact h v aH
   simp[this]
  ·rfl
theorem BE{kindOf:Str->Option cD}{x:Str}:∀{binds:List (Str×aa)} {m:Str->Option aa},(∀v,(x,v)∉binds)->bindC kindOf binds m x=m x
 |[],_,_=>rfl
 |(n,v)::r,m,h=>by
  unfold bindC;rw[BE λw hw=>h w (aG _ hw)];split
  ·rfl
  ·have:x≠n:=by rintro rfl;exact h v aH
   simp[this]
theorem BF{kindOf:Str->Option cD}{x:Str}{v:aa}:∀{P:List Str} {vs:List aa} {i:Nat} {m:Str->Option aa},P.Nodup->P[i]?=some x->vs[i]?=some v->kindOf x=some .local->
  bindL kindOf (P.zip vs) m x=some v
 |[],_,_,_,_,h,_,_=>by simp at h
 |_::_,[],_,_,_,_,h,_=>by simp at h
 |p::P,w::vs,0,m,nd,h1,h2,hk=>by simp at h1 h2;subst h1;subst h2;show bindL kindOf ((p,w)::P.zip vs) m p=_;unfold bindL;rw[BD λv hv=>(eK.mp nd).1 (iG hv).1,ah hk];simp
 |p::P,w::vs,i+1,m,nd,h1,h2,hk=>by show bindL kindOf ((p,w)::P.zip vs) m x=_;unfold bindL;exact BF (i:=i) (eK.mp nd).2 (by simpa using h1) (by simpa using h2) hk
theorem BG{kindOf:Str->Option cD}{x:Str}{v:aa}:∀{P:List Str} {vs:List aa} {i:Nat} {m:Str->Option aa},P.Nodup->P[i]?=some x->vs[i]?=some v->kindOf x≠some .local->
  bindC kindOf (P.zip vs) m x=some v
 |[],_,_,_,_,h,_,_=>by simp at h
 |_::_,[],_,_,_,_,h,_=>by simp at h
 |p::P,w::vs,0,m,nd,h1,h2,hk=>by simp at h1 h2;subst h1;subst h2;show bindC kindOf ((p,w)::P.zip vs) m p=_;unfold bindC;rw[BE λv hv=>(eK.mp nd).1 (iG hv).1,ag hk];simp
 |p::P,w::vs,i+1,m,nd,h1,h2,hk=>by show bindC kindOf ((p,w)::P.zip vs) m x=_;unfold bindC;exact BG (i:=i) (eK.mp nd).2 (by simpa using h1) (by simpa using h2) hk
def start(N:List Str)(vs:List V):St:=vs.map some++eM (N.length - vs.length) none
def DJ(CX:CXT)(P:aq)(w:aj)(K:ak)(mg:Str->Option aa)(base:Heap)(N:List Str)(qual:Str)(scope:bQ)(f:Addr)(cd:aa)(A:ar)(outer:List Env)(s:ab)(H:Hp)(E:XK):Cx where
 prog:=P
 w:=w
 K:=K
 mg:=mg
 base:=base
 A:=A.deeper (envOfC qual scope s.heap.objs.size f cd)
 N:=N
 s₀:=s
 H₀:=H
 env:=envOfC qual scope s.heap.objs.size f cd
 outer:=outer
 stack:=envOfC qual scope s.heap.objs.size f cd::outer
 ex:=[]
 calm:=true
 fn:=λ_=>true
 pn:=[]
 xe:=λe s'=>ae (model P w) (A.deeper (envOfC qual scope s.heap.objs.size f cd)) (leaving (envOfC qual scope s.heap.objs.size f cd) e) (λ_ s''=>CX outer H s E e s'') (λe' s''=>CX outer H s E e' s'') s'
theorem DK{sc:bQ}{n:Nat}(h:sc.names.lookup x=some .cell):∃c,(cellsFrom n sc.names []).lookup x=some c:=by have q:=kH sc.names n [] (.inl h);exact Option.isSome_iff_exists.mp q
variable{qual:Str}{scope:bQ}
theorem Hm{P:aq}{w:aj}{K:ak}{f:Addr}{cd:aa}{A:ar}{s s1:ab}{H:Hp}{E:XK}
  (S:pX N ps scope) (hd:A.handled=none) (e0:E4 P w K mg base A outer s H) (hl:vs.length=ps.length) (r:Vals vs us)
  (x:InCallC s s.heap.objs.size (bindL (envOfC qual scope s.heap.objs.size f cd).kindOf (ps.zip us) λ_=>none) (cellsFrom (s.heap.objs.size+1) scope.names []) (bindC (envOfC qual scope s.heap.objs.size f cd).kindOf (ps.zip us) λ_=>none) s1):
  Inv (DJ CX P w K mg base N qual scope f cd A outer s H E) [] (start N vs) H s1:=by
 have hpl:ps.length<=N.length:=by have:=bf eS S.pre;rw[b9]at this;omega
 obtain⟨h1,tk,rfl,hk⟩:=x.done;have noA:∀b:Addr,b∉(DJ CX P w K mg base N qual scope f cd A outer s H E).ex:=λb z=>ai (show b∈([]:List Addr) from z) (by simp);refine⟨⟨e0.mod,S.kind,rfl,rfl,ay _,λy z c h1 h2=>?_,λy hy=>?_,λy c _ h=>?_,λ_=>hd,Around.frames_deeper e0.frames,.inr ⟨rfl,rfl⟩,λb z=>ai z (noA b),e0.bs,e0.bsz,λb _ _=>noA b,λb z=>ai z (noA b),e0.funs,e0.frf⟩,
  rfl,e0.bare,Un.kept hk,⟨_,x.toInCall.ns,λi y v h1 h2 h3=>?_⟩,λy c h=>⟨_,x.cell y c h⟩,e0.hok.fresh (ay _),λy c h=>?_,λp hp=>ai (show p∈([]:List (Addr×Obj)) from hp) (by simp),e0.hok.kept hk,?_⟩
 ·exact name_of_addr x.apart (fo h1) (fo h2)
 ·have hy:scope.names.lookup y=some .cell\/scope.names.lookup y=some .free:=hy;rcases hy with hy|hy
  ·exact DK hy
  ·exact ai rfl (S.nofree _ (fo hy))
 ·exact eO (x.above y c (fo h))
 ·have hi:i<vs.length:=by
   unfold start at h2;by_cases hi:i<vs.length
   ·exact hi
   ·rw[cZ (by simpa using hi)]at h2;rw[fX]at h2;split at h2<;>cases h2
  have ha:vs[i]?=some v:=by
   unfold start at h2;rw[cG (by simpa using hi),aV]at h2;cases e:vs[i]? with
   |none=>rw[e]at h2;cases h2
   |some a=>rw[e]at h2;cases h2;rfl
  obtain⟨u,hu,rv⟩:=r.get ha;have hp:ps[i]?=some y:=by rw[<-S.pre,List.getElem?_take_of_lt (by omega)];exact h1
  have ndP:ps.Nodup:=by rw[<-S.pre];exact S.nd.sublist (ko _ _)
  refine⟨u,rv,?_⟩;rcases S.par y (bg hp)with k|k
  ·exact .inl ⟨k,BF ndP hp hu k⟩
  ·obtain⟨c,e⟩:=DK (n:=s.heap.objs.size+1) k;refine .inr ⟨.inl k,c,e,?_⟩;have q:=x.cell y c e;rw[BG ndP hp hu (by show scope.names.lookup y≠_;rw[k];decide)]at q;exact q
 ·exact e0.hok.fresh (eO (x.above y c (fo h)))
 ·unfold start;show _=N.length;rw[aM,aw,bN];omega
theorem Nd{P:aq}{w:aj}{K:ak}{k:Nat}{f:Addr}{name:Str}{params:Arguments}{dV kV doc pm cdv ct oc:aa}{an od:Option Addr}
  {osl:Array (Option aa)} (lk:K.lookup f=some ⟨oc,od,.func (cY name qual params body scope dV kV doc pm an cdv ct),osl⟩) (hcd:eV K cdv qual=true) (S:pX N ps scope)
  (len:∀vs H Q E,sp vs H Q E->vs.length=ps.length)
  (hbody:∀(A:ar) (outer:List Env) (s:ab) (H:Hp) (vs:List V) (Q:VK) (E:XK),pT k (A.deeper (envOfC qual scope s.heap.objs.size f cdv))->sp vs H Q E->
   ∃t,PSs (DJ CX P w K mg base N qual scope f cdv A outer s H E) body t/\t { nx:=λ_ H'=>Q .non H',rt:=Q } (start N vs) H):
  qZ P w K mg base CX (k+1) f (cY name qual params body scope dV kV doc pm an cdv ct) ps sp:=by
 refine⟨len,λA outer s H args us vs Q E hr e0 hb r hsp=>?_⟩;have hl:=len _ _ _ _ hsp;have KX:K.In s.heap:=e0.mod.kin.keeps λb o e=>(e0.bs b o e).1;have lim:s.heap.NoLimit:=e0.mod.nolimit.keeps λb o e=>(e0.bs b o e).1;have hkind:∀y∈ps.zip us,scope.names.lookup y.1=some .local\/(scope.names.lookup y.1=some .cell/\((cellsFrom (s.heap.objs.size+1) scope.names []).lookup y.1).isSome=true):=λ⟨n,v⟩ hy=>by
  rcases S.par n (iG hy).1 with q|q
  ·exact .inl q
  ·exact .inr ⟨q,kH _ _ _ (.inl q)⟩
 refine codeAny_call_function hr.depth (KX _ _ lk) rfl S.co S.gen rfl (W.codeRec_of KX hcd) (hb _ _ _ _ ?_);refine wpAny_newFunctionEnv_cells S.kind hkind λenv he s1 x=>?_;subst he;refine⟨lim.keeps x.toInCall.keep,codeAny_func ?_⟩;obtain⟨t,ht,hq⟩:=hbody A outer s H vs Q E (hr.deeper _) hsp;have I:Inv (DJ CX P w K mg base N qual scope f cdv A outer s H E) [] (start N vs) H s1:=Hm S hr.hd e0 hl r x;refine bt (ht [] s1 (start N vs) H _ I hq) (λfl s' hs=>?_) λe s' hs=>hs;have fin:∀{σ':St} {H':Hp} {v:V} {u:aa},Inv (DJ CX P w K mg base N qual scope f cdv A outer s H E) [] σ' H' s'->RelV v u->Q v H'->CE outer P w H s Q u s':=
  λ{σ' H' v u} J rv q=>⟨v,H',J.os,J.bare,J.base,J.hok,rv,q⟩
 cases fl with
 |ret u=>obtain⟨v,σ',H',J,rv,q⟩:=hs;exact fin J rv q
 |next=>obtain⟨σ',H',J,q⟩:=hs;exact fin (v:=V.non) (u:=Value.none) J rfl q
 |brk=>obtain⟨_,_,_,q⟩:=hs;exact bO q
 |cont=>obtain⟨_,_,_,q⟩:=hs;exact bO q
section
variable{X:Cx}{x:Str}{p pos:Pos}{e:Expr}{es:List Expr}{t:TA}{id T:String}{r:List V->Hp->VK->Prop}
def tCB(r:List V->Hp->VK->Prop)(t:TA):TE:=λσ H Q=>t σ H λvs H1=>r vs H1 Q
theorem tQ(hc:pK X (.builtin id) r)(hg:Gl X x)(hm:X.mg x=none)(hv:cv x=some (.builtin id))(ha:PA X (e::es) t)(hn:x≠"__name__" := by decide)(hdb:(x==("__debug__" : Str))=false:=by decide)
  (he:au (e::es) X.env=(false,eval e X.env)::au es X.env:=by rfl) (hpl:(aT pos (au es X.env)).any (·.1)=false:=by rfl):PE X (.Call (.Name x p) (e::es) [] pos) (tCB r t):=by
 intro pins s σ H Q I h;refine cK (ue I hg hm hv ?_ hn hdb);exact callWith_builtin1 (thn (ha pos pins s σ H _ I h) λus s1 ⟨vs,H1,I1,r1,q1⟩=>hc pins s1 σ H1 vs us Q I1 r1 q1) he hpl
theorem Hn(hc:pK X (.type T) r)(hg:Gl X x)(hm:X.mg x=none)(hv:cv x=some (.type T))(ha:PA X (e::es) t)(hn:x≠"__name__" := by decide)(hdb:(x==("__debug__" : Str))=false:=by decide)
  (he:au (e::es) X.env=(false,eval e X.env)::au es X.env:=by rfl) (hpl:(aT pos (au es X.env)).any (·.1)=false:=by rfl):PE X (.Call (.Name x p) (e::es) [] pos) (tCB r t):=by
 intro pins s σ H Q I h;refine cK (ue I hg hm hv ?_ hn hdb);exact callWith_type1 (thn (ha pos pins s σ H _ I h) λus s1 ⟨vs,H1,I1,r1,q1⟩=>hc pins s1 σ H1 vs us Q I1 r1 q1) he hpl
end
end L2
namespace HT
open PySem PyProof.Rows
section
variable{prog:aq}{w:aj}{A:ar}{E:aa->ab->Prop}{s:ab}
theorem Lo{t b:Addr}{vs ws:List aa}{Q:aa->ab->Prop}(ht:eX s.heap t vs.toArray)(hb:eX s.heap b ws.toArray)(hv:vs≠[])
  (h1:ws=[]->Q (.ref t) s) (h2:ws≠[]->Q (.ref s.heap.objs.size) { s with heap:=s.heap.push { cls:=.type "tuple", data:=.seq (vs++ws).toArray } })
  (hsz:vs.length+ws.length<=av):ae (model prog w) A (bP .Add (.ref t) (.ref b)) Q E s:=by
 obtain⟨⟨cls,dd,data,sl⟩,ho,hc,n,hd⟩:=id ht;obtain⟨⟨cls2,dd2,data2,sl2⟩,ho2,hc2,n2,hd2⟩:=id hb;simp only at hc hd hc2 hd2;subst hc hd hc2 hd2;have e:vs.toArray++ws.toArray=(vs++ws).toArray:=by simp
 by_cases hw:ws=[]
 ·exact concat_meets ⟨_,ho,rfl⟩ ⟨_,ho2,rfl⟩ kI lJ kJ kq (kc _ _)
   (tuple_addW1 t b vs.toArray ws.toArray n n2 dd dd2 sl sl2 (by simpa using hv) (by simp[hw])) ⟨ho,ho2,h1 hw⟩
 ·refine concat_meets ⟨_,ho,rfl⟩ ⟨_,ho2,rfl⟩ kI lJ kJ kq (kc _ _)
   (tuple_addW2 t b vs.toArray ws.toArray n n2 dd dd2 sl sl2 (by simpa using hv) (by simpa using hw) (by rw[aK,aK];exact hsz)) ⟨ho,ho2,?_⟩
  rw[e];exact h2 hw
def sIx(n d:Nat):Option Int->Nat
 |none=>d
 |some v=>if v<0 then (v+(n:Int)).toNat else min v.toNat n
end
end HT
namespace L2
open PySem PySem.Spec PyProof.Rows
abbrev TO:=St->Hp->(Option Int->Hp->Prop)->Prop
def PO(X:Cx)(e:Option Expr)(t:TO):Prop:=
 ∀(pins:List (Addr×Obj)) (s:ab) (σ:St) (H:Hp) (Q:Option Int->Hp->Prop),Inv X pins σ H s->t σ H Q->
  ae (model X.prog X.w) X.A (evalPart e X.env) (λu s'=>∃o H',Inv X pins σ H' s'/\IsPart u o/\Q o H') X.xe s
def Lp:TO:=λ_ H Q=>Q none H
def R8(t:TE):TO:=λσ H Q=>t σ H λx H1=>∃i,x=.int i/\Q (some i) H1
section
variable{X:Cx}{e:Expr}{te:TE}{lo hi:Option Expr}{tl th:TO}{pos p2:Pos}
theorem F4:PO X none Lp:=by intro pins s σ H Q I h;rw[lK];exact ao ⟨none,H,I,.none,h⟩
theorem F5(h:PE X e te):PO X (some e) (R8 te):=by intro pins s σ H Q I hw;rw[evalPart_some];refine thn (h pins s σ H _ I hw) λu s1 zz=>?_;obtain⟨x,H1,I1,r1,q1⟩:=zz;obtain⟨i,rfl,q⟩:=q1;obtain⟨t,rfl⟩:=r1;exact⟨some i,H1,I1,.int i t,q⟩
def SlR(X:Cx)(r:V->Option Int->Option Int->Hp->VK->Prop):Prop:=
 ∀(pins:List (Addr×Obj)) (s:ab) (σ:St) (H:Hp) (x:V) (v vl vu:aa) (lo hi:Option Int) (sl:Addr) (Q:VK),Inv X pins σ H s->RelV x v->s.heap.IsSliceOf sl vl vu .none->IsPart vl lo->IsPart vu hi->r x lo hi H Q->
  ∃T id,typeLookup (.type T) "__getitem__" = pure (some (.builtin id))/\s.TypeIs v T/\ae (model X.prog X.w) X.A (getItem v (.ref sl)) (EP X pins σ Q) X.xe s
def tSl(r:V->Option Int->Option Int->Hp->VK->Prop)(te:TE)(tl th:TO):TE:=λσ H Q=>te σ H λx H1=>tl σ H1 λl H2=>th σ H2 λu H3=>r x l u H3 Q
theorem DL{r:V->Option Int->Option Int->Hp->VK->Prop}(hr:SlR X r)(he:PE X e te)(hl:PO X lo tl)(hu:PO X hi th):PE X (.Subscript e (.Slice lo hi none p2) pos) (tSl r te tl th):=by intro pins s σ H Q I h;refine jk (thn (he pins s σ H _ I h) λv s1 zz=>?_);obtain⟨x,H1,I1,r1,q1⟩:=zz;refine wpAny_Slice (thn (hl pins s1 σ H1 _ I1 q1) λvl s2 ⟨l,H2,I2,pl,q2⟩=>thn (hu pins s2 σ H2 _ I2 q2) λvu s3 zz=>?_);obtain⟨u,H3,I3,pu,q3⟩:=zz;rw[lK];refine ao ?_;have I4:Inv X pins σ H3 { s3 with heap:=s3.heap.push { cls:=.type "slice", data:=.fields #[vl,vu,.none] } }:=I3.kept (t':=s3.toks) λb ob q=>az _ q;obtain⟨T,id,hT,ht,hg⟩:=hr pins { s3 with heap:=s3.heap.push { cls:=.type "slice", data:=.fields #[vl,vu,.none] } } σ H3 x v vl vu l u s3.heap.objs.size Q I4 r1 (nV ..) pl pu q3;show ae (model X.prog X.w) X.A (subscriptTail e (.Slice lo hi none p2) v (.ref s3.heap.objs.size)) (EP X pins σ Q) X.xe { s3 with heap:=s3.heap.push { cls:=.type "slice", data:=.fields #[vl,vu,.none] } };exact tail_any (ops:=[.ref s3.heap.objs.size,v]) ht hT hg (by with_unfolding_all rfl)
def Ho(xs:List V)(lo hi:Option Int):List V:=(xs.drop (HT.sIx xs.length 0 lo)).take (HT.sIx xs.length xs.length hi - HT.sIx xs.length 0 lo)
theorem DM(xs:List V)(lo hi:Option Int):(Ho xs lo hi).length<=xs.length:=by unfold Ho;rw[b9,fE];omega
def R9(K:ak):R2:=λx y H Q=>∃a b xs ys,x=.ref a/\y=.ref b/\SqT K H a xs/\SqT K H b ys/\xs≠[]/\xs.length+ys.length<=av/\
 (ys=[]->Q (.ref a) H)/\(ys≠[]->∀p,H p=none->Q (.ref p) (upd H p (.tup (xs++ys))))
theorem Vals.nil_iff{xs:List V}{us:List aa}(r:Vals xs us):us=[] ↔ xs=[]:=by
 cases r with
 |nil=>simp
 |cons _ _=>simp
theorem Lq:OpR X (bP .Add) (R9 X.K):=by intro pins s σ H x y v u Q I rx ry h;obtain⟨a,b,xs,ys,rfl,rfl,ha,hb,hx,hz,q1,q2⟩:=h;cases rx;cases ry;obtain⟨its,r1,p1,_⟩:=I.tuple ha;obtain⟨its2,r2,p2,_⟩:=I.tuple hb;refine HT.Lo p1 p2 (λz=>hx (r1.nil_iff.mp z)) (λz=>⟨.ref a,H,I,rfl,q1 (r2.nil_iff.mp z)⟩) (λz=>?_) (by rw[<-r1.length,<- r2.length];exact hz);refine⟨.ref s.heap.objs.size,_,I.laid (t':=s.toks) (o:=.tup (xs++ys)) (λb ob q=>az _ q) (ay _) ?_,rfl,q2 (λw=>z (r2.nil_iff.mpr w)) _ (I.hok.fresh (ay _))⟩;exact⟨by rw[aM];exact hz,_,r1.append r2,mr _ _⟩
end
def ixN(n:Nat)(i:Int):Option Nat:=if 0<=i then (if i<n then some i.toNat else none)else if -(n:Int)<=i then some (i+n).toNat else none
def atI{α:Type}(xs:List α)(i:Int):Option α:=(ixN xs.length i).bind λj=>xs[j]?
variable{j:Nat}
theorem F6{n:Nat}{i:Int}(h:ixN n i=some j):seqIndex? i n=some j/\j<n/\-(n:Int)<=i/\i<n:=by
 unfold ixN at h;by_cases h0:0<=i
 ·rw[ah h0]at h;by_cases h1:i<n
  ·rw[ah h1]at h;have e:i.toNat=j:=bB h;exact⟨by rw[je h0 h1,e],by omega,by omega,h1⟩
  ·rw[ag h1]at h;cases h
 ·rw[ag h0]at h;by_cases h1:-(n:Int)<=i
  ·rw[ah h1]at h;have e:(i+n).toNat=j:=bB h;exact⟨by rw[i8 (by omega) h1,e],by omega,h1,by omega⟩
  ·rw[ag h1]at h;cases h
theorem CP{α:Type}{xs:List α}{i:Int}{v:α}(h:atI xs i=some v):∃j,seqIndex? i xs.length=some j/\xs[j]?=some v/\j<xs.length/\-(xs.length:Int)<=i/\i<xs.length:=by
 unfold atI at h;cases e:ixN xs.length i with
 |none=>rw[e]at h;cases h
 |some j=>rw[e]at h;obtain⟨h1,h2,h3,h4⟩:=F6 e;exact⟨j,h1,h,h2,h3,h4⟩
theorem Lr{α:Type}{xs:List α}{v:α}(h:xs[j]?=some v):atI xs (j:Int)=some v:=by
 have hj:j<xs.length:=(bb.mp h).1;have e:ixN xs.length (j:Int)=some j:=by unfold ixN;rw[ah (by omega),ah (by omega)];simp
 unfold atI;rw[e];exact h
def F7(b:Expr):Prop:=∀o i,subscripted b false o i=operate [o,i] (getItem o i)
def IxR(X:Cx)(r:R2):Prop:=
 ∀(value slice:Expr) (pins:List (Addr×Obj)) (s:ab) (σ:St) (H:Hp) (x y:V) (v u:aa) (Q:VK),Inv X pins σ H s->RelV x v->RelV y u->r x y H Q->
  subscripted slice false v u=operate [v,u] (getItem v u)->ae (model X.prog X.w) X.A (subscriptTail value slice v u) (EP X pins σ Q) X.xe s
def MtR(X:Cx)(id:String)(r:V->List V->Hp->VK->Prop):Prop:=
 ∀(pins:List (Addr×Obj)) (s:ab) (σ:St) (H:Hp) (x:V) (xs:List V) (v:aa) (us:List aa) (Q:VK),Inv X pins σ H s->RelV x v->Vals xs us->r x xs H Q->
  ae (model X.prog X.w) X.A (call (.builtin id) (v::us)) (EP X pins σ Q) X.xe s
variable{r:R2}{pins:List (Addr×Obj)}{σ:St}{its its':List aa}{y:V}{u:aa}{T:String}
section
variable{X:Cx}{a b:Expr}{ta tb:TE}{pos:Pos}
theorem IxR.or{r':R2}(h:IxR X r)(h':IxR X r'):IxR X (λx y H Q=>r x y H Q\/r' x y H Q):=by
 intro value slice pins s σ H x y v u Q I rx ry q hs;rcases q with q|q
 ·exact h value slice pins s σ H x y v u Q I rx ry q hs
 ·exact h' value slice pins s σ H x y v u Q I rx ry q hs
theorem Sa(hr:IxR X r)(ha:PE X a ta)(hb:PE X b tb)(hs:F7 b):PE X (.Subscript a b pos) (tOp r ta tb):=by intro pins s σ H Q I h;exact jk (N9 ha hb I h λv u s2 x y H2 I2 rx ry q=>hr a b pins s2 σ H2 x y v u Q I2 rx ry q (hs _ _))
def Sb(K:ak):R2:=λx y H Q=>∃p xs i v,x=.ref p/\y=.int i/\SqL K H p xs/\atI xs i=some v/\Q v H
def Se(K:ak):R2:=λx y H Q=>∃p xs i v,x=.ref p/\y=.int i/\SqT K H p xs/\atI xs i=some v/\Q v H
def Sf:R2:=λx y H Q=>∃z i c,x=.str z/\y=.int i/\z.length<=av/\atI z.cps.toList i=some c/\Q (.str ⟨#[c]⟩) H
theorem Ls:IxR X (Sb X.K):=by
 intro value slice pins s σ H x y v u Q I rx ry h hs;obtain⟨p,xs,i,z,rfl,rfl,hq,he,q⟩:=h;cases rx;obtain⟨t,rfl⟩:=ry;obtain⟨its,r,pl,hz⟩:=I.list hq;obtain⟨j,h1,h2,h3,h4,h5⟩:=CP he;obtain⟨w,ew,rw'⟩:=r.get h2;have hl:=r.length;have hn:=yz;have fin:EP X pins σ Q w s:=⟨z,H,I,rw',q⟩;by_cases h0:0<=i
 ·have hj:i.toNat=j:=by rw[je h0 h5]at h1;exact bB h1
  exact item_listR pl.isList h0 (by omega) (by rw[hj];simpa using ew) fin hs
 ·have hj:(i+(its.toArray.size:Int)).toNat=j:=by rw[i8 (by omega) h4]at h1;rw[aK,<- hl];exact bB h1
  exact jI (x:=w) pl.isList.typeIs kr.lookup
   (wpAny_getItem_list_neg (Q:=λr s'=>r=w/\EP X pins σ Q r s') pl.isList (by omega) (by rw[aK]<;>omega) (by omega) (by rw[hj];simpa using ew) ⟨rfl,fin⟩) hs
theorem Ol:IxR X (Se X.K):=by
 intro value slice pins s σ H x y v u Q I rx ry h hs;obtain⟨p,xs,i,z,rfl,rfl,hq,he,q⟩:=h;cases rx;obtain⟨t,rfl⟩:=ry;obtain⟨its,r,pl,hz⟩:=I.tuple hq;obtain⟨j,h1,h2,h3,h4,h5⟩:=CP he;obtain⟨w,ew,rw'⟩:=r.get h2;have hl:=r.length;have hn:=yz;have fin:EP X pins σ Q w s:=⟨z,H,I,rw',q⟩;exact jI (x:=w) pl.typeIs slot_tuple_getitem.lookup
  (getItem_tuple (j:=j) (Q:=λr s'=>r=w/\EP X pins σ Q r s') pl (by omega) (by omega) (by rw[aK,<- hl];exact h1) (by simpa using ew) ⟨rfl,fin⟩) hs
theorem Om:IxR X Sf:=by
 intro value slice pins s σ H x y v u Q I rx ry h hs;obtain⟨z,i,c,rfl,rfl,hz,he,q⟩:=h;obtain⟨t,rfl⟩:=rx;obtain⟨t',rfl⟩:=ry;obtain⟨j,h1,h2,h3,h4,h5⟩:=CP he;have hl:z.cps.toList.length=z.length:=by simp[Str.length]
 rw[hl]at h1 h4 h5;have hn:=yz;exact tail_any (jm s z t) slot_str_getitem.lookup (getItem_str (c:=c) (by
  have e1:decide (i < -(2 ^ 63:Int))=false:=aY (by omega);have e2:decide (i >= 2 ^ 63)=false:=aY (by omega);rw[e1,e2,Bool.or_false]) (by rw[h1];simpa using h2) ⟨.str ⟨#[c]⟩,H,I.tok _,⟨_,rfl⟩,q⟩) hs
def rIx(K:ak):R2:=λx y H Q=>Sb K x y H Q\/Se K x y H Q\/Sf x y H Q
theorem On:IxR X (rIx X.K):=Ls.or (Ol.or Om)
theorem E5(its:List aa)(n j:Nat)(u:aa):bK (·.setIfInBounds j u) { cls:=.type "list", data:=.seq its.toArray n }={ cls:=.type "list", data:=.seq (its.set j u).toArray n }:=by simp[bK]
theorem Inv.lst{pins:List (Addr×Obj)}{σ:St}{H:Hp}{s:ab}{p:Addr}{xs:List V}(I:Inv X pins σ H s)(h:H p=some (.lst xs)):
  ∃(its:List aa) (n:Nat),Vals xs its/\s.heap.get? p=some { cls:=.type "list", data:=.seq its.toArray n }/\xs.length<=av:=by
 obtain⟨z,its,n,r,e⟩:=I.hok p _ h;exact⟨its,n,r,e,z⟩
theorem Inv.lstUpd{H:Hp}{s:ab}{p:Addr}{xs ys:List V}{n n':Nat}{f:Obj->Obj}(I:Inv X pins σ H s)(h:H p=some (.lst xs))
  (ho:s.heap.get? p=some { cls:=.type "list", data:=.seq its.toArray n }) (hf:f { cls:=.type "list", data:=.seq its.toArray n }={ cls:=.type "list", data:=.seq its'.toArray n' }) (r:Vals ys its') (hz:ys.length<=av) (t:Nat):
  Inv X pins σ (upd H p (.lst ys)) { s with heap:=s.heap.update p f,toks:=t }:=by
 have e:(s.heap.update p f).get? p=some { cls:=.type "list", data:=.seq its'.toArray n' }:=by rw[c4 f ho (by rw[hf]<;>rfl),hf]
 refine I.write (x:=p) (e:=p) (by rw[h];trivial) (.inl rfl) (λb u hb q=>(dX _ _ (bX hb)).trans q) ⟨_,e⟩ ?_;exact⟨hz,its',n',r,e⟩
def Nf:V->V->V->Hp->(Hp->Prop)->Prop:=λo i v H Q=>∃p xs k j,o=.ref p/\i=.int k/\H p=some (.lst xs)/\ixN xs.length k=some j/\Q (upd H p (.lst (xs.set j v)))
theorem set_list:RN X Nf:=by
 intro pins s σ H o i v ov iv u Q I ro ri rv h;obtain⟨p,xs,k,j,rfl,rfl,hp,hj,q⟩:=h;cases ro;obtain⟨t,rfl⟩:=ri;obtain⟨its,n,r,ho,hz⟩:=I.lst hp;obtain⟨h1,h2,h3,h4⟩:=F6 hj;have hl:=r.length;have hn:=yz;have I':Inv X pins σ (upd H p (.lst (xs.set j v))) { s with heap:=s.heap.update p (bK (·.setIfInBounds j u)) }:=
  I.lstUpd hp ho (E5 its n j u) (r.set rv j) (by rw[cQ];exact hz) s.toks
 by_cases h0:0<=k
 ·have hk:k.toNat=j:=by rw[je h0 h4]at h1;exact bB h1
  exact W.ki_setAt ho h0 (by omega) (by rw[aK,<- hl];exact h4) (by rw[hk];exact⟨_,I',q⟩)
 ·have hk:(k+(its.toArray.size:Int)).toNat=j:=by rw[i8 (by omega) h3]at h1;rw[aK,<- hl];exact bB h1
  exact W.ki_setBack ho (by omega) (by rw[aK,<- hl];exact h3) (by omega) (by rw[hk];exact⟨_,I',q⟩)
theorem CQ(lo hi:Option Int)(n:Nat):(sliceBounds lo hi none n).1=((HT.sIx n 0 lo:Nat):Int)/\(sliceBounds lo hi none n).2.1=((HT.sIx n n hi:Nat):Int)/\(sliceBounds lo hi none n).2.2=1:=by
 refine⟨?_,?_,rfl⟩
 ·cases lo with
  |none=>simp[sliceBounds,HT.sIx]
  |some i=>
   simp only[sliceBounds,HT.sIx,gu,show (1:Int) > 0 by decide,if_true];by_cases h:i<0
   ·simp only[h,if_true]<;>omega
   ·simp only[h,if_false]<;>omega
 ·cases hi with
  |none=>simp[sliceBounds,HT.sIx]
  |some i=>
   simp only[sliceBounds,HT.sIx,gu,show (1:Int) > 0 by decide,if_true];by_cases h:i<0
   ·simp only[h,if_true]<;>omega
   ·simp only[h,if_false]<;>omega
theorem Bn(its:List aa)(lo hi:Option Int):slicePick its.toArray lo hi none=((its.drop (HT.sIx its.length 0 lo)).take (HT.sIx its.length its.length hi - HT.sIx its.length 0 lo)).toArray:=by obtain⟨h1,h2,h3⟩:=CQ lo hi its.toArray.size;unfold slicePick;rw[h1,h2,h3];simp only[sliceRange_one,pick_run,aK]<;>rfl
def Hr(K:ak):V->Option Int->Option Int->Hp->VK->Prop:=λx lo hi H Q=>∃a xs,x=.ref a/\SqL K H a xs/\∀p,H p=none->Q (.ref p) (upd H p (.lst (Ho xs lo hi)))
theorem Lu:SlR X (Hr X.K):=by intro pins s σ H x v vl vu lo hi sl Q I rx hs pl pu h;obtain⟨a,xs,rfl,hx,q⟩:=h;cases rx;obtain⟨its,r,ht,hz⟩:=I.list hx;have hlen:=r.length;refine⟨"list", _,kr.lookup,ht.isList.typeIs,?_⟩;refine wpAny_getItem_list_slice ht.isList hs pl pu .none (by simp) ?_ (by rw[aK]<;>omega);rw[Bn,<- hlen];refine⟨.ref s.heap.objs.size,_,I.laid (t':=s.toks) (o:=.lst (Ho xs lo hi)) (λb ob q=>az _ q) (ay _) ?_,rfl,q _ (I.hok.fresh (ay _))⟩;exact⟨bF (DM xs lo hi) hz,_,0,(r.drop (HT.sIx xs.length 0 lo)).take (HT.sIx xs.length xs.length hi - HT.sIx xs.length 0 lo),aQ _ rfl⟩
def wt:V->Bool
 |.non=>true
 |.bl _=>true
 |.int _=>true
 |.str _=>true
 |_=>false
def eqV:V->V->Bool
 |.non,.non=>true
 |.bl a,.bl b=>a==b
 |.bl a,.int b=>(if a then 1 else 0)==b
 |.int a,.bl b=>a==(if b then 1 else 0)
 |.int a,.int b=>a==b
 |.str a,.str b=>a==b
 |_,_=>false
theorem Ac{A:ar}{s:ab}{x:V}{v:aa}(ry:RelV y u)(rx:RelV x v)(fy:wt y=true)(fx:wt x=true):fO A s u v (eqV y x):=by
 cases y with
 |non=>
  cases ry;cases x with
  |non=>cases rx;exact iH _
  |bl b=>cases rx;exact nu b
  |int b=>obtain⟨t,rfl⟩:=rx;exact j1 b t
  |str b=>obtain⟨t,rfl⟩:=rx;exact j2 b t
  |_=>exact ai (show false=true from fx) aN
 |bl a=>
  cases ry;cases x with
  |non=>cases rx;exact nv a
  |bl b=>cases rx;exact ny a b
  |int b=>obtain⟨t,rfl⟩:=rx;exact nL a b t
  |str b=>obtain⟨t,rfl⟩:=rx;exact nM a b t
  |_=>exact ai (show false=true from fx) aN
 |int a=>
  obtain⟨t',rfl⟩:=ry;cases x with
  |non=>cases rx;exact j3 a t'
  |bl b=>cases rx;exact nN a t' b
  |int b=>obtain⟨t,rfl⟩:=rx;exact nW a t' b t
  |str b=>obtain⟨t,rfl⟩:=rx;exact j9 a t' b t
  |_=>exact ai (show false=true from fx) aN
 |str a=>
  obtain⟨t',rfl⟩:=ry;cases x with
  |non=>cases rx;exact j4 a t'
  |bl b=>cases rx;exact nO a t' b
  |int b=>obtain⟨t,rfl⟩:=rx;exact ka a t' b t
  |str b=>obtain⟨t,rfl⟩:=rx;exact ig a t' b t
  |_=>exact ai (show false=true from fx) aN
 |_=>exact ai (show false=true from fy) aN
def eqU(x:V)(u:aa):Bool:=match u with
 |.none=>eqV .non x
 |.bool b=>eqV (.bl b) x
 |.int i _=>eqV (.int i) x
 |.str z _=>eqV (.str z) x
 |_=>false
theorem IV{x:V}(r:RelV y u)(f:wt y=true):eqU x u=eqV y x:=by
 cases y with
 |non=>cases r;rfl
 |bl b=>cases r;rfl
 |int i=>obtain⟨t,rfl⟩:=r;rfl
 |str z=>obtain⟨t,rfl⟩:=r;rfl
 |_=>exact ai (show false=true from f) aN
theorem xq{x:V}:∀{xs:List V} {us:List aa},Vals xs us->xs.all wt=true->us.any (eqU x)=xs.any λy=>eqV y x
 |_,_,.nil,_=>rfl
 |y::xs,u::us,.cons r t,f=>by rw[dc,aE]at f;rw[dM,dM,IV r f.1,xq t f.2]
theorem vn{A:ar}{s:ab}{x:V}{v:aa}(rx:RelV x v)(fx:wt x=true):∀{xs:List V} {us:List aa},Vals xs us->xs.all wt=true->∀u∈us,fO A s u v (eqU x u)
 |_,_,.nil,_=>λu hu=>by cases hu
 |y::xs,u::us,.cons r t,f=>λu' hu=>by
  rw[dc,aE]at f;rcases aF.mp hu with rfl|hu
  ·rw[IV r f.1];exact Ac r rx f.1 fx
  ·exact vn rx fx t f.2 u' hu
def inV(x:V)(xs:List V):Bool:=xs.any λy=>eqV y x
def rIn(K:ak)(neg:Bool):R2:=λx y H Q=>∃p xs,y=.ref p/\(SqL K H p xs\/SqT K H p xs)/\wt x=true/\xs.all wt=true/\Q (.bl (if neg then !inV x xs else inV x xs)) H
theorem Hs:OpR X (aO .In) (rIn X.K false):=by
 intro pins s σ H x y v u Q I rx ry h;obtain⟨p,xs,rfl,hq,fx,fs,q⟩:=h;cases ry;rcases hq with hq|hq
 ·obtain⟨its,r,pl,hz⟩:=I.list hq;refine kP (eqU x) pl.isList (λw hw=>vn rx fx r fs w (by simpa using hw)) ⟨.bl _,H,I,rfl,?_⟩;rw[show its.toArray.any (eqU x)=its.any (eqU x) by simp,xq r fs];exact q
 ·obtain⟨its,r,pl,hz⟩:=I.tuple hq;refine SeqAt.in_tupleAt (eqU x) pl (λw hw=>vn rx fx r fs w (by simpa using hw)) ⟨.bl _,H,I,rfl,?_⟩;rw[show its.toArray.any (eqU x)=its.any (eqU x) by simp,xq r fs];exact q
theorem CS:OpR X (aO .NotIn) (rIn X.K true):=by
 intro pins s σ H x y v u Q I rx ry h;obtain⟨p,xs,rfl,hq,fx,fs,q⟩:=h;cases ry;rcases hq with hq|hq
 ·obtain⟨its,r,pl,hz⟩:=I.list hq;refine SeqAt.notIn_listAt (eqU x) pl.isList (λw hw=>vn rx fx r fs w (by simpa using hw)) ⟨.bl _,H,I,rfl,?_⟩;rw[show its.toArray.any (eqU x)=its.any (eqU x) by simp,xq r fs];exact q
 ·obtain⟨its,r,pl,hz⟩:=I.tuple hq;refine SeqAt.notIn_tupleAt (eqU x) pl (λw hw=>vn rx fx r fs w (by simpa using hw)) ⟨.bl _,H,I,rfl,?_⟩;rw[show its.toArray.any (eqU x)=its.any (eqU x) by simp,xq r fs];exact q
theorem CT:pK X (.builtin "len") (λxs H Q=>∃p ys,xs=[.ref p]/\(SqL X.K H p ys\/SqT X.K H p ys)/\Q (.int ys.length) H):=by
 intro pins s σ H xs us Q I r h;obtain⟨p,ys,rfl,hq,q⟩:=h;obtain⟨u,rfl,rx⟩:=vals1 r;cases rx;have hn:=yz;rcases hq with hq|hq
 ·obtain⟨its,r',pl,hz⟩:=I.list hq;have hlen:=r'.length;exact Calls.call_len_list pl.isList (by simp only[aK]<;>omega) ⟨.int ys.length,H,I.tok _,⟨s.toks+1,by rw[aK,hlen]⟩,q⟩
 ·obtain⟨its,r',pl,hz⟩:=I.tuple hq;have hlen:=r'.length;exact len_tuple pl (by simp only[aK]<;>omega) ⟨.int ys.length,H,I.tok _,⟨s.toks+1,by rw[aK,hlen]⟩,q⟩
theorem CU:pK X (.builtin "len") (λxs H Q=>∃z,xs=[.str z]/\z.length<=av/\Q (.int z.length) H):=by intro pins s σ H xs us Q I r h;obtain⟨z,rfl,hz,q⟩:=h;obtain⟨u,rfl,t,rfl⟩:=vals1 r;have hn:=yz;exact len_str (by omega) ⟨.int z.length,H,I.tok _,⟨_,rfl⟩,q⟩
theorem CV:pK X (.type "list") (λxs H Q=>∃p ys,xs=[.ref p]/\(SqL X.K H p ys\/SqT X.K H p ys)/\∀l,H l=none->Q (.ref l) (upd H l (.lst ys))):=by
 intro pins s σ H xs us Q I r h;obtain⟨p,ys,rfl,hq,q⟩:=h;obtain⟨u,rfl,rx⟩:=vals1 r;cases rx;have fin:∀(its:List aa),Vals ys its->ys.length<=av->∀(h':Heap) (c':Nat),(∀b o',s.heap.get? b=some o'->h'.get? b=some o')->
   h'.get? s.heap.objs.size=some { cls:=.type "list", dict:=none,data:=.seq its.toArray c',slots:=#[] }->EP X pins σ Q (.ref s.heap.objs.size) { s with heap:=h' }:=λits r' hz h' c' kp e=>
  ⟨.ref s.heap.objs.size,_,I.laid (t':=s.toks) kp (ay _) (show pD X.prog X.w _ h' _ (.lst ys) from⟨hz,its,c',r',e⟩),rfl,q _ (I.hok.fresh (ay _))⟩
 rcases hq with hq|hq
 ·obtain⟨its,r',pl,hz⟩:=I.list hq;have hlen:=r'.length;obtain⟨o,ho,hc,n,hd⟩:=pl.isList;exact lL p (.inl rfl) ho hc hd (λh' c' kp e=>fin its r' hz h' c' kp e) (by simp only[aK]<;>omega)
 ·obtain⟨its,r',pl,hz⟩:=I.tuple hq;have hlen:=r'.length;obtain⟨o,ho,hc,n,hd⟩:=pl;exact lL p (.inr rfl) ho hc hd (λh' c' kp e=>fin its r' hz h' c' kp e) (by simp only[aK]<;>omega)
theorem Bo:pK X (.type "tuple") (λxs H Q=>∃p ys,xs=[.ref p]/\((SqL X.K H p ys/\∀l,H l=none->Q (.ref l) (upd H l (.tup ys)))\/(SqT X.K H p ys/\Q (.ref p) H))):=by
 intro pins s σ H xs us Q I r h;obtain⟨p,ys,rfl,h⟩:=h;obtain⟨u,rfl,rx⟩:=vals1 r;cases rx;rcases h with ⟨hq,q⟩|⟨hq,q⟩
 ·obtain⟨its,r',pl,hz⟩:=I.list hq;have hlen:=r'.length;refine call_tuple_list pl.isList (λh' kp=>?_) (by simp only[aK]<;>omega);have I1:Inv X pins σ H { s with heap:=h' }:=I.kept (t':=s.toks) kp;have I2:Inv X pins σ (upd H h'.objs.size (.tup ys)) { s with heap:=h'.push { cls:=.type "tuple", data:=.seq its.toArray } }:=
   I1.laid (t':=s.toks) (λb o e=>az _ e) (ay _) (show pD X.prog X.w _ _ _ (.tup ys) from⟨hz,its,r',mr _ _⟩)
  exact⟨.ref h'.objs.size,_,I2,rfl,q _ (I1.hok.fresh (ay _))⟩
 ·obtain⟨its,r',pl,hz⟩:=I.tuple hq;exact call_tuple_same pl ⟨.ref p,H,I,rfl,q⟩
def tyV(K:ak)(T:String)(x:V)(H:Hp):Prop:=match x with
 |.str _=>T="str"
 |.int _=>T="int"
 |.ref p=>(T="list" /\ ∃xs,SqL K H p xs)\/(T="tuple" /\ ∃o,K.lookup p=some o/\o.cls=.type "tuple" /\ o.dict=none)\/
   (T="dict" /\ ((∃kvs,H p=some (.dK kvs))\/∃kvs,H p=some (.dT kvs)))\/(T="set" /\ ∃S n,H p=some (.set S n))
 |_=>False
theorem Oq{H:Hp}{s:ab}{x:V}{v:aa}(I:Inv X pins σ H s)(r:RelV x v)(ty:tyV X.K T x H):
  s.TypeIs v T/\∀a,v=.ref a->∃ob,s.heap.get? a=some ob/\ob.dict=none:=by
 cases x with
 |str z=>obtain⟨t,rfl⟩:=r;cases (show T="str" from ty);exact⟨jm s z t,λ_ e=>nomatch e⟩
 |int i=>obtain⟨t,rfl⟩:=r;cases (show T="int" from ty);exact⟨typeIs_int s i t,λ_ e=>nomatch e⟩
 |ref p=>
  cases r;rcases ty with ⟨rfl,xs,hq⟩|⟨rfl,o,hk,hc,hd⟩|⟨rfl,hk⟩|⟨rfl,S,n,hk⟩
  ·obtain⟨its,_,pl,_⟩:=I.list hq;refine⟨pl.isList.typeIs,λa e=>?_⟩;cases e;obtain⟨o,n,e,c,hd,_⟩:=pl;exact⟨o,e,hd⟩
  ·refine⟨⟨o,I.kIn p o hk,hc⟩,λa e=>?_⟩;cases e;exact⟨o,I.kIn _ o hk,hd⟩
  ·have z:∃o,s.heap.get? p=some o/\o.ExactDict:=by
    rcases hk with ⟨kvs,hk⟩|⟨kvs,hk⟩
    ·obtain⟨_,_,_,_,o,_,_,e,ex,_⟩:=I.hok p _ hk;exact⟨o,e,ex⟩
    ·obtain⟨_,_,_,_,o,_,_,e,ex,_⟩:=I.hok p _ hk;exact⟨o,e,ex⟩
   obtain⟨o,e,ex⟩:=z;refine⟨⟨o,e,ex.1⟩,λa e2=>?_⟩;cases e2;exact⟨o,e,ex.2.1⟩
  ·obtain⟨o,_,_,_,e,ex,_⟩:=I.hok p _ hk;refine⟨⟨o,e,ex.1⟩,λa e2=>?_⟩;cases e2;exact⟨o,e,ex.2.1⟩
 |_=>exact bO ty
def tBM(K:ak)(T:String)(r:V->List V->Hp->VK->Prop)(to:TE)(t:TA):TE:=λσ H Q=>to σ H λx H1=>tyV K T x H1/\t σ H1 λxs H2=>r x xs H2 Q
variable{o e:Expr}{es:List Expr}{to:TE}{t:TA}{name:Str}{apos cpos:Pos}{T id:String}{r:V->List V->Hp->VK->Prop}
theorem Sg(pa:jn T)(slot:Slot T name id)(hty:typeOf (.builtin id)=pure (.type "method_descriptor"))(hm:MtR X id r)(ho:PE X o to)(ha:PA X (e::es) t)
  (hbase:c9 o name X.env (eval o X.env)=eval o X.env:=by rfl)
  (hfew:((aT cpos (au (e::es) X.env)).all (λx=>!x.1)&&(backToKw cpos (cy [] X.env)).all (λx=>x.1.isSome)
   && decide ((e::es).length+([]:List dq).length+(if ([]:List dq).isEmpty then 0 else 1)<30))=true:=by rfl)
  (hline:(apos.endLine==cpos.line)=true:=by rfl) (hs:au (e::es) X.env=(false,eval e X.env)::au es X.env:=by rfl) (hplain:(aT cpos (au es X.env)).any (·.1)=false:=by rfl):
  PE X (.Call (.Attribute o name apos) (e::es) [] cpos) (tBM X.K T r to t):=by
 intro pins s σ H Q I h;refine wpAny_Call_method_late hbase hfew hline rfl (thn (ho pins s σ H _ I h) λv s1 zz=>?_);obtain⟨x,H1,I1,r1,ty,q1⟩:=zz;obtain⟨h1,h2⟩:=Oq I1 r1 ty;refine⟨T,id,pa,slot,hty,h1,h2,?_⟩;have hA:=ha cpos pins s1 σ H1 _ I1 q1;rw[hs]at hA ⊢;refine fi (by show (false||(aT cpos (au es X.env)).any (·.1))=false;rw[hplain]<;>rfl) (fm ?_)
 exact thn hA λus s2 ⟨vs,H2,I2,r2,q2⟩=>hm pins s2 σ H2 x vs v us Q I2 r1 r2 q2
end
def MtM(X:Cx)(id:String)(r:V->List V->Hp->VK->Prop):Prop:=
 ∀(pins:List (Addr×Obj)) (s:ab) (σ:St) (H:Hp) (x:V) (xs:List V) (v:aa) (us:List aa) (Q:VK),Inv X pins σ H s->RelV x v->Vals xs us->r x xs H Q->
  ae (model X.prog X.w) X.A (call (.builtin id) (v::us)) (EP X pins σ Q) X.xe s
theorem Vals.one:∀{x:V} {us:List aa},Vals [x] us->∃u,us=[u]/\RelV x u
 |_,_,.cons r .nil=>⟨_,rfl,r⟩
variable{t':Nat}
section
variable{X:Cx}{pins:List (Addr×Obj)}{σ:St}{H:Hp}{s:ab}{l b:Addr}{xs ys zs:List V}
theorem Inv.lset{n:Nat}{f:Array aa->Array aa}(I:Inv X pins σ H s)(hH:H l=some (.lst xs))
  (e:s.heap.get? l=some { cls:=.type "list", data:=.seq its.toArray n }) (hf:f its.toArray=its'.toArray) (hv:Vals ys its') (hz:ys.length<=av):
  Inv X pins σ (upd H l (.lst ys)) { s with heap:=s.heap.update l (bK f),toks:=t' }:=by
 have q:=PySem.IsL.update e f;rw[hf]at q;refine I.write (x:=l) (e:=l) (by rw[hH];exact trivial) (.inl rfl) (λb' u hb hu=>(dX s.heap (bK f) (bX hb)).trans hu) ⟨_,q⟩ ?_;exact⟨hz,its',_,hv,q⟩
theorem Inv.lnew(I:Inv X pins σ H s)(hv:Vals ys its)(hz:ys.length<=av):
  Inv X pins σ (upd H s.heap.objs.size (.lst ys)) { s with heap:=s.heap.push { cls:=.type "list", data:=.seq its.toArray },toks:=t' }:=
 I.laid (λ_ _ q=>az _ q) (ay _) ⟨hz,its,0,hv,aQ _ rfl⟩
theorem Inv.fresh(I:Inv X pins σ H s):H s.heap.objs.size=none:=I.hok.fresh (ay _)
theorem Inv.lstM(I:Inv X pins σ H s)(hH:H l=some (.lst xs)):xs.length<=av/\∃(its:List aa) (n:Nat),Vals xs its/\xs.length=its.length/\s.heap.get? l=some { cls:=.type "list", data:=.seq its.toArray n }:=by obtain⟨z,its,n,r,e⟩:=I.hok l _ hH;exact⟨z,its,n,r,r.length,e⟩
theorem DN{n:Nat}(h:n<=av):eY n=false:=by unfold eY;exact aY (by omega)
end
section
variable{X:Cx}
def CW:V->List V->Hp->VK->Prop:=λx vs H Q=>∃l xs y,x=.ref l/\vs=[y]/\H l=some (.lst xs)/\xs.length<av/\Q .non (upd H l (.lst (xs++[y])))
theorem yB:MtM X "list.append" CW:=by intro pins s σ H x vs v us Q I rx rv h;obtain⟨l,xs,y,rfl,rfl,hH,hz,q⟩:=h;cases rx;obtain⟨u,rfl,ru⟩:=rv.one;obtain⟨z,its,n,r,hl,e⟩:=I.lstM hH;refine jo ik ⟨_,e,rfl⟩ F.entry_list_append (F.args_list_append_2 _ _) (PySem.list_append l its.toArray n u (by rw[aK];omega)) ⟨e,?_⟩;refine⟨.non,_,I.lset (its':=its++[u]) hH e (by simp) (r.append (.cons ru .nil)) ?_,rfl,q⟩;rw[aM,ck];omega
def F8:V->List V->Hp->VK->Prop:=λx vs H Q=>∃l b xs zs,x=.ref l/\vs=[.ref b]/\H l=some (.lst xs)/\H b=some (.lst zs)/\xs.length+zs.length<=av/\Q .non (upd H l (.lst (xs++zs)))
theorem Ht:MtM X "list.extend" F8:=by
 intro pins s σ H x vs v us Q I rx rv h;obtain⟨l,b,xs,zs,rfl,rfl,hH,hB,hz,q⟩:=h;cases rx;obtain⟨u,rfl,ru⟩:=rv.one;cases ru;obtain⟨z,its,n,r,hl,e⟩:=I.lstM hH;obtain⟨z2,its2,n2,r2,hl2,e2⟩:=I.lstM hB;have hsz:its.toArray.size+its2.toArray.size<=av:=by rw[aK,aK];omega
 have hlong:¬(!its.toArray.isEmpty&&eY (its.toArray.size+its2.toArray.size))=true:=by rw[DN hsz,lg];exact aN
 refine jo gf ⟨_,e,rfl⟩ j5 (jV _ _)
  (AutoSeq1.list_extend_list_list_0 l its.toArray n b its2.toArray n2 hlong (by rw[aK];omega) (by omega)) ⟨e,e2,?_⟩
 refine⟨.non,_,I.lset (its':=its++its2) hH e (by simp) (r.append r2) ?_,rfl,q⟩;rw[aM];omega
def T8:R2:=λx y H Q=>∃l b xs zs,x=.ref l/\y=.ref b/\H l=some (.lst xs)/\H b=some (.lst zs)/\xs.length+zs.length<=av/\∀p,H p=none->Q (.ref p) (upd H p (.lst (xs++zs)))
theorem Os:OpR X (bP .Add) T8:=by
 intro pins s σ H x y v u Q I rx ry h;obtain⟨l,b,xs,zs,rfl,rfl,hH,hB,hz,q⟩:=h;cases rx;cases ry;obtain⟨z,its,n,r,hl,e⟩:=I.lstM hH;obtain⟨z2,its2,n2,r2,hl2,e2⟩:=I.lstM hB;refine PySem.P.add_list e e2 ?_ (by rw[aK,aK];omega);have ea:its.toArray++its2.toArray=(its++its2).toArray:=by simp
 rw[ea];exact⟨.ref _,_,I.lnew (t':=s.toks) (r.append r2) (by rw[aM];omega),rfl,q _ I.fresh⟩
end
section
variable{prog:aq}{w:aj}{A:ar}{E:aa->ab->Prop}{s:ab}
set_option maxRecDepth 100000 in
end
section
variable{κ:Type}[DecidableEq κ]
def qL(kvs:List (κ×V))(k:κ):Option V:=(kvs.find? λkv=>decide (kv.1=k)).map (·.2)
def putK(kvs:List (κ×V))(k:κ)(v:V):List (κ×V):=
 if (kvs.any λkv=>decide (kv.1=k))=true then kvs.map (λkv=>if kv.1=k then (kv.1,v)else kv)else kvs++[(k,v)]
theorem xt{p:κ×V}{r:List (κ×V)}{k:κ}(e:p.1=k):qL (p::r) k=some p.2:=by simp[qL,cq,e]
theorem xu{p:κ×V}{r:List (κ×V)}{k:κ}(e:¬p.1=k):qL (p::r) k=qL r k:=by simp[qL,cq,e]
theorem Ad(k:κ):∀kvs:List (κ×V),(kvs.any λkv=>decide (kv.1=k))=(qL kvs k).isSome
 |[]=>rfl
 |p::r=>by
  rw[dM];by_cases e:p.1=k
  ·simp only[xt e,bj e,Bool.true_or,Option.isSome_some]
  ·rw[xu e,aY e,Bool.false_or];exact Ad k r
theorem vo(kvs:List (κ×V))(k:κ)(v:V):(putK kvs k v).length<=kvs.length+1:=by
 unfold putK;split
 ·rw[aw];omega
 ·rw[aM,aI,dF];omega
theorem IW{kvs:List (κ×V)}{k:κ}(v:V)(h:qL kvs k=none):putK kvs k v=kvs++[(k,v)]:=by unfold putK;rw[Ad,h];exact ag (by decide)
theorem vh.isSome_eq{o:Option V}{u:Option aa}(r:vh o u):o.isSome=u.isSome:=by
 cases o with
 |none=>cases u with
  |none=>rfl
  |some _=>exact(show False from r).elim
 |some _=>cases u with
  |none=>exact(show False from r).elim
  |some _=>rfl
theorem vh.getD{o:Option V}{u:Option aa}{d:V}{d':aa}(r:vh o u)(rd:RelV d d'):RelV (o.getD d) (u.getD d'):=by
 cases o with
 |none=>cases u with
  |none=>exact rd
  |some _=>exact(show False from r).elim
 |some _=>cases u with
  |none=>exact(show False from r).elim
  |some _=>exact r
theorem KV.val{kvs:List (κ×V)}{vs:List (κ×aa)}(r:KV kvs vs)(k:κ):vh (qL kvs k) (valueAt vs k):=by
 unfold KV at r
 induction r with
 |nil=>exact True.intro
 |@cons p q ps qs h t ih=>
  obtain⟨h1,h2⟩:=h;by_cases e:p.1=k
  ·have e':q.1=k:=h1.symm.trans e;have b:valueAt (q::qs) k=some q.2:=by simp[valueAt,cq,e']
   rw[xt e,b];exact h2
  ·have e':¬q.1=k:=λz=>e (h1.trans z);have b:valueAt (q::qs) k=valueAt qs k:=by simp[valueAt,cq,e']
   rw[xu e,b];exact ih
theorem KV.any{kvs:List (κ×V)}{vs:List (κ×aa)}(r:KV kvs vs)(k:κ):(kvs.any λkv=>decide (kv.1=k))=vs.any λkv=>decide (kv.1=k):=by
 unfold KV at r
 induction r with
 |nil=>rfl
 |cons h t ih=>rw[dM,dM,ih,h.1]
theorem KV.repl{kvs:List (κ×V)}{vs:List (κ×aa)}(r:KV kvs vs)(k:κ)(ry:RelV y u):
  KV (kvs.map λkv=>if kv.1=k then (kv.1,y)else kv) (vs.map λkv=>if kv.1=k then (kv.1,u)else kv):=by
 unfold KV at r ⊢
 induction r with
 |nil=>exact .nil
 |@cons p q ps qs h t ih=>
  rw[aW,aW];refine .cons ?_ ih;obtain⟨h1,h2⟩:=h;by_cases e:p.1=k
  ·rw[ah e,ah (h1.symm.trans e)];exact⟨h1,ry⟩
  ·rw[ag e,ag (λz=>e (h1.trans z))];exact⟨h1,h2⟩
theorem KV.put{kvs:List (κ×V)}{vs:List (κ×aa)}(r:KV kvs vs)(k:κ)(ry:RelV y u):KV (putK kvs k y) (stored vs k u):=by
 unfold putK stored;rw[r.any k];by_cases e:(vs.any λkv=>decide (kv.1=k))=true
 ·rw[ah e,ah e];exact r.repl k ry
 ·rw[ag e,ag e];exact mh r ⟨rfl,ry⟩
theorem KV.length{kvs:List (κ×V)}{vs:List (κ×aa)}(r:KV kvs vs):kvs.length=vs.length:=iR r
end
theorem za{P:aq}{w:aj}{k:Key}(r:RelV (kV k) u):(oF P w).is k u=true:=by
 cases k with
 |inl i=>obtain⟨t,e⟩:=(show ∃t,u=Value.int i t from r);subst e;exact DE P w i t
 |inr x=>obtain⟨t,e⟩:=(show ∃t,u=Value.str x t from r);subst e;exact DF P w x t
theorem BH{P:aq}{w:aj}:∀{ks:List Key} {us:List aa},Vals (ks.map kV) us->ItemsAre (oF P w) ks us
 |[],_,r=>by rw[lY]at r;cases r;exact .nil
 |k::ks,_,r=>by
  rw[aW]at r;cases r with
  |cons h t=>exact .cons (za h) (BH t)
abbrev KT(H:Hp):List (List Key×V)->List (List Key×Addr×aa)->Prop:=eU λp q=>p.1=q.1/\H q.2.1=some (.tup (p.1.map kV))/\RelV p.2 q.2.2
variable{kvs:List (List Key×V)}{xs:List (List Key×Addr×aa)}
theorem KT.val{H:Hp}(r:KT H kvs xs)(k:List Key):vh (qL kvs k) ((atKey xs k).map (·.2)):=by
 induction r with
 |nil=>exact True.intro
 |@cons p q ps qs h t ih=>
  obtain⟨h1,_,h2⟩:=h;by_cases e:p.1=k
  ·have e':q.1=k:=h1.symm.trans e;have b:atKey (q::qs) k=some q.2:=by simp[atKey,cq,e']
   rw[xt e,b];exact h2
  ·have e':¬q.1=k:=λz=>e (h1.trans z);have b:atKey (q::qs) k=atKey qs k:=by simp[atKey,cq,e']
   rw[xu e,b];exact ih
theorem KT.repl{H:Hp}(r:KT H kvs xs)(k:List Key)(ry:RelV y u):
  KT H (kvs.map λkv=>if kv.1=k then (kv.1,y)else kv) (xs.map (putAt k u)):=by
 induction r with
 |nil=>exact .nil
 |@cons p q ps qs h t ih=>
  rw[aW,aW];refine .cons ?_ ih;obtain⟨h1,h2,h3⟩:=h;unfold putAt;by_cases e:p.1=k
  ·rw[ah e,ah (h1.symm.trans e)];exact⟨h1,h2,ry⟩
  ·rw[ag e,ag (λz=>e (h1.trans z))];exact⟨h1,h2,h3⟩
theorem KT.put{H:Hp}(r:KT H kvs xs)(k:List Key){b:Addr}(hb:H b=some (.tup (k.map kV)))(ry:RelV y u):
  KT H (putK kvs k y) (storedH xs k b u):=by
 have e:(kvs.any λkv=>decide (kv.1=k))=(atKey xs k).isSome:=by rw[Ad,(r.val k).isSome_eq,Option.isSome_map]
 unfold putK storedH;rw[e];by_cases q:(atKey xs k).isSome=true
 ·rw[ah q,ah q];exact r.repl k ry
 ·rw[ag q,ag q];exact mh r ⟨rfl,hb,ry⟩
variable{H':Hp}
theorem KT.keeps{H:Hp}(r:KT H kvs xs)(ht:∀b ys,H b=some (.tup ys)->H' b=some (.tup ys)):KT H' kvs xs:=
 Paired.mapP r λ_ _ z=>⟨z.1,ht _ _ z.2.1,z.2.2⟩
section
variable{P:aq}{w:aj}{H:Hp}{h:Heap}{a:Addr}
theorem Ng{u:HO}(ok:HOk P w H h)(e:Rd H a u):pD P w H h a u:=e.ok ok
theorem zb{kvs:List (Key×V)}(ok:HOk P w H h)(e:Rd H a (.dK kvs)):kvs.length<=av/\(a==cc)=false/\∃vs,KV kvs vs/\h.DictOf (oF P w) a vs:=
 show pD P w H h a (.dK kvs) from Ng ok e
theorem Nh{kvs:List (Key×V)}(ok:HOk P w H h)(e:H a=some (.dK kvs)):kvs.length<=av/\(a==cc)=false/\∃vs,KV kvs vs/\h.DictOf (oF P w) a vs:=zb ok (.inl e)
theorem Ae{ks:List Key}(ok:HOk P w H h)(e:H a=some (.tup (ks.map kV))):(tupleKind (oF P w)).is h ks a:=by obtain⟨_,its,r,o,h1,h2,n,h3⟩:=(show pD P w H h a (.tup (ks.map kV)) from ok a _ e);exact⟨o,its.toArray,n,h1,h2,h3,by simpa using BH r⟩
theorem BI(ok:HOk P w H h)(e:Rd H a (.dT kvs)):kvs.length<=av/\(a==cc)=false/\
  ∃xs,KT H kvs xs/\h.DictOfH (tupleKind (oF P w)) a xs:=by
 obtain⟨z,y,xs,r,o,es,ep,h1,h2,h3,h4,h5⟩:=(show pD P w H h a (.dT kvs) from Ng ok e);refine⟨z,y,xs,r,o,es,ep,h1,h2,h3,h4,λx hx=>?_,h5⟩;have all:∀{l:List (List Key×V)} {m:List (List Key×Addr×aa)},KT H l m->∀x∈m,(tupleKind (oF P w)).is h x.1 x.2.1:=by
  intro l m q
  induction q with
  |nil=>intro x hx;exact nomatch hx
  |@cons p q ps qs hq t ih=>
   intro x hx;rcases aF.mp hx with e|hx
   ·subst e;exact Ae ok (by rw[<-hq.1];exact hq.2.1)
   ·exact ih x hx
 exact all r x hx
theorem Sh(ok:HOk P w H h)(e:H a=some (.dT kvs)):kvs.length<=av/\(a==cc)=false/\
  ∃xs,KT H kvs xs/\h.DictOfH (tupleKind (oF P w)) a xs:=BI ok (.inl e)
end
def DGet(H:Hp)(a:Addr)(y:V)(r:Option V):Prop:=
 (∃kvs k,Rd H a (.dK kvs)/\y=kV k/\r=qL kvs k)\/∃kvs k b,Rd H a (.dT kvs)/\y=.ref b/\H b=some (.tup (k.map kV))/\r=qL kvs k
def IY(H:Hp)(a:Addr)(y v:V)(H':Hp):Prop:=
 (∃kvs k,H a=some (.dK kvs)/\y=kV k/\kvs.length<av/\H'=upd H a (.dK (putK kvs k v)))\/
 ∃kvs k b,H a=some (.dT kvs)/\y=.ref b/\H b=some (.tup (k.map kV))/\kvs.length<av/\H'=upd H a (.dT (putK kvs k v))
theorem IY.k{H:Hp}{a:Addr}{kvs:List (Key×V)}{k:Key}{v:V}(e:H a=some (.dK kvs))(hl:kvs.length<av):IY H a (kV k) v (upd H a (.dK (putK kvs k v))):=.inl ⟨kvs,k,e,rfl,hl,rfl⟩
variable{Q:aa->ab->Prop}{h':Heap}
section
variable{X:Cx}{pins:List (Addr×Obj)}{σ:St}{H:Hp}{s:ab}{a:Addr}{y v:V}{u r:aa}{o:Option V}{A:ar}{E:aa->ab->Prop}
theorem Inv.big(I:Inv X pins σ H s):cc<s.heap.objs.size:=by have h:aC<s.heap.objs.size:=(I.mod.glob.keeps I.bk).lt;exact gz (by decide) h
theorem Hu(hu:A.units+1<cLine)(I:Inv X pins σ H s)(g:DGet H a y (some v))(ry:RelV y u)(h:∀w' s',Inv X pins σ H s'->RelV v w'->Q w' s'):
  ae (model X.prog X.w) A (getItem (.ref a) u) Q E s:=by
 rcases g with ⟨kvs,k,e,ey,l⟩|⟨kvs,k,b,e,ey,eb,l⟩
 ·subst ey;obtain⟨z,hd,vs,rel,dd⟩:=zb I.hok e;obtain⟨w',hw,rw'⟩:=vh.some_of (v:=v) (o:=valueAt vs k) (by rw[l];exact rel.val k);exact wpAny_getItem_of (za ry) dd.mapOf hw (h w' _ (I.tok _) rw')
 ·subst ey;cases (show u=Value.ref b from ry);obtain⟨z,hd,xs,rel,dd⟩:=BI I.hok e;obtain⟨w',hw,rw'⟩:=vh.some_of (v:=v) (o:=(atKey xs k).map (·.2)) (by rw[l];exact rel.val k)
  obtain⟨p,hp,hp2⟩:=hE.mp hw;refine wpAny_getItem_heap (gh hu) (Ae I.hok eb) dd hp ?_;rw[hp2];exact h w' _ (I.tok _) rw'
theorem CY{ob:HO}(I:Inv X pins σ H s)(mu:Mut (H a))(hs:de a s.heap h')(he:∃q,h'.get? a=some q)(new:pD X.prog X.w (upd H a ob) h' a ob):
  Inv X pins σ (upd H a ob) { s with heap:=h',toks:=t' }:=
 I.write (x:=a) (e:=a) mu (.inl rfl) (λb q hb z=>(hs.2 b hb).trans z) he new
theorem IZ{P:aq}{w:aj}{kvs:List (Key×V)}{vs:List (Key×aa)}(z:kvs.length<=av)(hd:(a==cc)=false)(rel:KV kvs vs)(dd:h'.DictOf (oF P w) a vs):
  pD P w H' h' a (.dK kvs):=⟨z,hd,vs,rel,dd⟩
theorem Hv{Q:Unit->ab->Prop}(hu:A.units+1<cLine)(I:Inv X pins σ H s)(g:IY H a y v H')(ry:RelV y u)(rv:RelV v r)(h:∀s',Inv X pins σ H' s'->Q () s'):
  ae (model X.prog X.w) A (setItem (.ref a) u r) Q E s:=by
 rcases g with ⟨kvs,k,e,ey,l,eH⟩|⟨kvs,k,b,e,ey,eb,l,eH⟩
 ·subst ey eH;obtain⟨z,hd,vs,rel,dd⟩:=Nh I.hok e;have hz:vs.length<=av:=by rw[<-rel.length];exact z
  have hl:(putK kvs k v).length<=av:=by have:=vo kvs k v;omega
  refine wpAny_setItem_pairs (hsz:=hz) (za ry) dd λh' dd' hs=>h _ ?_;have he:∃q,h'.get? a=some q:=let ⟨q,_,_,hq,_⟩:=dd';⟨q,hq⟩;exact CY I (by rw[e];exact True.intro) hs he (IZ hl hd (rel.put k rv) dd')
 ·subst ey eH;cases (show u=Value.ref b from ry);obtain⟨z,hd,xs,rel,dd⟩:=Sh I.hok e;have hz:xs.length<=av:=by rw[<-iR rel];exact z
  have hl:(putK kvs k v).length<=av:=by have:=vo kvs k v;omega
  refine wpAny_setItem_heap (hsz:=hz) (gh hu) (Ae I.hok eb) dd λh' dd' hs=>h _ ?_;obtain⟨q,es,ep,hq,h2,h3,h4,_,h5⟩:=dd';refine CY I (by rw[e];exact True.intro) hs ⟨q,hq⟩ ⟨hl,hd,_,(rel.put k eb rv).keeps λc ys ec=>?_,q,es,ep,hq,h2,h3,h4,h5⟩;rw[oE (RB ec e (λz=>nomatch z))];exact ec
end
section
variable{X:Cx}{pins:List (Addr×Obj)}{σ:St}{H:Hp}{s:ab}{a:Addr}{kvs:List (Key×V)}{k:Key}{u:aa}{A:ar}{E:aa->ab->Prop}
theorem Si(I:Inv X pins σ H s)(e:Rd H a (.dK kvs))(h:∀t s',Inv X pins σ H s'->Q (.int kvs.length t) s'):ae (model X.prog X.w) A (call (.builtin "len") [.ref a]) Q E s:=by obtain⟨z,hd,vs,rel,dd⟩:=zb I.hok e;refine call_len_dict hd dd (by rw[<-rel.length];rw[aZ]at z;omega) ?_;rw[<-rel.length];exact h _ _ (I.tok _)
end
def Ot(i:Expr):Prop:=∀ov iv,subscripted i false ov iv=operate [ov,iv] (getItem ov iv)
theorem Lv{prog:aq}{w:aj}{A:ar}{E:aa->ab->Prop}{s:ab}{env:Env}{value slice:Expr}{pos:Pos}{id:String}
  (hl:typeLookup (.type T) "__getitem__" = pure (some (.builtin id))) (hs:Ot slice)
  (h:ae (model prog w) A (eval value env) (λo s₁=>ae (model prog w) A (eval slice env) (λi s₂=>s₂.TypeIs o T/\ae (model prog w) A (getItem o i) Q E s₂) E s₁) E s):
  ae (model prog w) A (eval (.Subscript value slice pos) env) Q E s:=by
 refine jk (bt h (λo s₁ h₁=>bt h₁ (λi s₂ h₂=>?_) λ_ _ x=>x) λ_ _ x=>x);obtain⟨hT,h₂⟩:=h₂;unfold subscriptTail;refine af ?_;rw[getitemInPython_of_ne hT.not_modules];refine af (fH hT hl ?_);have fin:ae (model prog w) A (subscripted slice false o i) (λr s₃=>ae (model prog w) A (letTemporaryGo value o r>>=λ_=>pure r) Q E s₃) E s₂:=by rw[hs o i];exact wpAny_operating (bt h₂ (λr s₃ h₃=>af (wpAny_letTemporaryGo (ao h₃))) λ_ _ x=>x)
 first
  |exact ao (af fin)
  |exact af (ao (af fin))
  |exact af fin
variable{X:Cx}{a:Addr}
theorem DO{H:Hp}{s:ab}{o:Option V}(I:Inv X pins σ H s)(g:DGet H a y o):s.TypeIs (.ref a) "dict" := by
 rcases g with ⟨kvs,k,e,_,_⟩|⟨kvs,k,b,e,_,_,_⟩
 ·obtain⟨_,_,vs,_,dd⟩:=zb I.hok e;exact dd.typeIs
 ·obtain⟨_,_,xs,_,dd⟩:=BI I.hok e;exact dd.typeIs
def Sj(td ty:TE):TE:=λσ H Q=>td σ H λx H1=>ty σ H1 λy H2=>∃a v,x=.ref a/\DGet H2 a y (some v)/\Q v H2
def Ni(td ty tv:TE):TS:=λD σ H=>tv σ H λv H1=>td σ H1 λx H2=>ty σ H2 λy H3=>∃a H4,x=.ref a/\IY H3 a y v H4/\D.nx σ H4
section
variable{X:Cx}{o i e value:Expr}{pos pos' tpos:Pos}{td ty tv:TE}
theorem Lx(hu:X.A.units+1<cLine)(ho:PE X o td)(hi:PE X i ty)(hs:Ot i):PE X (.Subscript o i pos) (Sj td ty):=by intro pins s σ H Q I h;refine Lv F.slot_dict_getitem.lookup hs (thn (ho pins s σ H _ I h) λu s1 ⟨x,H1,I1,rx,q1⟩=>thn (hi pins s1 σ H1 _ I1 q1) λiv s2 zz=>?_);obtain⟨y,H2,I2,ry,a,v,ex,g,q2⟩:=zz;subst ex;obtain rfl:u=Value.ref a:=rx;exact⟨DO I2 g,Hu hu I2 g ry λw' s3 I3 rw'=>⟨v,H2,I3,rw',q2⟩⟩
theorem Ly(hu:X.A.units+1<cLine)(ho:PE X o td)(hi:PE X i ty)(hv:PE X value tv)(hs:cz value (some (.Subscript o i pos')) pos.line X.env=pure false):
  PS X (.Assign [.Subscript o i pos'] value pos) (Ni td ty tv):=by
 intro pins s σ H D I h;refine wpAny_Assign_Subscript (thn (hv pins s σ H _ I h) λr s1 ⟨v,H1,I1,rv,q1⟩=>thn (ho pins s1 σ H1 _ I1 q1) λu s2 ⟨x,H2,I2,rx,q2⟩=>thn (hi pins s2 σ H2 _ I2 q2) λiv s3 zz=>?_) hs;obtain⟨y,H3,I3,ry,a,H4,ex,g,q3⟩:=zz;subst ex;obtain rfl:u=Value.ref a:=rx;exact Hv hu I3 g ry rv λs4 I4=>⟨σ,H4,I4,q3⟩
end
theorem I0{P:aq}{w:aj}{H:Hp}(h:Heap)(hb:cc<h.objs.size):pD P w H (h.push { cls:=.type "dict", data:=.dict #[] }) h.objs.size (.dK []):=
 ⟨ba _,beq_eq_false_iff_ne.mpr (bX (aD hb)),[],.nil,n6 h⟩
def E6:TE:=λ_ H Q=>∀p,H p=none->Q (.ref p) (upd H p (.dK []))
section
variable{X:Cx}{pos:Pos}
theorem DP:PE X (.Dict [] [] pos) E6:=λpins s σ H Q I h=>
 wpAny_Dict_empty ⟨.ref s.heap.objs.size,_,I.laid (a:=s.heap.objs.size) (o:=.dK []) (t':=s.toks) (λ_ _ q=>az _ q) (ay _) (I0 s.heap I.big),rfl,h _ (I.hok.fresh (ay _))⟩
end
structure M1(X:Cx)(o:Expr)(m:Str)(apos:Pos)(e:Expr)(cpos:Pos):Prop where
 base:c9 o m X.env (eval o X.env)=eval o X.env
 few:((aT cpos (au [e] X.env)).all (λx=>!x.1)&&(backToKw cpos (cy [] X.env)).all (λx=>x.1.isSome)
  && decide (([e]:List Expr).length+([]:List dq).length+(if ([]:List dq).isEmpty then 0 else 1)<30))=true
 line:(apos.endLine==cpos.line)=true
 trees:aT cpos (au [e] X.env)=[(false,eval e X.env)]
structure M2(X:Cx)(o:Expr)(m:Str)(apos:Pos)(e f:Expr)(cpos:Pos):Prop where
 base:c9 o m X.env (eval o X.env)=eval o X.env
 few:((aT cpos (au [e,f] X.env)).all (λx=>!x.1)&&(backToKw cpos (cy [] X.env)).all (λx=>x.1.isSome)
  && decide (([e,f]:List Expr).length+([]:List dq).length+(if ([]:List dq).isEmpty then 0 else 1)<30))=true
 line:(apos.endLine==cpos.line)=true
 trees:aT cpos (au [e,f] X.env)=[(false,eval e X.env),(false,eval f X.env)]
def IsD(H:Hp)(a:Addr):Prop:=(∃kvs,Rd H a (.dK kvs))\/∃kvs,Rd H a (.dT kvs)
theorem CZ{H:Hp}{s:ab}(I:Inv X pins σ H s)(d:IsD H a):
  s.TypeIs (.ref a) "dict" /\ (∀b,Value.ref a=.ref b->∃ob,s.heap.get? b=some ob/\ob.dict=none)/\(a==cc)=false:=by
 rcases d with ⟨kvs,e⟩|⟨kvs,e⟩
 ·obtain⟨_,hd,vs,_,dd⟩:=zb I.hok e;refine⟨dd.typeIs,λb q=>?_,hd⟩;cases q;obtain⟨ob,_,_,h1,h2,_⟩:=dd;exact⟨ob,h1,h2.2.1⟩
 ·obtain⟨_,hd,xs,_,dd⟩:=BI I.hok e;refine⟨dd.typeIs,λb q=>?_,hd⟩;cases q;obtain⟨ob,_,_,h1,h2,_⟩:=dd;exact⟨ob,h1,h2.2.1⟩
section
variable{X:Cx}{pins:List (Addr×Obj)}{σ:St}{H:Hp}{s:ab}{a:Addr}{y d:V}{u r:aa}{o:Option V}{A:ar}{E:aa->ab->Prop}
theorem Ja(hu:A.units+1<cLine)(I:Inv X pins σ H s)(g:DGet H a y o)(ry:RelV y u)(h:∀w' s',Inv X pins σ H s'->RelV (o.getD .non) w'->Q w' s'):
  ae (model X.prog X.w) A (call (.builtin "dict.get") [.ref a,u]) Q E s:=by
 rcases g with ⟨kvs,k,e,ey,l⟩|⟨kvs,k,b,e,ey,eb,l⟩
 ·subst ey;obtain⟨z,hd,vs,rel,dd⟩:=zb I.hok e;refine eQ c8 dd.typeIs fF (ir _ _) (lh (oF X.prog X.w) a (za ry) hd) ⟨_,dd.mapOf,h _ _ (I.tok _) ?_⟩;rw[l];exact(rel.val k).getD rfl
 ·subst ey;cases (show u=Value.ref b from ry);obtain⟨z,hd,xs,rel,dd⟩:=BI I.hok e;refine eQ c8 dd.typeIs fF (ir _ _) (meetsH_dict_get (tupleKind (oF X.prog X.w)) a b hd) ⟨gh hu,k,xs,Ae I.hok eb,dd,h _ _ (I.tok _) ?_⟩;rw[l];exact(rel.val k).getD rfl
theorem Ou(hu:A.units+1<cLine)(I:Inv X pins σ H s)(g:DGet H a y o)(ry:RelV y u)(rd:RelV d r)(h:∀w' s',Inv X pins σ H s'->RelV (o.getD d) w'->Q w' s'):
  ae (model X.prog X.w) A (call (.builtin "dict.get") [.ref a,u,r]) Q E s:=by
 rcases g with ⟨kvs,k,e,ey,l⟩|⟨kvs,k,b,e,ey,eb,l⟩
 ·subst ey;obtain⟨z,hd,vs,rel,dd⟩:=zb I.hok e;refine eQ c8 dd.typeIs fF (ku _ _ _) (meets_dict_get_default (oF X.prog X.w) a (za ry) hd r) ⟨_,dd.mapOf,h _ _ (I.tok _) ?_⟩;rw[l];exact(rel.val k).getD rd
 ·subst ey;cases (show u=Value.ref b from ry);obtain⟨z,hd,xs,rel,dd⟩:=BI I.hok e;refine eQ c8 dd.typeIs fF (ku _ _ _) (meetsH_dict_get_default (tupleKind (oF X.prog X.w)) a b hd r) ⟨gh hu,k,xs,Ae I.hok eb,dd,h _ _ (I.tok _) ?_⟩;rw[l];exact(rel.val k).getD rd
end
def Ov(td ty:TE):TE:=λσ H Q=>td σ H λx H1=>∃a,x=.ref a/\IsD H1 a/\ty σ H1 λy H2=>∃o,DGet H2 a y o/\Q (o.getD .non) H2
def Ow(td ty tx:TE):TE:=λσ H Q=>td σ H λx H1=>∃a,x=.ref a/\IsD H1 a/\ty σ H1 λy H2=>tx σ H2 λz H3=>∃o,DGet H3 a y o/\Q (o.getD z) H3
section
variable{X:Cx}{o e f:Expr}{apos cpos:Pos}{td ty tx:TE}
theorem Jb(hu:X.A.units+1<cLine)(ho:PE X o td)(he:PE X e ty)(m:M1 X o "get" apos e cpos):PE X (.Call (.Attribute o "get" apos) [e] [] cpos) (Ov td ty):=by intro pins s σ H Q I h;refine gj m.base m.few m.line gm c8 iI (thn (ho pins s σ H _ I h) λu s1 zz=>?_);obtain⟨x,H1,I1,rx,a,ex,d,q1⟩:=zz;subst ex;obtain rfl:u=Value.ref a:=rx;obtain⟨t1,t2,_⟩:=CZ I1 d;refine⟨t1,t2,?_⟩;rw[m.trees];refine fi rfl (fm (cJ (thn (he pins s1 σ H1 _ I1 q1) λiv s2 ⟨y,H2,I2,ry,ov,g,q2⟩=>dw ?_)));exact Ja hu I2 g ry λw' s3 I3 rw'=>⟨_,H2,I3,rw',q2⟩
theorem Jc(hu:X.A.units+1<cLine)(ho:PE X o td)(he:PE X e ty)(hf:PE X f tx)(m:M2 X o "get" apos e f cpos):PE X (.Call (.Attribute o "get" apos) [e,f] [] cpos) (Ow td ty tx):=by
 intro pins s σ H Q I h;refine gj m.base m.few m.line gm c8 iI (thn (ho pins s σ H _ I h) λu s1 zz=>?_);obtain⟨x,H1,I1,rx,a,ex,d,q1⟩:=zz;subst ex;obtain rfl:u=Value.ref a:=rx;obtain⟨t1,t2,_⟩:=CZ I1 d;refine⟨t1,t2,?_⟩;rw[m.trees];refine fi rfl (fm (cJ (thn (he pins s1 σ H1 _ I1 q1) λiv s2 ⟨y,H2,I2,ry,q2⟩=>
  cJ (thn (hf pins s2 σ H2 _ I2 q2) λfv s3 ⟨z,H3,I3,rz,ov,g,q3⟩=>dw ?_))))
 exact Ou hu I3 g ry rz λw' s4 I4 rw'=>⟨_,H3,I4,rw',q3⟩
end
end L2
namespace Att
open PySem PySem.W PySem.Calls PyProof.Rows
theorem zQ{P:fU}{h:Heap}:∀(ns:List Int) (vs:List aa),WellAll P h vs (ns.map WData.int)->fS vs ns:=by
 intro ns
 induction ns with
 |nil=>intro vs w;rw[lY]at w;cases w;exact .nil
 |cons n ns ih=>
  intro vs w;rw[aW]at w;cases w with
  |cons a b=>cases a;exact .cons _ _ (ih _ b)
variable{l:gS}
theorem Hw{n:Nat}(hn:l.most=some n){P:fU}{h:Heap}{args:List WData}{vals:List aa}
  (hpre:l.row.toRowW.claim.pre args=true) (hwl:WellAll P h vals args):
  ∃a vs ns,vals=[Value.ref a]/\args=[WData.list (ns.map WData.int)]/\h.get? a=some { cls:=.type "list", data:=.seq vs.toArray }/\fS vs ns/\ns.length<=n:=by
 have hsh:WShape.hasAll [] args [.list .int]=true:=(pre_splitW hpre).1;have hc:l.pre.holds [] { args:=args }=true:=(pre_splitW hpre).2;obtain⟨d,r,rfl,h1,h2⟩:=hasAllW_cons hsh;obtain rfl:=hasAllW_nil h2;obtain⟨xs,rfl,h3⟩:=hasW_list h1;obtain⟨ns,rfl⟩:=items_int h3;have hlen:ns.length<=n:=by
  unfold OpenLaw.pre at hc;have h4:(WTm.not (.lt (.lit (.int (n:Int))) (.len (.arg 0)))).holds [] { args:=[.list (ns.map .int)] }=true:=by have h4:=(holds_andW hc).1;rw[hn]at h4;exact h4
  have h5:=condW_of h4 (w_not (w_lt w_lit (w_len_list (w_arg rfl))));rw[aw]at h5;refine kK λq=>?_;have q':(n:Int)<((ns.length:Nat):Int):=by omega
  first
   |(rw[bj q']at h5;exact ai h5 (by decide))
   |(simp at h5;omega)
 cases hwl with
 |cons w1 w2=>
  cases w2;cases w1 with
  |list ho hall=>exact⟨_,_,ns,rfl,rfl,ho,zQ ns _ hall,hlen⟩
theorem Hy(l:gS)(args:List WData):l.row.toRowW.claim.post args (.bool true) args=true:=
 postW_of (r:=l.row.toRowW) (X:=(true==true))
  (show mm [] (.bool true) .bool=true by first|rfl|decide|simp[mm,WShape.arms,WShape.armsAll])
  (show (WTm.eq .res (.lit (.bool true))).value [] { args:=args,res:=some (.bool true),after:=args }=some (.bool (true==true)) from w_eq_bool (w_res rfl) w_lit) rfl
theorem attach_call{n:Nat}{q:aq}{loose:List Str}{XP:(Str->Option aa)->Heap->Prop}{YP:aj->Heap->Prop}{d:DefRec}
  (hn:l.most=some n) (hdf:d.params.defaults=[])
  (call:∀(w:aj) (s₀ s₁:ab) (mg mb:Str->Option aa) (fa:Addr) (o:Obj) (pm cd doc:aa) (a:Addr) (vs:List aa) (ns:List Int),
   Ground q loose [] XP w s₀ mg mb s₁.heap->YP w s₁.heap->
   s₁.heap.get? fa=some o->o.data=.func (docDef d.name d.params d.body d.scope pm cd doc)->s₁.heap.CodeRec cd d.name->mg d.name=some (.ref fa)->
   s₁.heap.get? a=some { cls:=.type "list", data:=.seq vs.toArray }->fS vs ns->ns.length<=n->s₁.gens=#[]->
   bH (model l.prog w) callerA (.call (.ref fa) ⟨[.ref a],[]⟩) (λr s'=>r=.ok (.ret (.bool true))/\OldK s₁.heap s'.heap/\s'.os=s₁.os/\cX s'.gens) s₁):
  WalkO q loose XP YP l.row.toRowW d [] (λf vs=>jq f vs):=by
 intro w s₀ s₁ mg mb G Y fa o pm cd doc dV kV ho hd hcd hD hmg hg args vals as hpre hlay hrd hwl hlo;obtain rfl:dV=.none:=Dflts.none hD hdf;obtain rfl:kV=.none:=Dflts.noKw hD;obtain⟨a,vs,ns,rfl,rfl,hobj,hints,hlen⟩:=Hw hn hpre hwl;refine enter_call (eP (call w s₀ s₁ mg mb fa o pm cd doc a vs ns G Y ho (fd_plain hd) hcd hmg hobj hints hlen hg) λr s' hq=>?_);obtain⟨rfl,h2,h3,h4⟩:=hq;exact⟨.inl ⟨.bool true,.bool true,[],rfl,λ_=>rfl,.bool true,Hy l _,λ_=>⟨List.Pairwise.nil,λ_ hm=>(nomatch hm)⟩⟩,h2,h3,h4⟩
end Att
namespace L2
open PySem PySem.Spec PyProof.Rows
theorem BJ:∀{vs:List aa} {ns:List Int},fS vs ns->Vals (ns.map V.int) vs
 |_,_,.nil=>.nil
 |_,_,.cons n t h=>.cons ⟨t,rfl⟩ (BJ h)
def Ox(H:Hp):Prop:=∀b,H b=none\/∃o xs,H b=some (.frz o (.lst xs))
variable{a:Addr}{fd:bq}{x:Str}{sp:Sp}
theorem Jd{P:aq}{w:aj}{K:ak}{mg mb:Str->Option aa}{CX:CXT}{k:Nat}{fa:Addr}{s₁:ab}{vs:List aa}{ns:List Int}
  (KX:K.In s₁.heap) (hns:s₁.heap.Ns aC mg) (hb:s₁.heap.Ns builtinsNs mb) (hbb:∀x:Str,x≠"__name__" -> mb x=cv x) (hlim:s₁.heap.NoLimit) (hg:s₁.gens=#[])
  (ha:s₁.heap.get? a=some { cls:=.type "list", data:=.seq vs.toArray }) (hi:fS vs ns) (hl:ns.length<=av) (hr:pT k callerA)
  (F:∀base:Heap,K.In base->base.Ns aC mg->qZ P w K mg base CX k fa fd [x] sp) (hbind:∀(s:ab) (u:aa),eW s fd ⟨[u],[]⟩ [(x,u)])
  (hsp:∀H:Hp,Ox H->SqL K H a (ns.map V.int)->sp [.ref a] H (λv _=>v=.bl true) λ_ _ _=>False)
  (hCX:∀H e s',CX [] H s₁ (λ_ _ _=>False) e s'->False):
  bH (model P w) callerA (.call (.ref fa) ⟨[.ref a],[]⟩) (λr s'=>r=.ok (.ret (.bool true))/\OldK s₁.heap s'.heap/\s'.os=s₁.os/\cX s'.gens) s₁:=by
 have rv:=BJ hi;have lenV:=hi.length;have core:∀H:Hp,Ox H->SqL K H a (ns.map V.int)->HOk P w H s₁.heap->(∀b,H b≠none->b=a)->(H a≠none->K.lookup a=none)->
   bH (model P w) callerA (.call (.ref fa) ⟨[.ref a],[]⟩) (λr s'=>r=.ok (.ret (.bool true))/\OldK s₁.heap s'.heap/\s'.os=s₁.os/\cX s'.gens) s₁:=by
  intro H hO hS hok hA hK;have base_of:∀{b:Addr} {o:Obj},s₁.heap.get? b=some o->H b=none->(CJ s₁.heap H).get? b=some o:=λe n=>Iy e n;have noA:∀{b:Addr} {o:Obj} {es:Array DictEntry} {ep:Nat},s₁.heap.get? b=some o->o.data=.dict es ep->H b=none:=λ{b o es ep} e d=>by
   cases q:H b with
   |none=>rfl
   |some u=>have e':b=a:=hA b (by rw[q];simp);subst e';rw[ha]at e;cases e;have d':Data.seq vs.toArray _=Data.dict es ep:=d;cases d'
  have nsK:∀{b:Addr} {m:Str->Option aa},s₁.heap.Ns b m->(CJ s₁.heap H).Ns b m:=λ{b m} ⟨o,es,ep,e,d,r⟩=>⟨o,es,ep,base_of e (noA e d),d,r⟩;have hKb:K.In (CJ s₁.heap H):=λb o e=>base_of (KX b o e) (by
   cases q:H b with
   |none=>rfl
   |some u=>
    have e':b=a:=hA b (by rw[q];simp);subst e';rw[hK (by rw[q];simp)]at e;cases e)
  have hM:Mod K mg (CJ s₁.heap H):=⟨hKb,nsK hns,⟨mb,nsK hb,hbb⟩,let ⟨mc,h1,h2⟩:=hlim;⟨mc,nsK h1,h2⟩⟩;have e0:E4 P w K mg (CJ s₁.heap H) callerA [] s₁ H:=⟨rfl,hM,λb o e=>K8 e,lW (G5 _ _),trivial,λb hb=>ai (show b∈([]:List Addr) from hb) (by simp),hok,.of_eq hg⟩;refine eP ((F _ hKb (nsK hns)).run callerA [] s₁ H ⟨[.ref a],[]⟩ [.ref a] [.ref a] _ _ hr e0 (hbind s₁ (.ref a)) (.cons rfl .nil) (hsp H hO hS)) λr s' h=>?_;cases r with
  |error e=>exact(hCX H e s' h).elim
  |ok fl=>
   cases fl with
   |next=>exact bO h
   |brk=>exact bO h
   |cont=>exact bO h
   |ret u=>
    obtain⟨v,H',os,bare,un,hok',r',q⟩:=h;have q':v=.bl true:=q;subst q';obtain rfl:u=Value.bool true:=r';refine⟨rfl,OldK.of_keep λb o e=>?_,os,bare⟩;cases q:H b with
    |none=>exact un.keep b o e q (by intro z;exact ai (show b∈([]:List Addr) from z) (by simp)) (by simp)
    |some u=>
     rcases hO b with z|⟨ob,xs,z⟩
     ·rw[q]at z;cases z
     ·have z2:=un.frzs b ob _ z;obtain⟨e1,_⟩:=hok b _ z;obtain⟨e2,_⟩:=hok' b _ z2;rw[e]at e1;cases e1;exact e2
 cases hk:K.lookup a with
 |some o=>have e:=KX a o hk;rw[ha]at e;cases e;refine core (λ_=>none) (λ_=>.inl rfl) (.inr ⟨_,vs.toArray,_,hk,rfl,rfl,rfl,by rw[aK,lenV];exact hl,by simpa using rv⟩) (λb u z=>by have z':(none:Option HO)=some u:=z;cases z') (λb z=>ai rfl z) λz=>ai rfl z
 |none=>
  refine core (λb=>if b=a then some (.frz { cls:=.type "list", data:=.seq vs.toArray } (.lst (ns.map V.int)))else none) (λb=>?_) (.inl (.inr ⟨{ cls:=.type "list", data:=.seq vs.toArray },ah rfl⟩)) (λb u z=>?_) (λb z=>?_) λ_=>hk
  ·by_cases hb:b=a
   ·exact .inr ⟨_,_,ah hb⟩
   ·exact .inl (ag hb)
  ·by_cases hb:b=a
   ·have z':=(ah hb).symm.trans z;cases z';subst hb;exact⟨ha,by rw[aw];exact hl,vs,_,rv,ha⟩
   ·have z':=(ag hb).symm.trans z;cases z'
  ·by_cases hb:b=a
   ·exact hb
   ·exact ai (ag hb) z
theorem LA{l:gS}{n k:Nat}{q:aq}{loose:List Str}{XP:(Str->Option aa)->Heap->Prop}{YP:aj->Heap->Prop}{d:DefRec}{K:fU->ak}{CX:aj->CXT}{sp:aj->Sp}
  (hn:l.most=some n) (hn2:n<=av) (hdf:d.params.defaults=[]) (hr:pT k callerA)
  (hY:∀(w:aj) (h:Heap),YP w h->(K w.params).In h)
  (F:∀(w:aj) (mg:Str->Option aa) (fa:Addr) (h:Heap),(K w.params).In h->h.Ns aC mg->mg d.name=some (.ref fa)->
   ∃fd:bq,(∀(s:ab) (u:aa),eW s fd ⟨[u],[]⟩ [(x,u)])/\
    ∀base:Heap,(K w.params).In base->base.Ns aC mg->qZ l.prog w (K w.params) mg base (CX w) k fa fd [x] (sp w))
  (hsp:∀(w:aj) (H:Hp) (a:Addr) (ns:List Int),ns.length<=n->Ox H->SqL (K w.params) H a (ns.map V.int)->sp w [.ref a] H (λv _=>v=.bl true) λ_ _ _=>False)
  (hCX:∀(w:aj) (H:Hp) (s:ab) (e:aa) (s':ab),CX w [] H s (λ_ _ _=>False) e s'->False):
  W.WalkO q loose XP YP l.row.toRowW d [] (λf vs=>jq f vs):=by
 refine Att.attach_call hn hdf λw s₀ s₁ mg mb fa o pm cd doc a vs ns G Y ho hd hcd hmg hobj hints hlen hg=>?_;have KX:=hY w _ Y;obtain⟨fd,hb,hF⟩:=F w mg fa _ KX G.T.g hmg;exact Jd KX G.T.g G.T.b G.T.builtins G.T.nolimit hg hobj hints (bF hlen hn2) hr hF hb (λH hO hS=>hsp w H a ns hlen hO hS) λH e s'=>hCX w H s₁ e s'
def inClass(s:Stmt)(j:Nat):Stmt:=match s with
 |.ClassDef _ _ _ body _ _ _ _ _ _ _=>body.getD j (.Pass ⟨0,0,0,0⟩)
 |_=>.Pass ⟨0,0,0,0⟩
def qM(s:Stmt):Arguments:=match s with
 |.FunctionDef _ a _ _ _ _ _ _ _ _=>a
 |_=>{ posonlyargs:=[],args:=[],vararg:=none,kwonlyargs:=[],kw_defaults:=[],kwarg:=none,defaults:=[] }
def oY(s:Stmt):List Stmt:=match s with
 |.FunctionDef _ _ b _ _ _ _ _ _ _=>b
 |_=>[]
def oH(s:Stmt):bQ:=match s with
 |.FunctionDef _ _ _ _ _ _ sc _ _ _=>sc
 |_=>{ kind:=.function,names:=[],isGenerator:=false,isCoroutine:=false }
abbrev CX0:CXT:=λ_ _ _ _ _ _=>False
abbrev E0:XK:=λ_ _ _=>False
theorem BK{X:Cx}:Passes CX0 X E0:=λ_ _ _ _ _ _ _ h=>h.elim
structure Fun(K:ak)(x qual:Str)(st:Stmt)(f:Addr)(fd:bq):Prop where
 ex:∃(oc:aa) (od:Option Addr) (kV doc pm:aa) (an:Option Addr) (cdv ct:aa) (osl:Array (Option aa)),
  fd=cY x qual (qM st) (oY st) (oH st) .none kV doc pm an cdv ct/\K.lookup f=some ⟨oc,od,.func fd,osl⟩/\eV K cdv qual=true
 kp:cA K (.ref f)=true
variable{qual:Str}{ps:List Str}
section
variable{P:aq}{w:aj}{K:ak}{mg:Str->Option aa}{base:Heap}
theorem Fun.ok{st:Stmt}{f:Addr}{N:List Str}{k:Nat}(F:Fun K x qual st f fd)(S:pX N ps (oH st))(len:∀vs H Q E,sp vs H Q E->vs.length=ps.length)
  (hbody:∀(cdv:aa) (A:ar) (outer:List Env) (s:ab) (H:Hp) (vs:List V) (Q:VK) (E:XK),pT k (A.deeper (envOfC qual (oH st) s.heap.objs.size f cdv))->sp vs H Q E->
   ∃t,PSs (DJ CX0 P w K mg base N qual (oH st) f cdv A outer s H E).nox (oY st) t/\t { nx:=λ_ H'=>Q .non H',rt:=Q } (start N vs) H):qZ P w K mg base CX0 (k+1) f fd ps sp:=by
 obtain⟨oc,od,kV,doc,pm,an,cdv,ct,osl,rfl,lk,hcd⟩:=F.ex;refine Nd lk hcd S len λA outer s H vs Q E hr hsp=>?_;obtain⟨t,h,q⟩:=hbody cdv A outer s H vs Q E hr hsp;exact⟨t,h.nox,q⟩
theorem Fun.binds{st:Stmt}{f:Addr}(F:Fun K x qual st f fd)
  (h:∀(kV doc pm:aa) (an:Option Addr) (cdv ct:aa) (us:List aa),us.length=ps.length->bindArgs (cY x qual (qM st) (oY st) (oH st) .none kV doc pm an cdv ct) ⟨us,[]⟩=pure (ps.zip us)):Binds K fd ps []:=by
 obtain⟨oc,od,kV,doc,pm,an,cdv,ct,osl,rfl,lk,hcd⟩:=F.ex;exact .all (h kV doc pm an cdv ct)
end
theorem DQ{A:ar}{k:Nat}(hr:pT k A):A.units+1<cLine:=il (Nat.add_le_add_left (by decide:1<=64) _) hr.units
theorem v5{n:Nat}(h:n<=1000):n<av:=il h (by decide)
section
variable{X:Cx}
theorem pv(i:Nat){pos:Pos}(hN:X.N[i]?=some x:=by rfl)(hv:Vis X.env.scope x:=by first|exact Or.inl rfl|exact Or.inr (Or.inl rfl)|exact Or.inr (Or.inr rfl))(hd:(x==("__debug__" : Str))=false:=by decide)
  (hcd:(x==("__classdict__" : Str))=false:=by decide):PE X (.Name x pos) (vm i):=NR hN hv hd hcd
end
variable{B:Prop}
theorem Da{A:Prop}(h:B):if false=true then A else B:=by rw[ag aN];exact h
theorem Dc{A:Prop}(h:A):if true=true then A else B:=by rw[ah rfl];exact h
def oA(H H':Hp):Prop:=∀b o,H b=some o->H' b=some o
theorem oA.refl(H:Hp):oA H H:=λ_ _ h=>h
theorem oA.trans{H H1 H2:Hp}(a:oA H H1)(b:oA H1 H2):oA H H2:=λc o h=>b c o (a c o h)
theorem oA.seq{K:ak}{H H':Hp}{xs:List V}(e:oA H H')(h:SqL K H a xs):SqL K H' a xs:=by
 rcases h with (h|⟨o,h⟩)|h
 ·exact .inl (.inl (e _ _ h))
 ·exact .inl (.inr ⟨o,e _ _ h⟩)
 ·exact .inr h
end L2
set_option maxHeartbeats 4000000
namespace L3
open PySem PySem.Spec PyProof.Rows L2
abbrev St:=L2.St
theorem Ag{α β:Type}{f:α->β->Sem (ForInStep β)}{g:β->α->β}:∀(l:List α) (b:β),(∀x∈l,∀c,f x c=pure (ForInStep.yield (g c x)))->(forIn l b f:Sem β)=pure (l.foldl g b)
 |[],b,_=>by simp
 |x::r,b,h=>by rw[List.forIn_cons,h x aH b];show (forIn r (g b x) f:Sem β)=_;rw[Ag r (g b x) λy hy c=>h y (aG _ hy) c];rfl
def uP(cells:List (Str×Addr))(cs:List (Str×Addr))(x:Str×cD):List (Str×Addr):=if (x.2==NameKind.free)=true then (x.1,(cells.lookup x.1).getD 0)::cs else cs
def rG(cells:List (Str×Addr))(names:List (Str×cD)):List (Str×Addr):=names.foldl (uP cells) []
variable{scope:bQ}{env:Env}
theorem Bp(h:∀x∈scope.names,x.2=.free->∃c,env.cells.lookup x.1=some c):
  closureFor scope env=pure (rG env.cells scope.names):=by
 simp only[closureFor];rw[Ag (g:=uP env.cells) scope.names [] λx hx c=>by
  obtain⟨n,k⟩:=x;by_cases hk:k=.free
  ·subst hk;obtain⟨a,e⟩:=h _ hx rfl;have e':env.cells.lookup n=some a:=e;simp only[uP,cellOf,e',beq_self_eq_true,if_true,kL];rfl
  ·have hb:(k==NameKind.free)=false:=by simpa using hk
   simp only[uP,hb,dZ,if_false]]
 rfl
theorem DR{cells:List (Str×Addr)}:∀(names:List (Str×cD)) (acc:List (Str×Addr)),(∀x∈names,x.2=.free->∃c,cells.lookup x.1=some c)->(∀x c,acc.lookup x=some c->cells.lookup x=some c)->
  ∀x c,(names.foldl (uP cells) acc).lookup x=some c->cells.lookup x=some c
 |[],acc,_,ha,x,c,e=>ha x c e
 |y::r,acc,h,ha,x,c,e=>by
  refine DR r (uP cells acc y) (λz hz=>h z (aG _ hz)) (λz d ez=>?_) x c e;obtain⟨n,k⟩:=y;unfold uP at ez;split at ez
  ·rename_i hk;obtain⟨a,ea⟩:=h (n,k) aH (by simpa using hk);have ea':cells.lookup n=some a:=ea;rw[c7]at ez;cases hb:z==n with
   |true=>rw[hb]at ez;have ez':some ((cells.lookup n).getD 0)=some d:=ez;rw[ea']at ez';rw[eT hb,ea'];exact ez'
   |false=>rw[hb]at ez;exact ha z d ez
  ·exact ha z d ez
theorem BL{cells:List (Str×Addr)}:∀(names:List (Str×cD)) (acc:List (Str×Addr)) (x:Str),(∃c,acc.lookup x=some c)->∃c,(names.foldl (uP cells) acc).lookup x=some c
 |[],_,_,h=>h
 |y::r,acc,x,h=>by
  refine BL r (uP cells acc y) x ?_;unfold uP;split
  ·rw[c7];cases x==y.1 with
   |true=>exact⟨_,rfl⟩
   |false=>exact h
  ·exact h
theorem Ah{cells:List (Str×Addr)}:∀(names:List (Str×cD)) (acc:List (Str×Addr)) (x:Str),(x,NameKind.free)∈names->∃c,(names.foldl (uP cells) acc).lookup x=some c
 |[],_,_,h=>by cases h
 |y::r,acc,x,h=>by
  rcases aF.mp h with e|h
  ·subst e;refine BL r _ x ?_;unfold uP;rw[ah (by simp),c7];simp
  ·exact Ah r _ x h
theorem uf{env:Env}(x:Str):∀(names:List (Str×cD)),
  (names.map λ(n,k)=>if (k==NameKind.free&&env.scope.kind==.function&&env.kindOf n==some .cell)then (n,NameKind.cell)else (n,k)).lookup x=
   (names.lookup x).map λk=>if (k==NameKind.free&&env.scope.kind==.function&&env.kindOf x==some .cell)=true then NameKind.cell else k
 |[]=>rfl
 |(n,k)::r=>by
  have ih:=uf (env:=env) x r;rw[aW,c7 (k:=n)];show cb x ((if (k==NameKind.free&&env.scope.kind==.function&&env.kindOf n==some .cell)=true then (n,NameKind.cell)else (n,k))::_)=_;cases hx:x==n with
  |true=>
   have e:=eT hx;subst e;split
   ·rename_i hc;simp only[c7,hx,dB,hc,if_true]
   ·rename_i hc;simp only[c7,hx,dB];rw[ag hc]
  |false=>
   rw[<-ih];split
   ·simp only[c7,hx]
   ·simp only[c7,hx]
variable{x:Str}
theorem E7(hcell:∀y∈scope.names,y.2≠.cell)(h:(relabel scope env).names.lookup x=some .cell\/(relabel scope env).names.lookup x=some .free):(x,NameKind.free)∈scope.names:=by
 have e:=uf (env:=env) x scope.names;have h':(scope.names.lookup x).map (λk=>if (k==NameKind.free&&env.scope.kind==.function&&env.kindOf x==some .cell)=true then NameKind.cell else k)=some .cell\/
   (scope.names.lookup x).map (λk=>if (k==NameKind.free&&env.scope.kind==.function&&env.kindOf x==some .cell)=true then NameKind.cell else k)=some .free:=by
  rw[<-e];exact h
 cases q:scope.names.lookup x with
 |none=>rw[q]at h';rcases h' with z|z<;>cases z
 |some k=>
  rw[q]at h';have hm:=mem_of_lookup q;have hc:=hcell _ hm;cases k with
  |free=>exact hm
  |cell=>exact ai rfl hc
  |_=>rcases h' with z|z<;>cases z
theorem Bq(h:scope.names.lookup x=some .free):(relabel scope env).names.lookup x=some .cell\/(relabel scope env).names.lookup x=some .free:=by
 have e:=uf (env:=env) x scope.names;have e':(relabel scope env).names.lookup x=(scope.names.lookup x).map λk=>if (k==NameKind.free&&env.scope.kind==.function&&env.kindOf x==some .cell)=true then NameKind.cell else k:=e
 rw[e',h,dB];split
 ·exact .inl rfl
 ·exact .inr rfl
def pO(X:Cx)(N':List Str)(scope:bQ)(cl:List (Str×Addr))(C:Addr)(fp:List Addr)(s:ab)(H:Hp):Cx:=
 { X with N:=N',s₀:=s,H₀:=H,env:=compEnvC scope cl C X.env,outer:=X.stack,ex:=fp,fn:=λ_=>false,pn:=[],xe:=λ_ _=>False }
def PIf(X:Cx)(ifs:List Expr)(t:TT):Prop:=
 ∀(pins:List (Addr×Obj)) (s:ab) (σ:St) (H:Hp) (Q:Bool->Hp->Prop),Inv X pins σ H s->t σ H Q->
  ae (model X.prog X.w) X.A (forIn ifs true λc r=>if r=true then do let ok<-isTrue c X.env (eval c X.env);pure (ForInStep.yield ok)else pure (ForInStep.yield r)) (TP X pins σ Q) X.xe s
def T9:TT:=λ_ H Q=>Q true H
variable{X:Cx}
theorem LB:PIf X [] T9:=λ_ _ _ H _ I h=>wpAny_tests_nil ⟨H,I,h⟩
theorem LC{c:Expr}{t:TT}(h:PT X c t):PIf X [c] t:=λpins s σ H Q I hq=>wpAny_tests_one (h pins s σ H Q I hq)
variable{elt iter:Expr}{ifs:List Expr}{pos:Pos}
section
variable{prog:aq}{w:aj}{A:ar}{R:cE->ab->Prop}{s:ab}
theorem Dd{target:Expr}{it acc:aa}(J:Nat->ab->Prop)
  (turn:∀n s,J n s->ae (model prog w) A (pyNext it) (λr s₁=>match r with
   |none=>R (.ok .next) s₁
   |some v=>ae (model prog w) A (eJ target it v) (λ_ s₁'=>ae (model prog w) A (assign target env v) (λ_ s₂=>
     ae (model prog w) A (forIn ifs true λc r=>if r=true then do let ok<-isTrue c env (eval c env);pure (ForInStep.yield ok)else pure (ForInStep.yield r)) (λok s₃=>
      if ok=true then ae (model prog w) A (eval elt env) (λx s₄=>
       ae (model prog w) A (call (.builtin "list.append") [acc,x]) (λ_ s₅=>∃m,m<n/\J m s₅) (notedBy (model prog w) A env λe s'=>R (.error e) s') s₄) (notedBy (model prog w) A env λe s'=>R (.error e) s') s₃
      else ∃m,m<n/\J m s₃) (notedBy (model prog w) A env λe s'=>R (.error e) s') s₂) (notedBy (model prog w) A env λe s'=>R (.error e) s') s₁')
      (notedBy (model prog w) A env λe s'=>R (.error e) s') s₁) (notedBy (model prog w) A env λe s'=>R (.error e) s') s)
  (n:Nat) (h:J n s):
  bH (model prog w) A (.compLoop (.ListComp elt [⟨target,iter,ifs,0⟩] scope pos) 0 it acc env) R s:=by
 refine codeAny_loop rfl J (λn s hI=>?_) n h;show ae _ A ((compTurn (.ListComp elt [⟨target,iter,ifs,0⟩] scope pos) 0 it acc env).onRaise (λx=>do noteFrame x env;theTreesLotGoes x)) _ _ s;refine wpAny_noted ?_;rw[compTurn_list];refine af (iU (af (bt (turn n s hI) (λr s₁ h₁=>?_) λ_ _ h'=>h')));cases r with
 |none=>exact ao h₁
 |some v=>
  refine af (bt h₁ (λ_ s₁' h₁'=>?_) λ_ _ h'=>h');refine af (bt h₁' (λ_ s₂ h₂=>af (bt h₂ (λok s₃ h₃=>?_) λ_ _ h'=>h')) λ_ _ h'=>h');cases ok with
  |false=>exact ao ⟨rfl,h₃⟩
  |true=>exact af (af (bt h₃ (λx s₄ h₄=>af (bt h₄ (λ_ s₅ h₅=>ao (ao ⟨rfl,h₅⟩)) λ_ _ h'=>h')) λ_ _ h'=>h'))
end
def qN(k:Nat)(cap:List Nat)(σ:St):St:=eM k none++cap.map λj=>(σ[j]?).join
variable{σ:St}{i:Nat}
theorem BM{k:Nat}{cap:List Nat}{v:V}(h:(qN k cap σ)[i]?=some (some v)):k<=i:=by
 by_cases hi:k<=i
 ·exact hi
 ·unfold qN at h;rw[cG (by rw[bN];omega),fX]at h;split at h<;>cases h
variable{N N':List Str}
theorem Hz{k:Nat}{cap:List Nat}{v:V}(hcap:(N'.drop k).map some=cap.map λj=>N[j]?)(hx:N'[i]?=some x)(h:(qN k cap σ)[i]?=some (some v)):
  ∃j:Nat,N[j]?=some x/\σ[j]?=some (some v)/\x∈N'.drop k:=by
 have hi:=BM h;unfold qN at h;rw[cZ (by rw[bN];exact hi),bN,aV]at h;have hd:(N'.drop k)[i - k]?=some x:=by rw[cM,show k+(i - k)=i by omega];exact hx
 have e:=bf (λl=>l[i - k]?) hcap;simp only[aV,hd,dB]at e;cases q:cap[i - k]? with
 |none=>rw[q]at h;cases h
 |some j=>
  rw[q]at h e;simp only[dB,nZ]at h e;refine⟨j,e.symm,?_,bg hd⟩;cases z:σ[j]? with
  |none=>rw[z]at h;cases h
  |some o=>rw[z]at h;have h':o=some v:=h;rw[h']
def Ai(wi:TI)(g:TG)(tt:TT)(te:TE)(k:Nat)(cap:List Nat):TE:=λσ H Q=>wi σ H λJ H1=>∀p,H1 p=none->
 ∃W:Nat->Nat->List V->Hp->Prop,(∃m,W 0 m [] (upd H1 p (.lst [])))/\∀i m acc H2,W i m acc H2->
  (J.stop i H2/\Q (.ref p) H2)\/
   (J.go i H2/\∀x H3,J.yld i H2 x H3->g x (qN k cap σ) H3 λσ4 H4=>σ4.drop k=(qN k cap σ).drop k/\tt σ4 H4 λb H5=>
    if b=true then te σ4 H5 λy H6=>∃acc',H6 p=some (.lst acc')/\acc'.length<av/\∃m',m'<m/\W (i+1) m' (acc'++[y]) (upd H6 p (.lst (acc'++[y])))
    else ∃m',m'<m/\W (i+1) m' acc H5)
variable{tg:Expr}{wi:TI}{tt:TT}{te:TE}
theorem BN{pins:List (Addr×Obj)}{s:ab}{H:Hp}{use:Option (aa->Sem Unit)}{P:aa->ab->Prop}{Q:V->Hp->Prop}{k:Nat}{cap:List Nat}{g:TG}
  (hc:X.calm=true) (hi:PI X tg iter wi)
  (body:∀(cl:List (Str×Addr)) (C:Addr) (fp:List Addr) (s:ab) (H:Hp),PG (pO X N' scope cl C fp s H) tg g/\PIf (pO X N' scope cl C fp s H) ifs tt/\PE (pO X N' scope cl C fp s H) elt te)
  (hkind:scope.kind=.function) (hcell:(scope.names.all λy=>y.2 != .cell)=true)
  (hloc:(scope.names.all λy=>y.2 != .local||scope.names.lookup y.1==some .local)=true)
  (hfree:(scope.names.all λy=>y.2 != .free||(X.env.kindOf y.1==some .cell||X.env.kindOf y.1==some .free))=true)
  (hlen:N'.length=k+cap.length) (hcap:(N'.drop k).map some=cap.map λj=>X.N[j]?)
  (hcf:((N'.drop k).all λx=>scope.names.lookup x==some .free)=true)
  (hs:∀x,fA iter X.env x=pure x)
  (I:Inv X pins σ H s) (h:Ai wi g tt te k cap σ H Q)
  (fin:∀a C m u s4 H3,s4.heap.Ns C m->Inv X pins σ H3 s4->CL X pins H3 C->Q (.ref a) H3->compPost (model X.prog X.w) X.A X.xe use P (.ref a) C (.ok u) s4):
  ae (model X.prog X.w) X.A (comprehension (.ListComp elt [⟨tg,iter,ifs,0⟩] scope pos) scope X.env (firstIterPos [⟨tg,iter,ifs,0⟩] pos) (newList []) false (eval iter X.env) use) P X.xe s:=by
 have hcell':∀y∈scope.names,y.2≠.cell:=λy hy e=>by have z:=aS.mp hcell y hy;rw[e]at z;exact ai z (by decide)
 have hloc':∀y∈scope.names,y.2=.local->scope.names.lookup y.1=some .local:=λy hy e=>by have z:=aS.mp hloc y hy;rw[e]at z;simpa using z
 have hfree':∀y∈scope.names,y.2=.free->X.env.kindOf y.1=some .cell\/X.env.kindOf y.1=some .free:=λy hy e=>by have z:=aS.mp hfree y hy;rw[e]at z;simpa using z
 have hcl:∀y∈scope.names,y.2=.free->∃c,X.env.cells.lookup y.1=some c:=λy hy e=>I.ok.has y.1 (hfree' y hy e);refine wpAny_comprehension_free rfl hs (Bp hcl) hkind hloc' (thn (hi pins s σ H _ I h) λxv s₁ h₁=>thn h₁ λit s₂ h₂=>?_);obtain⟨ita,fp,tn,J,H2,e,I2,T,st2,f2,R2⟩:=h₂;subst e;obtain⟨W,⟨m0,w0⟩,turn⟩:=R2 s₂.heap.objs.size (I2.hok.fresh (ay _));refine d9 (wpAny_newFunctionEnv hcell' (by intro y hy;simp at hy) (λh₁ hns₁ hsb₁=>?_) hkind);dsimp only at hns₁ hsb₁ ⊢;generalize hp:s₂.heap.push { cls:=.type "list", dict:=none,data:=.seq ([]:List aa).toArray }=hpL at hns₁ hsb₁ ⊢;have hsz:hpL.objs.size=s₂.heap.objs.size+1:=by rw[<-hp,bT]
 have I3:Inv X pins σ (upd H2 s₂.heap.objs.size (.lst [])) { s₂ with heap:=hpL }:=by rw[<-hp];exact I2.laid (t':=s₂.toks) (λb u e=>az _ e) (ay _) ⟨ba _,[],0,.nil,aQ _ rfl⟩
 have old:∀b o,hpL.get? b=some o->h₁.get? b=some o:=λb o e=>hsb₁.extBut b o (aD (aA e)) (az _ e);have older:∀b o,s₂.heap.get? b=some o->hpL.get? b=some o:=λb o e=>by rw[<-hp];exact az _ e
 have hfpS:∀b∈fp,b<s₂.heap.objs.size:=λb hb=>let ⟨o,e,_⟩:=T.obj _ _ st2 b hb;aA e;have sub:∀x c,(rG X.env.cells scope.names).lookup x=some c->X.env.cells.lookup x=some c:=DR scope.names [] hcl (λx c e=>by cases e);have ok':(pO X N' scope (rG X.env.cells scope.names) hpL.objs.size fp { s₂ with heap:=hpL } (upd H2 s₂.heap.objs.size (.lst []))).Ok:={
  mod:=I3.ok.mod
  kind:=hkind
  glob:=I3.ok.glob
  blt:=I3.ok.blt
  above:=ay _
  inj:=λx y c h1 h2=>I3.ok.inj x y c (sub x c h1) (sub y c h2)
  has:=λx hx=>Ah scope.names [] x (E7 hcell' hx)
  cab:=λx c hf _=>ai (show false=true from hf) aN
  hd:=I3.ok.hd
  frames:=I3.ok.frames
  stk:=.inl rfl
  exf:=λb hb=>⟨(by
   show b≠hpL.objs.size;rw[hsz];exact aD (cn (hfpS b hb))),λx c e=>(f2 b hb).2.2.2.2.1 x c (sub x c e)⟩
  bs:=I3.bs
  bsz:=bF I3.ok.bsz I3.sz
  noex:=λb o e hb=>by
   rcases(f2 b hb).2.2.2.1 with z|z
   ·exact I3.ok.noex b o e z
   ·exact ai (bx (aA e) (bF I3.ok.bsz z)) (dH _)
  exfs:=λb hb z=>(aF.mp (I3.stkSub b z)).elim (f2 b hb).2.1 (f2 b hb).2.2.1
  funs:=I3.stack
  frf:=I3.stkFree }
 have IX:Inv (pO X N' scope (rG X.env.cells scope.names) hpL.objs.size fp { s₂ with heap:=hpL } (upd H2 s₂.heap.objs.size (.lst []))) [] (qN k cap σ) (upd H2 s₂.heap.objs.size (.lst []))
   { s₂ with heap:=h₁,toks:=s₂.toks+([]:List (Str×aa)).length }:={
  ok:=ok'
  os:=rfl
  bare:=I3.bare
  base:=Un.kept old
  loc:=⟨_,hns₁,λi x v e1 e2 _=>by
   obtain⟨j,hj,hσ,hm⟩:=Hz hcap e1 e2;have hx:scope.names.lookup x=some .free:=by simpa using aS.mp hcf x hm
   have hk:=hfree' (x,.free) (mem_of_lookup hx) rfl;obtain⟨m,hn,hl⟩:=I3.loc;obtain⟨u,r,lk⟩:=hl j x v hj hσ (hk.elim (λz=>.inr (.inl z)) λz=>.inr (.inr z));refine⟨u,r,.inr ⟨Bq hx,?_⟩⟩;rcases lk with ⟨z,_⟩|⟨_,c,e,o,ho,hd⟩
   ·rcases hk with y|y
    ·rw[y]at z;cases z
    ·rw[y]at z;cases z
   ·obtain⟨c',e'⟩:=Ah (cells:=X.env.cells) scope.names [] x (mem_of_lookup hx);have ec:=sub x c' e';rw[e]at ec;have ec':c=c':=bB ec;subst ec';exact⟨c,e',o,old _ _ ho,hd⟩⟩
  cell:=λx c e=>by obtain⟨v,o,ho,hd⟩:=I3.cell x c (sub x c e);exact⟨v,o,old _ _ ho,hd⟩
  free:=I3.hok.fresh (ay _)
  freeC:=λx c e=>I3.freeC x c (sub x c e)
  pin:=λp hp=>ai (show p∈([]:List (Addr×Obj)) from hp) (by simp)
  hok:=I3.hok.kept old
  len:=by
   show (qN k cap σ).length=N'.length;rw[hlen];unfold qN;rw[aM,bN,aw] }
 have stat:∀{H':Hp},(∀b∈fp,H' b=none)->∀b∈fp,CL (pO X N' scope (rG X.env.cells scope.names) hpL.objs.size fp { s₂ with heap:=hpL } (upd H2 s₂.heap.objs.size (.lst []))) [] H' b:=λhn b hb=>⟨hn b hb,(ok'.exf b hb).1,ok'.exfs b hb,.inl hb,(ok'.exf b hb).2,λp hp=>ai (show p∈([]:List (Addr×Obj)) from hp) (by simp)⟩
 have st4:tn 0 h₁:=T.keep _ _ _ st2 λb _ o e=>old b o (older b o e);have loop:bH (model X.prog X.w) X.A (.compLoop (.ListComp elt [⟨tg,iter,ifs,0⟩] scope pos) 0 (.ref ita) (.ref s₂.heap.objs.size) (compEnvC scope (rG X.env.cells scope.names) hpL.objs.size X.env))
   (compPost (model X.prog X.w) X.A X.xe use P (.ref s₂.heap.objs.size) hpL.objs.size) { s₂ with heap:=h₁,toks:=s₂.toks+([]:List (Str×aa)).length }:=by
  refine Dd (λn s'=>∃i acc H',Inv (pO X N' scope (rG X.env.cells scope.names) hpL.objs.size fp { s₂ with heap:=hpL } (upd H2 s₂.heap.objs.size (.lst []))) [] (qN k cap σ) H' s'/\tn i s'.heap/\(∀b∈fp,H' b=none)/\W i n acc H')
   ?_ m0 ⟨0,[],_,IX,st4,λb hb=>?_,w0⟩
  ·rintro n s3 ⟨i,acc,H3,I4,st3,fr3,w3⟩;rcases turn i n acc H3 w3 with ⟨stop,qn⟩|⟨go,step⟩
   ·refine thn (T.done (pO X N' scope (rG X.env.cells scope.names) hpL.objs.size fp { s₂ with heap:=hpL } (upd H2 s₂.heap.objs.size (.lst []))) rfl rfl rfl hc i [] s3 _ H3 _ I4 (stat fr3) st3 stop) λr s4 zz=>?_;obtain⟨hr,I5⟩:=zz;subst hr;obtain⟨m,hn,_⟩:=id I5.loc;have U:=I5.base;refine fin _ _ m _ _ _ hn (I3.call' (s':=s4) (ch:=fp) I5.os ⟨λb o e n hb hx=>U.keep b o e n hb hx,λb o e n hb hx=>U.slot b o e n hb hx,U.free,λb o e hx=>U.there b o e hx,U.tups,U.frzs,U.tbls⟩ I5.hok I5.bare
     λb hb=>⟨(f2 b hb).2.2.2.1,(f2 b hb).2.1,(f2 b hb).2.2.2.2.1,(f2 b hb).2.2.2.2.2⟩) (I3.fpOk (ay _) I5.free) qn
   ·refine thn (T.item (pO X N' scope (rG X.env.cells scope.names) hpL.objs.size fp { s₂ with heap:=hpL } (upd H2 s₂.heap.objs.size (.lst []))) rfl rfl rfl hc i [] s3 _ H3 _ I4 (stat fr3) st3 go) λr s4 zz=>?_;obtain⟨u,hr,h4⟩:=zz;subst hr;refine thn h4 λ_ s5 zz=>?_;obtain⟨x,H5,I5,r5,y5,st5,fr5⟩:=zz;have I5':=I5.pinned (stat fr5) (T.obj _ _ st5);have again:∀{H8:Hp} {s8:ab} {σ8:St} {acc8:List V} {m':Nat},Inv (pO X N' scope (rG X.env.cells scope.names) hpL.objs.size fp { s₂ with heap:=hpL } (upd H2 s₂.heap.objs.size (.lst []))) ([]++Aa fp s5.heap) σ8 H8 s8->σ8.drop k=(qN k cap σ).drop k->m'<n->W (i+1) m' acc8 H8->
      ∃m,m<n/\∃i acc H',Inv (pO X N' scope (rG X.env.cells scope.names) hpL.objs.size fp { s₂ with heap:=hpL } (upd H2 s₂.heap.objs.size (.lst []))) [] (qN k cap σ) H' s8/\tn i s8.heap/\(∀b∈fp,H' b=none)/\W i m acc H':=λ{H8 s8 σ8 acc8 m'} I8 hd8 hm8 w8=>by
     refine⟨m',hm8,i+1,acc8,H8,I8.unpinned.weak (IX.len.trans I8.len.symm) (λj v e=>?_),T.keep _ _ _ st5 λb hb o e=>(I8.pin (b,o) (bM _ (bM _ (sg hb e)))).1,λb hb=>?_,w8⟩
     ·have hj:=BM e;have q:(σ8.drop k)[j - k]?=((qN k cap σ).drop k)[j - k]?:=by rw[hd8]
      rw[cM,cM,show k+(j - k)=j by omega]at q;rw[q];exact e
     ·obtain⟨o,e,d⟩:=T.obj _ _ st5 b hb;exact(I8.pin (b,o) (bM _ (bM _ (sg hb e)))).2.1
    refine bt ((body _ _ _ _ _).1 _ s5 _ H5 x u _ I5' r5 (step x H5 y5)) (λ_ s6 h6=>?_) λ_ _ f=>f.elim;obtain⟨σ6,H6,I6,hd6,q6⟩:=h6;refine bt ((body _ _ _ _ _).2.1 _ s6 σ6 H6 _ I6 q6) (λb s7 h7=>?_) λ_ _ f=>f.elim;obtain⟨H7,I7,q7⟩:=h7;cases b with
    |false=>rw[ag aN]at q7;rw[ag aN];obtain⟨m',hm',w7⟩:=q7;exact again I7 hd6 hm' w7
    |true=>rw[ah rfl]at q7;rw[ah rfl];refine bt ((body _ _ _ _ _).2.2 _ s7 σ6 H7 _ I7 q7) (λyv s8 h8=>?_) λ_ _ f=>f.elim;obtain⟨y,H8,I8,r8,acc',hp8,hl8,m',hm',w8⟩:=h8;refine bt (yB (X:=pO X N' scope (rG X.env.cells scope.names) hpL.objs.size fp { s₂ with heap:=hpL } (upd H2 s₂.heap.objs.size (.lst []))) _ s8 σ6 H8 (.ref s₂.heap.objs.size) [y] (.ref s₂.heap.objs.size) [yv] (λ_ Hx=>Hx=upd H8 s₂.heap.objs.size (.lst (acc'++[y]))) I8 rfl (.cons r8 .nil) ⟨_,acc',y,rfl,rfl,hp8,hl8,rfl⟩) (λ_ s9 h9=>?_) λ_ _ f=>f.elim;obtain⟨_,H9,I9,_,e9⟩:=h9;subst e9;exact again I9 hd6 hm' w8
  ·have z:b≠s₂.heap.objs.size:=aD (hfpS b hb);rw[oE z];exact(f2 b hb).1
 exact codeAny_compStart_list loop (T.self _ 0 _ _ _ st4 loop)
theorem LD{k:Nat}{cap:List Nat}{g:TG}
  (hc:X.calm=true) (hi:PI X tg iter wi)
  (body:∀(cl:List (Str×Addr)) (C:Addr) (fp:List Addr) (s:ab) (H:Hp),PG (pO X N' scope cl C fp s H) tg g/\PIf (pO X N' scope cl C fp s H) ifs tt/\PE (pO X N' scope cl C fp s H) elt te)
  (hkind:scope.kind=.function:=by rfl) (hcell:(scope.names.all λy=>y.2 != .cell)=true:=by rfl)
  (hloc:(scope.names.all λy=>y.2 != .local||scope.names.lookup y.1==some .local)=true:=by rfl)
  (hfree:(scope.names.all λy=>y.2 != .free||(X.env.kindOf y.1==some .cell||X.env.kindOf y.1==some .free))=true:=by rfl)
  (hlen:N'.length=k+cap.length:=by rfl) (hcap:(N'.drop k).map some=cap.map λj=>X.N[j]?:=by rfl)
  (hcf:((N'.drop k).all λx=>scope.names.lookup x==some .free)=true:=by rfl)
  (hs:∀x,fA iter X.env x=pure x:=by intro _;rfl):
  PE X (.ListComp elt [⟨tg,iter,ifs,0⟩] scope pos) (Ai wi g tt te k cap):=by
 intro pins s σ H Q I h;exact BN hc hi body hkind hcell hloc hfree hlen hcap hcf hs I h λa C m u s4 H3 hn back fpC qn=>⟨m,hn,λh' hs'=>⟨.ref a,H3,back.turned (t':=s4.toks) (λb o hb e=>(hs'.2 b hb).trans e) fpC.1 fpC.2.1 fpC.2.2.2.1 fpC.2.2.2.2.1 fpC.2.2.2.2.2,rfl,qn⟩⟩
def Its(x:Str):It:=⟨λi _=>i<x.cps.size,λi H v H'=>H'=H/\∃c,x.cps[i]?=some c/\v=.str ⟨#[c]⟩,λi _=>i=x.cps.size⟩
theorem Oy{M:Model}{A:ar}{E:aa->ab->Prop}{s:ab}{it:Addr}{c:Str}{t:Tok}{Q:Unit->ab->Prop}(hQ:Q () s):ae M A (eJ tg (.ref it) (.str c t)) Q E s:=by unfold eJ;cases tg<;>exact ao hQ
theorem DS{P:aq}{w:aj}{K:ak}(it:Addr)(ty:String)(x:Str)(t:Tok)
  (hW:∀A:ar,A.handled=none->Walks P w A it [it] [it] x.cps.size (SignAt x) (λi h=>h.IsStrIter it ty x t i))
  (hS:∀(A:ar) (i:Nat) (s:ab) (Q:aa->ab->Prop) (E:aa->ab->Prop),s.heap.IsStrIter it ty x t i->Q (.ref it) s->ae (model P w) A (pyIter (.ref it)) Q E s):
  Turn P w K tg (Its x) [it] it (λi h=>h.IsStrIter it ty x t i) where
 mem:=by simp
 obj:=λi h st b hb=>by
  have e:b=it:=by simpa using hb
  subst e;obtain⟨o,e,c,d⟩:=st;exact⟨o,e,λv z=>by rw[d]at z;cases z⟩
 keep:=λi h h' st k=>by obtain⟨o,e,r⟩:=st;exact⟨o,k it (by simp) o e,r⟩
 item:=by intro X hP hw hK hc i pins s σ H E I hf st hg;subst hP hw hK;obtain⟨f0,f1,f2,f3,f4,f5⟩:=hf it (by simp);refine(hW _ (I.ok.hd hc)).item i s _ _ hg st λv h' tk hv st' kk=>?_;obtain⟨c,t',hc',rfl⟩:=hv;have I1:Inv X pins σ H { s with heap:=h',toks:=tk }:=I.turned (λb o hb e=>kk b o (by simpa using hb) e) f0 f1 f3 f4 f5;exact⟨_,rfl,Oy ⟨.str ⟨#[c]⟩,H,I1,⟨t',rfl⟩,⟨rfl,c,hc',rfl⟩,st',λb hb=>(hf b hb).1⟩⟩
 done:=by intro X hP hw hK hc i pins s σ H E I hf st hg;subst hP hw hK;obtain⟨f0,f1,f2,f3,f4,f5⟩:=hf it (by simp);have hg':i=x.cps.size:=hg;subst hg';exact(hW _ (I.ok.hd hc)).done s _ _ st λh' tk kk=>⟨rfl,I.turned (λb o hb e=>kk b o (by simpa using hb) e) f0 f1 f3 f4 f5⟩
 self:=hS
variable{l:Expr}{tl:TE}
section
variable{X:Cx}{tg:Expr}
def Sk(tl:TE):TI:=λσ H R=>tl σ H λv H1=>∃x,v=.str x/\R (Its x) H1
theorem Oz(hl:PE X l tl):PI X tg l (Sk tl):=by
 intro pins s σ H R I h;refine thn (hl pins s σ H _ I h) λv s1 zz=>?_;obtain⟨x,H1,I1,r1,q1⟩:=zz;obtain⟨z,e,q⟩:=q1;subst e;obtain⟨t,rfl⟩:=r1;have fp:∀b∈[s1.heap.objs.size],CL X pins H1 b:=λb hb=>by
  have e:b=s1.heap.objs.size:=by simpa using hb
  subst e;exact I1.fpOk (ay _) (I1.hok.fresh (ay _))
 cases ha:z.cps.all (· < 128)
 ·refine wpAny_pyIter_wide ha ⟨s1.heap.objs.size,[s1.heap.objs.size],_,_,H1,rfl,I1.kept (t':=s1.toks) λb o e=>az _ e,DS _ "str_iterator" z t (λA hA=>Walks.strWide hA _ z t) (λA i s Q E st hQ=>wpAny_pyIter_striter_wide st hQ),⟨_,aQ _ rfl,rfl,rfl⟩,fp,q⟩
 ·refine wpAny_pyIter_ascii ha ⟨s1.heap.objs.size,[s1.heap.objs.size],_,_,H1,rfl,I1.kept (t':=s1.toks) λb o e=>az _ e,DS _ "str_ascii_iterator" z t (λA hA=>Walks.strAscii hA _ z t) (λA i s Q E st hQ=>wpAny_pyIter_striter_ascii st hQ),⟨_,aQ _ rfl,rfl,rfl⟩,fp,q⟩
end
section
variable{X:Cx}
theorem HA:OpR X (aO .LtE) (λx y H Q=>∃i j,x=.str i/\y=.str j/\Q (.bl (!decide (j.cps.toList<i.cps.toList))) H):=by intro pins s σ H x y v u Q I rx ry h;obtain⟨i,j,rfl,rfl,q⟩:=h;obtain⟨t,rfl⟩:=rx;obtain⟨t',rfl⟩:=ry;exact PySem.P.le_str (oX I q rfl)
theorem Je(hc:X.calm=true):pK X (.builtin "all") (λxs H Q=>∃(p:Addr) (bs:List Bool),xs=[.ref p]/\SqL X.K H p (bs.map V.bl)/\Q (.bl (bs.all id)) H):=by
 intro pins s σ H xs us Q I r h;obtain⟨p,bs,rfl,hq,q⟩:=h;obtain⟨u,rfl,ru⟩:=vals1 r;cases ru;obtain⟨its,rv,pl,hz⟩:=I.list hq;have hlt:p<s.heap.objs.size:=by obtain⟨o,ho,_⟩:=pl.isList;exact aA ho
 have hl:bs.length=its.length:=by have:=rv.length;rw[aw]at this;exact this
 refine call_all_walk (d0 pl.isList ⟨s.heap.objs.size,_,_,_,_,_,λi=>(bs[i]?).getD true,rfl,fP (show X.A.in1.handled=none from I.ok.hd hc) _ p (aD hlt) its.toArray,⟨⟨_,aQ _ rfl,rfl,rfl⟩,?_⟩,?_,λh' tk hk=>?_⟩)
 ·exact pl.isList.at λo e=>az _ e
 ·intro i v s' Q' E' hv hQ';have hv':its[i]?=some v:=by simpa using hv
  have hi:i<its.length:=(bb.mp hv').1;have hb:(bs.map V.bl)[i]?=some (.bl (bs[i]'(by omega))):=by simp[show i<bs.length by omega]
  obtain⟨u,hu,ru⟩:=rv.get hb;rw[hv']at hu;cases hu;cases ru;refine b0 ?_;have e:(bs[i]?).getD true=bs[i]'(by omega):=by simp[show i<bs.length by omega]
  rw[<-e];exact hQ'
 ·refine⟨.bl (bs.all id),H,?_,?_,q⟩
  ·exact I.kept (t':=tk) λb o e=>hk b o (by simp;exact aD (aA e)) (az _ e)
  ·show Value.bool _=Value.bool _;congr 1;rw[aK,<- hl];rw[cp];simp only[aS,bh,id];constructor
   ·intro hh b hb;obtain⟨i,hi,rfl⟩:=c5.mp hb;have:=hh i hi;simpa [hi]using this
   ·intro hh i hi;simp only[aJ hi,kL];exact hh _ (iB hi)
end
inductive Dq where
 |non|bl (b:Bool)|int (i:Int)|str (x:Str)|tup (ds:List Dq)|lst (ds:List Dq)
mutual
def Rep(K:ak)(H:Hp):Dq->V->Prop
 |.non,v=>v=.non
 |.bl b,v=>v=.bl b
 |.int i,v=>v=.int i
 |.str x,v=>v=.str x
 |.tup ds,v=>∃a xs,v=.ref a/\SqT K H a xs/\og K H ds xs
 |.lst ds,v=>∃a xs,v=.ref a/\SqL K H a xs/\og K H ds xs
def og(K:ak)(H:Hp):List Dq->List V->Prop
 |[],xs=>xs=[]
 |d::ds,xs=>∃v r,xs=v::r/\Rep K H d v/\og K H ds r
end
mutual
def eqD:Dq->Dq->Bool
 |.non,.non=>true
 |.bl a,.bl b=>a==b
 |.bl a,.int b=>(if a then 1 else 0)==b
 |.int a,.bl b=>a==(if b then 1 else 0)
 |.int a,.int b=>a==b
 |.str a,.str b=>a==b
 |.tup a,.tup b=>ug a b
 |.lst a,.lst b=>ug a b
 |_,_=>false
def ug:List Dq->List Dq->Bool
 |[],[]=>true
 |a::r,b::q=>eqD a b&&ug r q
 |_,_=>false
end
mutual
def dpt:Dq->Nat
 |.tup ds=>qa ds+1
 |.lst ds=>qa ds+1
 |_=>0
def qa:List Dq->Nat
 |[]=>0
 |d::r=>max (dpt d) (qa r)
end
mutual
theorem DT:∀d:Dq,eqD d d=true
 |.non=>by unfold eqD;rfl
 |.bl b=>by unfold eqD;simp
 |.int i=>by unfold eqD;simp
 |.str x=>by unfold eqD;simp
 |.tup ds=>by unfold eqD;exact yC ds
 |.lst ds=>by unfold eqD;exact yC ds
theorem yC:∀ds:List Dq,ug ds ds=true
 |[]=>by unfold ug;rfl
 |d::r=>by unfold ug;rw[DT d,yC r];rfl
end
theorem oj{K:ak}{H:Hp}:∀{ds:List Dq} {xs:List V},og K H ds xs->ds.length=xs.length
 |[],xs,h=>by unfold og at h;subst h;rfl
 |d::ds,xs,h=>by unfold og at h;obtain⟨v,r,rfl,_,h2⟩:=h;rw[aI,aI,oj h2]
def eAt(ds ds':List Dq)(j:Nat):Bool:=match ds[j]?,ds'[j]? with
 |some a,some b=>eqD a b
 |_,_=>true
theorem Aj:∀(ds ds':List Dq),ug ds ds'=true ↔ ds.length=ds'.length/\∀j,j<ds.length->eAt ds ds' j=true
 |[],[]=>by simp[ug]
 |[],b::q=>by simp[ug]
 |a::r,[]=>by simp[ug]
 |a::r,b::q=>by
  have ih:=Aj r q;unfold ug;rw[aE,ih,aI,aI];constructor
  ·rintro⟨h1,h2,h3⟩;refine⟨by omega,λj hj=>?_⟩;cases j with
   |zero=>exact h1
   |succ j=>exact h3 j (by omega)
  ·rintro⟨h1,h2⟩;exact⟨h2 0 (by omega),by omega,λj hj=>h2 (j+1) (by omega)⟩
variable{ds ds':List Dq}
theorem uh{n m:Nat}(hn:ds.length=n)(hm:ds'.length=m):((aL (min n m)).all (eAt ds ds')&&n==m)=ug ds ds':=by
 rw[cp,Aj,aE,aS];subst hn hm;constructor
 ·rintro⟨h1,h2⟩;have e:ds.length=ds'.length:=by simpa using h2
  exact⟨e,λj hj=>h1 j (bh.mpr (by omega))⟩
 ·rintro⟨e,h⟩;exact⟨λj hj=>h j (by have:=bh.mp hj;omega),by simpa using e⟩
theorem vp{n:Nat}(hn:ds.length=n)(hm:ds'.length=n):(aL n).all (eAt ds ds')=ug ds ds':=by rw[<-uh hn hm];simp
theorem Ak(h:ds.length≠ds'.length):ug ds ds'=false:=by
 cases e:ug ds ds' with
 |false=>rfl
 |true=>exact ai ((Aj ds ds').mp e).1 h
section
variable{X:Cx}{pins:List (Addr×Obj)}{σ:St}{H:Hp}{s:ab}
theorem Nj(I:Inv X pins σ H s){a:Addr}{xs ys:List V}(h:SqL X.K H a xs)(h':SqT X.K H a ys):False:=by obtain⟨its,_,p,_⟩:=I.list h;obtain⟨its',_,p',_⟩:=I.tuple h';exact SeqAt.ne_of_list_tuple p.isList (show s.heap.IsTuple a its'.toArray from p') rfl
mutual
theorem Al(I:Inv X pins σ H s):∀(d d':Dq) (v:V),Rep X.K H d v->Rep X.K H d' v->eqD d d'=true
 |.non,d',v,h,h'=>by unfold Rep at h;subst h;cases d'<;>unfold Rep at h'<;>first|rfl|(exact nomatch h')|(obtain⟨_,_,e,_⟩:=h';exact nomatch e)
 |.bl b,d',v,h,h'=>by unfold Rep at h;subst h;cases d'<;>unfold Rep at h'<;>first|(obtain⟨_,_,e,_⟩:=h';cases e)|(cases h'<;>simp[eqD])
 |.int b,d',v,h,h'=>by unfold Rep at h;subst h;cases d'<;>unfold Rep at h'<;>first|(obtain⟨_,_,e,_⟩:=h';cases e)|(cases h'<;>simp[eqD])
 |.str b,d',v,h,h'=>by unfold Rep at h;subst h;cases d'<;>unfold Rep at h'<;>first|(obtain⟨_,_,e,_⟩:=h';cases e)|(cases h'<;>simp[eqD])
 |.tup ds,d',v,h,h'=>by
  unfold Rep at h;obtain⟨a,xs,rfl,hq,hr⟩:=h;cases d' with
  |tup ds'=>unfold Rep at h';obtain⟨a',xs',e,hq',hr'⟩:=h';cases e;have ex:=I.tuple_inj hq hq';subst ex;unfold eqD;exact yD I ds ds' xs hr hr'
  |lst ds'=>unfold Rep at h';obtain⟨a',xs',e,hq',hr'⟩:=h';cases e;exact(Nj I hq' hq).elim
  |_=>unfold Rep at h';exact nomatch h'
 |.lst ds,d',v,h,h'=>by
  unfold Rep at h;obtain⟨a,xs,rfl,hq,hr⟩:=h;cases d' with
  |lst ds'=>unfold Rep at h';obtain⟨a',xs',e,hq',hr'⟩:=h';cases e;have ex:=I.list_inj hq hq';subst ex;unfold eqD;exact yD I ds ds' xs hr hr'
  |tup ds'=>unfold Rep at h';obtain⟨a',xs',e,hq',hr'⟩:=h';cases e;exact(Nj I hq hq').elim
  |_=>unfold Rep at h';exact nomatch h'
theorem yD(I:Inv X pins σ H s):∀(ds ds':List Dq) (xs:List V),og X.K H ds xs->og X.K H ds' xs->ug ds ds'=true
 |[],ds',xs,h,h'=>by
  unfold og at h;subst h;cases ds' with
  |nil=>rfl
  |cons d r=>unfold og at h';obtain⟨_,_,e,_⟩:=h';exact nomatch e
 |d::ds,ds',xs,h,h'=>by
  unfold og at h;obtain⟨v,r,rfl,h1,h2⟩:=h;cases ds' with
  |nil=>unfold og at h';exact nomatch h'
  |cons d' r'=>unfold og at h';obtain⟨v',q,e,h1',h2'⟩:=h';cases e;unfold ug;rw[Al I d d' v h1 h1',yD I ds r' r h2 h2'];rfl
end
mutual
theorem Jf(I:Inv X pins σ H s):∀(d d':Dq) (x y:V) (u v:aa) (A:ar),Rep X.K H d x->Rep X.K H d' y->RelV x u->RelV y v->A.units+dpt d+dpt d'<cLine->fO A s u v (eqD d d')
 |.tup ds,d',x,y,u,v,A,hx,hy,ru,rv,hu=>by
  unfold Rep at hx;obtain⟨a,xs,rfl,hq,hr⟩:=hx;cases ru;obtain⟨its,rx,p,_⟩:=I.tuple hq;have p:s.heap.IsTuple a its.toArray:=p;cases d' with
  |non=>unfold Rep at hy;subst hy;cases rv;exact m7 p (by omega)
  |bl b=>unfold Rep at hy;subst hy;cases rv;exact m8 b p (by omega)
  |int b=>unfold Rep at hy;subst hy;obtain⟨t,rfl⟩:=rv;exact nz b t p (by omega)
  |str b=>unfold Rep at hy;subst hy;obtain⟨t,rfl⟩:=rv;exact nD b t p (by omega)
  |lst ds'=>unfold Rep at hy;obtain⟨b,ys,rfl,hq',hr'⟩:=hy;cases rv;obtain⟨its',ry,p',_⟩:=I.list hq';exact m9 p p'.isList (by omega)
  |tup ds'=>
   have hy0:=hy;unfold Rep at hy;obtain⟨b,ys,rfl,hq',hr'⟩:=hy;cases rv;obtain⟨its',ry,p',_⟩:=I.tuple hq';have p':s.heap.IsTuple b its'.toArray:=p';by_cases hab:a=b
   ·subst hab;have e:eqD (.tup ds) (.tup ds')=true:=Al I _ _ (.ref a) (by unfold Rep;exact⟨a,xs,rfl,hq,hr⟩) hy0;rw[e];exact iH _
   ·have hd:dpt (.tup ds)=qa ds+1:=by rw[dpt]
    have hd':dpt (.tup ds')=qa ds'+1:=by rw[dpt]
    have q:=n4 (A:=A) (e:=eAt ds ds') p p' (by omega) λj h1 h2=>by have z:=ui I ds ds' xs ys its its' A.in1 hr hr' rx ry (by show A.units+1+qa ds+qa ds'<cLine;omega) j (by simpa using h1) (by simpa using h2);simpa using z
    rw[uh (by rw[oj hr,rx.length];simp) (by rw[oj hr',ry.length];simp)]at q;exact ip hab (by unfold eqD;exact q)
 |.lst ds,d',x,y,u,v,A,hx,hy,ru,rv,hu=>by
  unfold Rep at hx;obtain⟨a,xs,rfl,hq,hr⟩:=hx;cases ru;obtain⟨its,rx,p,_⟩:=I.list hq;have p:=p.isList;cases d' with
  |non=>unfold Rep at hy;subst hy;cases rv;exact nE p (by omega)
  |bl b=>unfold Rep at hy;subst hy;cases rv;exact nF b p (by omega)
  |int b=>unfold Rep at hy;subst hy;obtain⟨t,rfl⟩:=rv;exact nP b t p (by omega)
  |str b=>unfold Rep at hy;subst hy;obtain⟨t,rfl⟩:=rv;exact nQ b t p (by omega)
  |tup ds'=>unfold Rep at hy;obtain⟨b,ys,rfl,hq',hr'⟩:=hy;cases rv;obtain⟨its',ry,p',_⟩:=I.tuple hq';exact ng p (show s.heap.IsTuple b its'.toArray from p') (by omega)
  |lst ds'=>
   have hy0:=hy;unfold Rep at hy;obtain⟨b,ys,rfl,hq',hr'⟩:=hy;cases rv;obtain⟨its',ry,p',_⟩:=I.list hq';have p':=p'.isList;by_cases hab:a=b
   ·subst hab;have e:eqD (.lst ds) (.lst ds')=true:=Al I _ _ (.ref a) (by unfold Rep;exact⟨a,xs,rfl,hq,hr⟩) hy0;rw[e];exact iH _
   ·have hd:dpt (.lst ds)=qa ds+1:=by rw[dpt]
    have hd':dpt (.lst ds')=qa ds'+1:=by rw[dpt]
    by_cases hl:its.length=its'.length
    ·have q:=n5 (A:=A) (e:=eAt ds ds') p p' (by simpa using hl) (by omega) λj h1 h2=>by have z:=ui I ds ds' xs ys its its' A.in1 hr hr' rx ry (by show A.units+1+qa ds+qa ds'<cLine;omega) j (by simpa using h1) (by simpa using h2);simpa using z
     rw[vp (by rw[oj hr,rx.length];simp) (by rw[oj hr',ry.length,<- hl];simp)]at q;exact ip hab (by unfold eqD;exact q)
    ·have e:eqD (.lst ds) (.lst ds')=false:=by unfold eqD;exact Ak (by rw[oj hr,oj hr',rx.length,ry.length];exact hl)
     rw[e];exact ip hab (m3 p p' (by simpa using hl) (by omega))
 |.non,d',x,y,u,v,A,hx,hy,ru,rv,hu=>by
  unfold Rep at hx;subst hx;cases d' with
  |tup ds'=>unfold Rep at hy;obtain⟨b,ys,rfl,hq',hr'⟩:=hy;cases rv;cases ru;obtain⟨its',ry,p',_⟩:=I.tuple hq';exact nh (show s.heap.IsTuple b its'.toArray from p') (by omega)
  |lst ds'=>unfold Rep at hy;obtain⟨b,ys,rfl,hq',hr'⟩:=hy;cases rv;cases ru;obtain⟨its',ry,p',_⟩:=I.list hq';exact nG p'.isList (by omega)
  |_=>unfold Rep at hy;subst hy;exact Ac ru rv rfl rfl
 |.bl c,d',x,y,u,v,A,hx,hy,ru,rv,hu=>by
  unfold Rep at hx;subst hx;cases d' with
  |tup ds'=>unfold Rep at hy;obtain⟨b,ys,rfl,hq',hr'⟩:=hy;cases rv;cases ru;obtain⟨its',ry,p',_⟩:=I.tuple hq';exact ni c (show s.heap.IsTuple b its'.toArray from p') (by omega)
  |lst ds'=>unfold Rep at hy;obtain⟨b,ys,rfl,hq',hr'⟩:=hy;cases rv;cases ru;obtain⟨its',ry,p',_⟩:=I.list hq';exact nH c p'.isList (by omega)
  |_=>unfold Rep at hy;subst hy;exact Ac ru rv rfl rfl
 |.int c,d',x,y,u,v,A,hx,hy,ru,rv,hu=>by
  unfold Rep at hx;subst hx;cases d' with
  |tup ds'=>unfold Rep at hy;obtain⟨b,ys,rfl,hq',hr'⟩:=hy;cases rv;obtain⟨t,rfl⟩:=ru;obtain⟨its',ry,p',_⟩:=I.tuple hq';exact nI c t (show s.heap.IsTuple b its'.toArray from p') (by omega)
  |lst ds'=>unfold Rep at hy;obtain⟨b,ys,rfl,hq',hr'⟩:=hy;cases rv;obtain⟨t,rfl⟩:=ru;obtain⟨its',ry,p',_⟩:=I.list hq';exact nR c t p'.isList (by omega)
  |_=>unfold Rep at hy;subst hy;exact Ac ru rv rfl rfl
 |.str c,d',x,y,u,v,A,hx,hy,ru,rv,hu=>by
  unfold Rep at hx;subst hx;cases d' with
  |tup ds'=>unfold Rep at hy;obtain⟨b,ys,rfl,hq',hr'⟩:=hy;cases rv;obtain⟨t,rfl⟩:=ru;obtain⟨its',ry,p',_⟩:=I.tuple hq';exact nJ c t (show s.heap.IsTuple b its'.toArray from p') (by omega)
  |lst ds'=>unfold Rep at hy;obtain⟨b,ys,rfl,hq',hr'⟩:=hy;cases rv;obtain⟨t,rfl⟩:=ru;obtain⟨its',ry,p',_⟩:=I.list hq';exact nS c t p'.isList (by omega)
  |_=>unfold Rep at hy;subst hy;exact Ac ru rv rfl rfl
theorem ui(I:Inv X pins σ H s):∀(ds ds':List Dq) (xs ys:List V) (us vs:List aa) (A:ar),og X.K H ds xs->og X.K H ds' ys->Vals xs us->Vals ys vs->A.units+qa ds+qa ds'<cLine->
  ∀(j:Nat) (h1:j<us.length) (h2:j<vs.length),fO A s us[j] vs[j] (eAt ds ds' j)
 |[],ds',xs,ys,us,vs,A,hx,hy,ru,rv,hu,j,h1,h2=>by
  have:=oj hx;have:=ru.length;simp only[dF]at *
  omega
 |d::ds,[],xs,ys,us,vs,A,hx,hy,ru,rv,hu,j,h1,h2=>by
  have:=oj hy;have:=rv.length;simp only[dF]at *
  omega
 |d::ds,d'::ds',xs,ys,us,vs,A,hx,hy,ru,rv,hu,j,h1,h2=>by
  unfold og at hx hy;obtain⟨x,xr,rfl,hx1,hx2⟩:=hx;obtain⟨y,yr,rfl,hy1,hy2⟩:=hy;have e1:qa (d::ds)=max (dpt d) (qa ds):=by rw[qa]
  have e2:qa (d'::ds')=max (dpt d') (qa ds'):=by rw[qa]
  cases ru with
  |cons r1 r2=>
   cases rv with
   |cons q1 q2=>
    cases j with
    |zero=>exact Jf I d d' x y _ _ A hx1 hy1 r1 q1 (by omega)
    |succ j=>exact ui I ds ds' xr yr _ _ A hx2 hy2 r2 q2 (by omega) j (by simpa using h1) (by simpa using h2)
end
def Jg:Dq->Dq->Bool
 |.tup _,.tup _=>true
 |.lst _,.lst _=>true
 |_,_=>false
def E8(K:ak)(neg:Bool):R2:=λx y H Q=>∃d d',Rep K H d x/\Rep K H d' y/\Jg d d'=true/\dpt d<=20/\dpt d'<=20/\Q (.bl (if neg then !eqD d d' else eqD d d')) H
theorem OA(hu:X.A.units+64<cLine):OpR X (aO .Eq) (E8 X.K false):=by
 intro pins s σ H x y u v Q I ru rv h;obtain⟨d,d',hx,hy,hd,h1,h2,q⟩:=h;cases d with
 |tup ds=>
  cases d' with
  |tup ds'=>
   have hd1:dpt (.tup ds)=qa ds+1:=by rw[dpt]
   have hd2:dpt (.tup ds')=qa ds'+1:=by rw[dpt]
   unfold Rep at hx hy;obtain⟨a,xs,rfl,hq,hr⟩:=hx;obtain⟨b,ys,rfl,hq',hr'⟩:=hy;cases ru;cases rv;obtain⟨its,rx,p,_⟩:=I.tuple hq;obtain⟨its',ry,p',_⟩:=I.tuple hq';refine SeqAt.eq_tupleAt (e:=eAt ds ds') (show s.heap.IsTuple a its.toArray from p) (show s.heap.IsTuple b its'.toArray from p') (by omega) (λj h1 h2=>?_) ?_
   ·have z:=ui I ds ds' xs ys its its' X.A.in1 hr hr' rx ry (by show X.A.units+1+qa ds+qa ds'<cLine;omega) j (by simpa using h1) (by simpa using h2);simpa using z
   ·rw[uh (by rw[oj hr,rx.length];simp) (by rw[oj hr',ry.length];simp)];unfold eqD at q;exact oX I q rfl
  |_=>exact nomatch hd
 |lst ds=>
  cases d' with
  |lst ds'=>
   have hd1:dpt (.lst ds)=qa ds+1:=by rw[dpt]
   have hd2:dpt (.lst ds')=qa ds'+1:=by rw[dpt]
   unfold Rep at hx hy;obtain⟨a,xs,rfl,hq,hr⟩:=hx;obtain⟨b,ys,rfl,hq',hr'⟩:=hy;cases ru;cases rv;obtain⟨its,rx,p,_⟩:=I.list hq;obtain⟨its',ry,p',_⟩:=I.list hq';by_cases hl:its.length=its'.length
   ·refine SeqAt.eq_listAt (e:=eAt ds ds') p.isList p'.isList (by simpa using hl) (by omega) (λj h1 h2=>?_) ?_
    ·have z:=ui I ds ds' xs ys its its' X.A.in1 hr hr' rx ry (by show X.A.units+1+qa ds+qa ds'<cLine;omega) j (by simpa using h1) (by simpa using h2);simpa using z
    ·rw[vp (by rw[oj hr,rx.length];simp) (by rw[oj hr',ry.length,<- hl];simp)];unfold eqD at q;exact oX I q rfl
   ·refine SeqAt.eq_list_lengthsAt p.isList p'.isList (by simpa using hl) (by omega) ?_;have e:ug ds ds'=false:=Ak (by rw[oj hr,oj hr',rx.length,ry.length];exact hl);unfold eqD at q;rw[e]at q;exact oX I q rfl
  |_=>exact nomatch hd
 |_=>exact nomatch hd
theorem OB(hu:X.A.units+64<cLine):OpR X (aO .NotEq) (E8 X.K true):=by
 intro pins s σ H x y u v Q I ru rv h;obtain⟨d,d',hx,hy,hd,h1,h2,q⟩:=h;cases d with
 |tup ds=>
  cases d' with
  |tup ds'=>
   have hd1:dpt (.tup ds)=qa ds+1:=by rw[dpt]
   have hd2:dpt (.tup ds')=qa ds'+1:=by rw[dpt]
   unfold Rep at hx hy;obtain⟨a,xs,rfl,hq,hr⟩:=hx;obtain⟨b,ys,rfl,hq',hr'⟩:=hy;cases ru;cases rv;obtain⟨its,rx,p,_⟩:=I.tuple hq;obtain⟨its',ry,p',_⟩:=I.tuple hq';have w:=nT (A:=X.A) (e:=eAt ds ds') (show s.heap.IsTuple a its.toArray from p) (show s.heap.IsTuple b its'.toArray from p') (by omega) (λj h1 h2=>by
    have z:=ui I ds ds' xs ys its its' X.A.in1 hr hr' rx ry (by show X.A.units+1+qa ds+qa ds'<cLine;omega) j (by simpa using h1) (by simpa using h2);simpa using z)
   rw[uh (by rw[oj hr,rx.length];simp) (by rw[oj hr',ry.length];simp)]at w;unfold eqD at q;exact w X.prog X.w X.xe _ (oX I q rfl)
  |_=>exact nomatch hd
 |lst ds=>
  cases d' with
  |lst ds'=>
   have hd1:dpt (.lst ds)=qa ds+1:=by rw[dpt]
   have hd2:dpt (.lst ds')=qa ds'+1:=by rw[dpt]
   unfold Rep at hx hy;obtain⟨a,xs,rfl,hq,hr⟩:=hx;obtain⟨b,ys,rfl,hq',hr'⟩:=hy;cases ru;cases rv;obtain⟨its,rx,p,_⟩:=I.list hq;obtain⟨its',ry,p',_⟩:=I.list hq';by_cases hl:its.length=its'.length
   ·have w:=nX (A:=X.A) (e:=eAt ds ds') p.isList p'.isList (by simpa using hl) (by omega) (λj h1 h2=>by
     have z:=ui I ds ds' xs ys its its' X.A.in1 hr hr' rx ry (by show X.A.units+1+qa ds+qa ds'<cLine;omega) j (by simpa using h1) (by simpa using h2);simpa using z)
    rw[vp (by rw[oj hr,rx.length];simp) (by rw[oj hr',ry.length,<- hl];simp)]at w;unfold eqD at q;exact w X.prog X.w X.xe _ (oX I q rfl)
   ·have e:ug ds ds'=false:=Ak (by rw[oj hr,oj hr',rx.length,ry.length];exact hl);unfold eqD at q;rw[e]at q;exact mC p.isList p'.isList (by simpa using hl) (by omega) X.prog X.w X.xe _ (oX I q rfl)
  |_=>exact nomatch hd
 |_=>exact nomatch hd
end
inductive sJ:List Expr->List V->Prop
 |nil:sJ [] []
 |cons {x:Str} {j:Nat} {pos:Pos} {es:List Expr} {vs:List V} (h:sJ es vs):sJ (.Constant (.str x) j pos::es) (.str x::vs)
theorem qC{n:Nat}(h:n<=1000):n<=av:=eO (v5 h)
theorem oA.new{p:Addr}{H H1:Hp}(x:oA H H1)(hp:H1 p=none)(o:HO):oA H (upd H1 p o):=λb u e=>by have z:=x b u e;rw[oE (p9 z hp)];exact z
structure HB(K:ak)(x qual:Str)(st:Stmt)(f:Addr)(fd:bq)(T:Addr):Prop where
 ex:∃(oc:aa) (od:Option Addr) (kV doc pm:aa) (an:Option Addr) (cdv ct:aa) (osl:Array (Option aa)),
  fd=cY x qual (qM st) (oY st) (oH st) (.ref T) kV doc pm an cdv ct/\K.lookup f=some ⟨oc,od,.func fd,osl⟩/\eV K cdv qual=true
 kp:cA K (.ref f)=true
variable{qual:Str}{f T:Addr}{fd:bq}{ps:List Str}
section
variable{P:aq}{w:aj}{K:ak}{mg:Str->Option aa}{base:Heap}
theorem HB.ok{st:Stmt}{k:Nat}{sp:Sp}(F:HB K x qual st f fd T)(S:pX N ps (oH st))(len:∀vs H Q E,sp vs H Q E->vs.length=ps.length)
  (hbody:∀(cdv:aa) (A:ar) (outer:List Env) (s:ab) (H:Hp) (vs:List V) (Q:VK) (E:XK),pT k (A.deeper (envOfC qual (oH st) s.heap.objs.size f cdv))->sp vs H Q E->
   ∃t,PSs (DJ CX0 P w K mg base N qual (oH st) f cdv A outer s H E).nox (oY st) t/\t { nx:=λ_ H'=>Q .non H',rt:=Q } (L2.start N vs) H):qZ P w K mg base CX0 (k+1) f fd ps sp:=by
 obtain⟨oc,od,kV,doc,pm,an,cdv,ct,osl,rfl,lk,hcd⟩:=F.ex;refine Nd lk hcd S len λA outer s H vs Q E hr hsp=>?_;obtain⟨t,h,q⟩:=hbody cdv A outer s H vs Q E hr hsp;exact⟨t,h.nox,q⟩
end
theorem HB.binds{K:ak}{st:Stmt}{ds:List aa}{o:Obj}{items:Array aa}{n:Nat}(F:HB K x qual st f fd T)(ho:K.lookup T=some o)(hs:o.data=.seq items n)
  (h:∀(kV doc pm:aa) (an:Option Addr) (cdv ct:aa) (us:List aa),us.length=ps.length - ds.length->∃k,bindArgs (cY x qual (qM st) (oY st) (oH st) (.ref T) kV doc pm an cdv ct) ⟨us,[]⟩=seqItems? (.ref T)>>=k/\k (some items)=pure (ps.zip (us++ds))):Binds K fd ps ds:=by
 obtain⟨oc,od,kV,doc,pm,an,cdv,ct,osl,rfl,lk,hcd⟩:=F.ex;intro s us KX hl;obtain⟨k,h1,h2⟩:=h kV doc pm an cdv ct us (by rw[aM]at hl;omega);exact BindsTo.of_defaults (k:=k) rfl (KX _ _ ho) hs h1 h2
section
variable{X:Cx}(K:ak)
theorem DU(hl:PE X l tl)(hK:X.K=K:=by rfl):PI X tg l (IF K tl):=by subst hK;exact Le hl
theorem LF(hl:PE X l tl)(hK:X.K=K:=by rfl):PI X tg l (N6 K tl):=by subst hK;exact N7 hl
theorem LG{es:List Expr}{k:Nat}{t:TGs}{n:Nat}(hc:X.calm=true)(h:PGs X es t)(hn:(bJ es X.env).length=n:=by rfl)(hst:(bJ es X.env).findIdx? (·.1)=none:=by rfl)(hK:X.K=K:=by rfl):PG X (.Tuple es k pos) (N2 K n t):=by subst hK;exact N3 hc h hn hst
variable{o e:Expr}{es:List Expr}{to:TE}{t:TA}{name:Str}{apos cpos:Pos}{T id:String}{r:V->List V->Hp->VK->Prop}
theorem Jh(pa:jn T)(slot:Slot T name id)(hty:typeOf (.builtin id)=pure (.type "method_descriptor"))(hm:MtR X id r)(ho:PE X o to)(ha:PA X (e::es) t)
  (hbase:c9 o name X.env (eval o X.env)=eval o X.env:=by rfl)
  (hfew:((aT cpos (au (e::es) X.env)).all (λx=>!x.1)&&(backToKw cpos (cy [] X.env)).all (λx=>x.1.isSome)
   && decide ((e::es).length+([]:List dq).length+(if ([]:List dq).isEmpty then 0 else 1)<30))=true:=by rfl)
  (hline:(apos.endLine==cpos.line)=true:=by rfl) (hs:au (e::es) X.env=(false,eval e X.env)::au es X.env:=by rfl) (hplain:(aT cpos (au es X.env)).any (·.1)=false:=by rfl) (hK:X.K=K:=by rfl):
  PE X (.Call (.Attribute o name apos) (e::es) [] cpos) (tBM K T r to t):=by subst hK;exact Sg pa slot hty hm ho ha hbase hfew hline hs hplain
end
end L3
namespace L2
open PySem PySem.Spec PyProof.Rows
variable{a:Addr}
section
variable{X:Cx}{pins:List (Addr×Obj)}{σ:St}{H:Hp}{s:ab}
theorem tR{H:Hp}{c:Addr}{u v:HO}(e:H a=some u)(q:H c=some v)(d:u≠v)(n:HO):upd H a n c=some v:=by rw[oE (λz=>by subst z;rw[e]at q;exact d (bB q))];exact q
theorem Inv.freeze{kvs:List (Key×V)}(I:Inv X pins σ H s)(e:H a=some (.dK kvs)):∃o,Inv X pins σ (upd H a (.frz o (.dK kvs))) s:=by
 obtain⟨z,y,vs,r,ob,es,ep,e1,c⟩:=(show pD X.prog X.w H s.heap a (.dK kvs) from I.hok a _ e);refine⟨ob,?_⟩;have I':=I.step (H':=upd H a (.frz ob (.dK kvs))) (h':=s.heap) (g':=s.gens) (d':=s.drawn) (t':=s.toks) (ch:=[]) (λ_ z=>nomatch z) (λb o _ _ _ q _=>q) (λb o _ _ _ q _=>⟨o.slots,q⟩)
  (λb o _ _ n=>by rw[oE (λz=>by subst z;rw[e]at n;cases n)];exact n) (λb o _ q=>⟨o,q⟩) (λb xs q=>tR e q (λz=>nomatch z) _) (λb o u q=>tR e q (λz=>nomatch z) _)
  (λb ps q=>⟨#[],by rw[tR e q (λz=>nomatch z) _];simp⟩) (λm q=>q) ?_ I.bare
 ·obtain⟨h,g,d,t,os⟩:=s;exact I'
 ·intro b u q;have st:∀{b:Addr} {u:HO},pD X.prog X.w H s.heap b u->pD X.prog X.w (upd H a (.frz ob (.dK kvs))) s.heap b u:=λ{b u} x=>x.stay (λ_ _ _ q=>q) (λc q=>tR e q (λz=>nomatch z) _) λc xs q=>tR e q (λz=>nomatch z) _
  by_cases hb:b=a
  ·subst hb;rw[ox]at q;cases q;exact⟨e1,st (I.hok b _ e)⟩
  ·rw[oE hb]at q;exact st (I.hok b u q)
theorem PE.ghost{e:Expr}{t:TE}(h:PE X e t):PE X e (λσ H Q=>t σ H λx H1=>Q x H1\/∃a kvs,H1 a=some (.dK kvs)/\∀o,Q x (upd H1 a (.frz o (.dK kvs)))):=λpins s σ H Q I hq=>
 thn (h pins s σ H _ I hq) λu s1 ⟨x,H1,I1,r1,q1⟩=>by
  rcases q1 with q|⟨a,kvs,e,q⟩
  ·exact⟨x,H1,I1,r1,q⟩
  ·obtain⟨o,I2⟩:=I1.freeze e;exact⟨x,_,I2,r1,q o⟩
end
end L2
namespace L4
open PySem PySem.Spec PyProof.Rows L2 L3
abbrev St:=L2.St
inductive D where
 |non|bl (b:Bool)|int (i:Int)|str (x:Str)
 |tup (ds:List D)|lst (ds:List D)
 |fzl (ds:List D)
 |obj (c:Nat) (ns:List Str) (ds:List D)
 |dic (ks:List Key) (ds:List D)
structure Bg where
 K:ak
 ca:Nat->Addr
mutual
def Rep(G:Bg)(H:Hp):D->V->Prop
 |.non,v=>v=.non
 |.bl b,v=>v=.bl b
 |.int i,v=>v=.int i
 |.str x,v=>v=.str x
 |.tup ds,v=>∃a xs,v=.ref a/\SqT G.K H a xs/\og G H ds xs
 |.lst ds,v=>∃a xs,v=.ref a/\H a=some (.lst xs)/\og G H ds xs
 |.fzl ds,v=>∃a xs,v=.ref a/\SqL G.K H a xs/\og G H ds xs
 |.obj c ns ds,v=>∃a dx xs,v=.ref a/\H a=some (.ins (G.ca c) dx (ns.zip xs))/\ns.length=xs.length/\og G H ds xs
 |.dic ks ds,v=>∃a o xs,v=.ref a/\H a=some (.frz o (.dK (ks.zip xs)))/\ks.length=xs.length/\og G H ds xs
def og(G:Bg)(H:Hp):List D->List V->Prop
 |[],xs=>xs=[]
 |d::ds,xs=>∃v r,xs=v::r/\Rep G H d v/\og G H ds r
end
variable{H':Hp}{a:Addr}{xs:List V}
theorem SqT.mono{K:ak}{H:Hp}(e:oA H H')(h:SqT K H a xs):SqT K H' a xs:=by
 rcases h with (h|⟨o,h⟩)|h
 ·exact .inl (.inl (e _ _ h))
 ·exact .inl (.inr ⟨o,e _ _ h⟩)
 ·exact .inr h
mutual
theorem Rep.mono{G:Bg}{H H':Hp}(e:oA H H'):∀(d:D) (v:V),Rep G H d v->Rep G H' d v
 |.non,v,h=>by unfold Rep at h ⊢;exact h
 |.bl b,v,h=>by unfold Rep at h ⊢;exact h
 |.int i,v,h=>by unfold Rep at h ⊢;exact h
 |.str x,v,h=>by unfold Rep at h ⊢;exact h
 |.tup ds,v,h=>by unfold Rep at h ⊢;obtain⟨a,xs,rfl,h1,h2⟩:=h;exact⟨a,xs,rfl,SqT.mono e h1,og.mono e ds xs h2⟩
 |.lst ds,v,h=>by unfold Rep at h ⊢;obtain⟨a,xs,rfl,h1,h2⟩:=h;exact⟨a,xs,rfl,e _ _ h1,og.mono e ds xs h2⟩
 |.fzl ds,v,h=>by unfold Rep at h ⊢;obtain⟨a,xs,rfl,h1,h2⟩:=h;exact⟨a,xs,rfl,e.seq h1,og.mono e ds xs h2⟩
 |.obj c ns ds,v,h=>by unfold Rep at h ⊢;obtain⟨a,dx,xs,rfl,h1,h2,h3⟩:=h;exact⟨a,dx,xs,rfl,e _ _ h1,h2,og.mono e ds xs h3⟩
 |.dic ks ds,v,h=>by unfold Rep at h ⊢;obtain⟨a,o,xs,rfl,h1,h2,h3⟩:=h;exact⟨a,o,xs,rfl,e _ _ h1,h2,og.mono e ds xs h3⟩
theorem og.mono{G:Bg}{H H':Hp}(e:oA H H'):∀(ds:List D) (xs:List V),og G H ds xs->og G H' ds xs
 |[],xs,h=>by unfold og at h ⊢;exact h
 |d::ds,xs,h=>by unfold og at h ⊢;obtain⟨v,r,rfl,h1,h2⟩:=h;exact⟨v,r,rfl,Rep.mono e d v h1,og.mono e ds r h2⟩
end
variable{d:D}{ds:List D}
section
variable{G:Bg}{H:Hp}
theorem oV:og G H [] []:=by unfold og;rfl
theorem oZ{v:V}(h:Rep G H d v)(r:og G H ds xs):og G H (d::ds) (v::xs):=by unfold og;exact⟨v,xs,rfl,h,r⟩
theorem oj:∀{ds:List D} {xs:List V},og G H ds xs->ds.length=xs.length
 |[],xs,h=>by unfold og at h;subst h;rfl
 |d::ds,xs,h=>by unfold og at h;obtain⟨v,r,rfl,_,h2⟩:=h;rw[aI,aI,oj h2]
theorem pU:∀{ds es:List D} {xs ys:List V},og G H ds xs->og G H es ys->og G H (ds++es) (xs++ys)
 |[],es,xs,ys,h,h'=>by unfold og at h;subst h;exact h'
 |d::ds,es,xs,ys,h,h'=>by unfold og at h;obtain⟨v,r,rfl,h1,h2⟩:=h;exact oZ h1 (pU h2 h')
theorem rh:∀{ds:List D} {xs:List V} {i:Nat} {d:D},og G H ds xs->ds[i]?=some d->∃v,xs[i]?=some v/\Rep G H d v
 |[],xs,i,d,h,e=>by simp at e
 |d'::ds,xs,i,d,h,e=>by
  unfold og at h;obtain⟨v,r,rfl,h1,h2⟩:=h;cases i with
  |zero=>simp at e;subst e;exact⟨v,rfl,h1⟩
  |succ i=>simpa using rh (i:=i) (d:=d) h2 (by simpa using e)
theorem DV:∀{ds:List D} {xs:List V} (i:Nat) {d:D} {v:V},og G H ds xs->Rep G H d v->og G H (ds.set i d) (xs.set i v)
 |[],xs,i,d,v,h,e=>by unfold og at h;subst h;exact oV
 |d'::ds,xs,i,d,v,h,e=>by
  unfold og at h;obtain⟨v',r,rfl,h1,h2⟩:=h;cases i with
  |zero=>exact oZ e h2
  |succ i=>exact oZ h1 (DV i h2 e)
theorem BO:∀{ds:List D} {xs:List V} (n:Nat),og G H ds xs->og G H (ds.drop n) (xs.drop n)
 |ds,xs,0,h=>h
 |[],xs,n+1,h=>by unfold og at h;subst h;exact oV
 |d::ds,xs,n+1,h=>by unfold og at h;obtain⟨v,r,rfl,h1,h2⟩:=h;exact BO n h2
theorem BP:∀{ds:List D} {xs:List V} (n:Nat),og G H ds xs->og G H (ds.take n) (xs.take n)
 |ds,xs,0,h=>oV
 |[],xs,n+1,h=>by unfold og at h;subst h;exact oV
 |d::ds,xs,n+1,h=>by unfold og at h;obtain⟨v,r,rfl,h1,h2⟩:=h;exact oZ h1 (BP n h2)
theorem zW(h:SqT G.K H a xs)(r:og G H ds xs):Rep G H (.tup ds) (.ref a):=by unfold Rep;exact⟨a,xs,rfl,h,r⟩
theorem uj(h:H a=some (.lst xs))(r:og G H ds xs):Rep G H (.lst ds) (.ref a):=by unfold Rep;exact⟨a,xs,rfl,h,r⟩
theorem pY(i:Int):Rep G H (.int i) (.int i):=by unfold Rep;rfl
theorem pZ(i:Bool):Rep G H (.bl i) (.bl i):=by unfold Rep;rfl
theorem rR(i:Str):Rep G H (.str i) (.str i):=by unfold Rep;rfl
theorem sL:Rep G H .non .non:=by unfold Rep;rfl
end
inductive Sl where
 |un
 |im (d:D)
 |ls (ds:List D)
 |pm (ds:List D)
 |dk (ks:List Key) (ds:List D)
 |ob (c:Nat) (ns:List Str) (ds:List D)
def Sl.own:Sl->Bool
 |.ls _=>true
 |.pm _=>true
 |.dk _ _=>true
 |.ob _ _ _=>true
 |_=>false
structure Fr where
 B0:Hp
 B:Hp
 A:List Addr
def Br(G:Bg)(F:Fr)(H0 H:Hp)(o:Option V):Sl->Prop
 |.un=>True
 |.im d=>∃v,o=some v/\Rep G H0 d v
 |.ls ds=>∃a xs,o=some (.ref a)/\H a=some (.lst xs)/\H0 a=none/\F.B a=none/\og G H0 ds xs
 |.pm ds=>∃a xs,o=some (.ref a)/\H a=some (.lst xs)/\H0 a=none/\a∈F.A/\og G H0 ds xs
 |.dk ks ds=>∃a xs,o=some (.ref a)/\H a=some (.dK (ks.zip xs))/\H0 a=none/\F.B a=none/\ks.length=xs.length/\og G H0 ds xs
 |.ob c ns ds=>∃a dx xs,o=some (.ref a)/\H a=some (.ins (G.ca c) dx (ns.zip xs))/\H0 a=none/\a∈F.A/\ns.length=xs.length/\og G H0 ds xs
structure oK(G:Bg)(F:Fr)(σ:St)(ρ:List Sl)(H0 H:Hp):Prop where
 sub:oA H0 H
 g0:oA F.B0 H0
 keep:∀b o,F.B b=some o->b∉F.A->H b=some o
 fr:∀b o,H0 b=some o->F.B0 b=some o\/F.B b=none
 am:∀a∈F.A,∃o,H a=some o
 len:σ.length=ρ.length
 sl:∀(i:Nat) (s:Sl),ρ[i]?=some s->Br G F H0 H (σ[i]?).join s
 ap:∀(i j:Nat) (s t:Sl) (a:Addr),i≠j->ρ[i]?=some s->ρ[j]?=some t->s.own=true->t.own=true->(σ[i]?).join=some (.ref a)->(σ[j]?).join=some (.ref a)->False
variable{G:Bg}{F:Fr}{H0:Hp}
theorem Br.at{H:Hp}{o:Option V}{s:Sl}(h:Br G F H0 H o s)(e:s.own=true):∃a u,o=some (.ref a)/\H a=some u/\H0 a=none/\(F.B a=none\/a∈F.A):=by
 cases s with
 |un=>cases e
 |im d=>cases e
 |ls ds=>obtain⟨a,xs,h1,h2,h3,h4,_⟩:=h;exact⟨a,_,h1,h2,h3,.inl h4⟩
 |pm ds=>obtain⟨a,xs,h1,h2,h3,h4,_⟩:=h;exact⟨a,_,h1,h2,h3,.inr h4⟩
 |dk ks ds=>obtain⟨a,xs,h1,h2,h3,h4,_⟩:=h;exact⟨a,_,h1,h2,h3,.inl h4⟩
 |ob c ns ds=>obtain⟨a,dx,xs,h1,h2,h3,h4,_⟩:=h;exact⟨a,_,h1,h2,h3,.inr h4⟩
variable{H0':Hp}
theorem Br.grow{H:Hp}{o:Option V}{s:Sl}(h:Br G F H0 H o s)(h0:oA H0 H0')(hk:∀a u,o=some (.ref a)->s.own=true->H a=some u->H' a=some u)
  (hn:∀a u,o=some (.ref a)->s.own=true->H a=some u->H0 a=none->H0' a=none):Br G F H0' H' o s:=by
 cases s with
 |un=>trivial
 |im d=>obtain⟨v,h1,h2⟩:=h;exact⟨v,h1,Rep.mono h0 _ _ h2⟩
 |ls ds=>obtain⟨a,xs,h1,h2,h3,h4,h5⟩:=h;exact⟨a,xs,h1,hk _ _ h1 rfl h2,hn _ _ h1 rfl h2 h3,h4,og.mono h0 _ _ h5⟩
 |pm ds=>obtain⟨a,xs,h1,h2,h3,h4,h5⟩:=h;exact⟨a,xs,h1,hk _ _ h1 rfl h2,hn _ _ h1 rfl h2 h3,h4,og.mono h0 _ _ h5⟩
 |dk ks ds=>obtain⟨a,xs,h1,h2,h3,h4,h5,h6⟩:=h;exact⟨a,xs,h1,hk _ _ h1 rfl h2,hn _ _ h1 rfl h2 h3,h4,h5,og.mono h0 _ _ h6⟩
 |ob c ns ds=>obtain⟨a,dx,xs,h1,h2,h3,h4,h5,h6⟩:=h;exact⟨a,dx,xs,h1,hk _ _ h1 rfl h2,hn _ _ h1 rfl h2 h3,h4,h5,og.mono h0 _ _ h6⟩
variable{i j:Nat}
section
variable{G:Bg}{F:Fr}{σ:St}{ρ:List Sl}{H0 H H0' H':Hp}
theorem oK.bNone(R:oK G F σ ρ H0 H){b:Addr}(h:H b=none):F.B b=none:=by
 cases e:F.B b with
 |none=>rfl
 |some o=>
  by_cases ha:b∈F.A
  ·obtain⟨xs,q⟩:=R.am b ha;rw[q]at h;cases h
  ·have q:=R.keep b o e ha;rw[q]at h;cases h
theorem oK.grow(R:oK G F σ ρ H0 H)(hs:oA H H')(h0:oA H0 H0')(sub':oA H0' H')(hf:∀b o,H0' b=some o->H0 b=some o\/H b=none):oK G F σ ρ H0' H' where
 sub:=sub'
 g0:=R.g0.trans h0
 keep:=λb o e n=>hs _ _ (R.keep b o e n)
 fr:=λb o e=>by
  rcases hf b o e with q|q
  ·exact R.fr b o q
  ·exact .inr (R.bNone q)
 am:=λa ha=>let ⟨xs,q⟩:=R.am a ha;⟨xs,hs _ _ q⟩
 len:=R.len
 sl:=λi s e=>(R.sl i s e).grow h0 (λa u _ _ q=>hs _ _ q) λa u _ _ q q0=>by
  cases z:H0' a with
  |none=>rfl
  |some o=>
   rcases hf a o z with y|y
   ·rw[y]at q0;cases q0
   ·rw[y]at q;cases q
 ap:=R.ap
theorem oO{H:Hp}{p:Addr}(hp:H p=none)(o:HO):oA H (upd H p o):=oA.new (oA.refl H) hp o
theorem oK.h0none(R:oK G F σ ρ H0 H){p:Addr}(hp:H p=none):H0 p=none:=by
 cases e:H0 p with
 |none=>rfl
 |some o=>have:=R.sub _ _ e;rw[this]at hp;cases hp
theorem Ji{H0 H:Hp}(s:oA H0 H)(p:Addr)(o:HO):oA (upd H0 p o) (upd H p o):=λb u e=>by
 by_cases hb:b=p
 ·subst hb;rw[ox]at e ⊢;exact e
 ·rw[oE hb]at e ⊢;exact s _ _ e
theorem oK.newIm(R:oK G F σ ρ H0 H){p:Addr}(hp:H p=none)(o:HO):oK G F σ ρ (upd H0 p o) (upd H p o):=
 R.grow (oO hp o) (oO (R.h0none hp) o) (Ji R.sub p o) λb u e=>by
  by_cases hb:b=p
  ·subst hb;exact .inr hp
  ·rw[oE hb]at e;exact .inl e
theorem oK.newOwn(R:oK G F σ ρ H0 H){p:Addr}(hp:H p=none)(o:HO):oK G F σ ρ H0 (upd H p o):=
 R.grow (oO hp o) (oA.refl _) (λb u e=>by rw[oE (p9 (R.sub _ _ e) hp)];exact R.sub _ _ e) λb u e=>.inl e
def Apart(σ:St)(ρ:List Sl)(p:Addr):Prop:=∀(i:Nat) (s:Sl),ρ[i]?=some s->s.own=true->(σ[i]?).join≠some (.ref p)
theorem oK.apart(R:oK G F σ ρ H0 H){p:Addr}(hp:H p=none):Apart σ ρ p:=λi s e so z=>by obtain⟨a,u,h1,h2,_⟩:=(R.sl i s e).at so;rw[z]at h1;cases h1;rw[hp]at h2;cases h2
theorem oK.freeze(R:oK G F σ ρ H0 H){p:Addr}{o:HO}(hp:H p=some o)(h0:H0 p=none)(hb:F.B p=none)(ap:Apart σ ρ p):oK G F σ ρ (upd H0 p o) H where
 sub:=λb u e=>by
  by_cases hb:b=p
  ·subst hb;rw[ox]at e;cases e;exact hp
  ·rw[oE hb]at e;exact R.sub _ _ e
 g0:=R.g0.trans (oO h0 o)
 keep:=R.keep
 fr:=λb u e=>by
  by_cases hb':b=p
  ·subst hb';exact .inr hb
  ·rw[oE hb']at e;exact R.fr _ _ e
 am:=R.am
 len:=R.len
 sl:=λi s e=>(R.sl i s e).grow (oO h0 o) (λa u _ _ q=>q) λa u z so q q0=>by rw[oE (λy=>ap i s e so (by rw[z,y]))];exact q0
 ap:=R.ap
theorem DW{σ:St}{v:Option V}(hi:i<σ.length):((σ.set i v)[j]?).join=if j=i then v else (σ[j]?).join:=by
 rw[br];by_cases h:i=j
 ·subst h;simp[hi]
 ·rw[ag h,ag (λz=>h z.symm)]
theorem oK.set(R:oK G F σ ρ H0 H){v:V}{s:Sl}(hs:Br G F H0 H (some v) s)(ap:s.own=true->∀a,v=.ref a->∀(j:Nat) (t:Sl),j≠i->ρ[j]?=some t->t.own=true->(σ[j]?).join≠some (.ref a)):
  oK G F (σ.set i (some v)) (ρ.set i s) H0 H where
 sub:=R.sub
 g0:=R.g0
 keep:=R.keep
 fr:=R.fr
 am:=R.am
 len:=by rw[cQ,cQ,R.len]
 sl:=λj t e=>by
  rw[br]at e;by_cases h:i=j
  ·subst h;rw[ah rfl]at e;split at e
   ·rename_i hi;cases e;rw[DW (by rw[R.len];exact hi),ah rfl];exact hs
   ·cases e
  ·rw[ag h]at e;have hh:=R.sl j t e;rw[br,ag h];exact hh
 ap:=λj k t u a hjk ej ek tj tk vj vk=>by
  have gen:∀{m:Nat} {x:Sl},(ρ.set i s)[m]?=some x->m≠i->ρ[m]?=some x/\((σ.set i (some v))[m]?).join=(σ[m]?).join:=λ{m x} e hm=>by rw[br,ag (λz=>hm z.symm)]at e;exact⟨e,by rw[br,ag (λz=>hm z.symm)]⟩
  have self:∀{x:Sl},(ρ.set i s)[i]?=some x->x=s/\((σ.set i (some v))[i]?).join=some v:=λ{x} e=>by
   rw[br,ah rfl]at e;split at e
   ·rename_i hi;cases e;exact⟨rfl,by rw[DW (by rw[R.len];exact hi),ah rfl]⟩
   ·cases e
  by_cases hj:j=i
  ·subst hj;obtain⟨rfl,ev⟩:=self ej;rw[ev]at vj;cases vj;obtain⟨e2,e3⟩:=gen ek (λz=>hjk z.symm);rw[e3]at vk;exact ap tj a rfl k u (λz=>hjk z.symm) e2 tk vk
  ·obtain⟨e2,e3⟩:=gen ej hj;by_cases hk:k=i
   ·subst hk;obtain⟨rfl,ev⟩:=self ek;rw[ev]at vk;cases vk;rw[e3]at vj;exact ap tk a rfl j t hj e2 tj vj
   ·obtain⟨e4,e5⟩:=gen ek hk;rw[e3]at vj;rw[e5]at vk;exact R.ap j k t u a hjk e2 e4 tj tk vj vk
theorem oK.setIm(R:oK G F σ ρ H0 H)(i:Nat){v:V}(h:Rep G H0 d v):oK G F (σ.set i (some v)) (ρ.set i (.im d)) H0 H:=R.set ⟨v,rfl,h⟩ λz=>by cases z
theorem oK.setLs(R:oK G F σ ρ H0 H)(i:Nat){p:Addr}(hp:H p=some (.lst xs))(h0:H0 p=none)(hb:F.B p=none)(ap:Apart σ ρ p)(h:og G H0 ds xs):oK G F (σ.set i (some (.ref p))) (ρ.set i (.ls ds)) H0 H:=
 R.set ⟨p,xs,rfl,hp,h0,hb,h⟩ λ_ a e j t _ ej tj=>by cases e;exact ap j t ej tj
theorem oK.mut(R:oK G F σ ρ H0 H){s s':Sl}{o:HO}(hi:ρ[i]?=some s)(so:s.own=true)(ha:(σ[i]?).join=some (.ref a))(ok:∀H',H' a=some o->Br G F H0 H' (some (.ref a)) s')
  (so':s'.own=true):oK G F σ (ρ.set i s') H0 (upd H a o):=by
 obtain⟨a',u,e1,e2,e3,e4⟩:=(R.sl i s hi).at so;rw[ha]at e1;cases e1;exact {
  sub:=λb w e=>by rw[oE (λz=>by rw[z,e3]at e;cases e)];exact R.sub _ _ e
  g0:=R.g0
  keep:=λb w e n=>by
   have nb:b≠a:=λz=>by
    subst z;rcases e4 with q|q
    ·rw[q]at e;cases e
    ·exact n q
   rw[oE nb];exact R.keep b w e n
  fr:=R.fr
  am:=λb hb=>by
   by_cases z:b=a
   ·subst z;exact⟨o,ox⟩
   ·rw[oE z];exact R.am b hb
  len:=by rw[cQ];exact R.len
  sl:=λj t e=>by
   rw[br]at e;by_cases h:i=j
   ·subst h;rw[ah rfl]at e;split at e
    ·cases e;rw[ha];exact ok _ ox
    ·cases e
   ·rw[ag h]at e;refine(R.sl j t e).grow (oA.refl _) (λb w z to q=>?_) λb w _ _ _ q=>q;rw[oE (λy=>by subst y;exact R.ap j i t s b (λy=>h y.symm) e hi to so z ha)];exact q
  ap:=λj k t u b hjk ej ek tj tk vj vk=>by
   have gen:∀{m:Nat} {x:Sl},(ρ.set i s')[m]?=some x->∃y,ρ[m]?=some y/\(x.own=true->y.own=true):=λ{m x} e=>by
    rw[br]at e;by_cases h:i=m
    ·subst h;exact⟨s,hi,λ_=>so⟩
    ·rw[ag h]at e;exact⟨x,e,λq=>q⟩
   obtain⟨y,ey,oy⟩:=gen ej;obtain⟨z,ez,oz⟩:=gen ek;exact R.ap j k y z b hjk ey ez (oy tj) (oz tk) vj vk }
end
abbrev FE:=List Sl->Option (D×List Sl)
abbrev FT:=List Sl->Option (Bool×List Sl)
abbrev FA:=List Sl->Option (List D×List Sl)
def tF(G:Bg)(f:FE):TE:=λσ H Q=>∃F ρ H0 d ρ',oK G F σ ρ H0 H/\f ρ=some (d,ρ')/\∀v H0' H',oA H0 H0'->oK G F σ ρ' H0' H'->Rep G H0' d v->Q v H'
def tFT(G:Bg)(f:FT):TT:=λσ H Q=>∃F ρ H0 d ρ',oK G F σ ρ H0 H/\f ρ=some (d,ρ')/\∀H0' H',oA H0 H0'->oK G F σ ρ' H0' H'->Q d H'
def tFA(G:Bg)(f:FA):TA:=λσ H Q=>∃F ρ H0 ds ρ',oK G F σ ρ H0 H/\f ρ=some (ds,ρ')/\∀xs H0' H',oA H0 H0'->oK G F σ ρ' H0' H'->og G H0' ds xs->Q xs H'
def tFN(G:Bg)(f:FA):TE:=λσ H Q=>∃F ρ H0 ds ρ',oK G F σ ρ H0 H/\f ρ=some (ds,ρ')/\∀p xs H0' H',oA H0 H0'->oK G F σ ρ' H0' H'->H' p=some (.lst xs)->H0' p=none->F.B p=none->Apart σ ρ' p->og G H0' ds xs->Q (.ref p) H'
variable{X:Cx}{e:Expr}
theorem PE.weak{t t':TE}(h:PE X e t)(w:∀σ H Q,t' σ H Q->t σ H Q):PE X e t':=λpins s σ H Q I hq=>h pins s σ H Q I (w _ _ _ hq)
theorem PT.weak{t t':TT}(h:PT X e t)(w:∀σ H Q,t' σ H Q->t σ H Q):PT X e t':=λpins s σ H Q I hq=>h pins s σ H Q I (w _ _ _ hq)
theorem PW.weak{t t':TT}(h:PW X e t)(w:∀σ H Q,t' σ H Q->t σ H Q):PW X e t':=λwh pins s σ H Q I hq=>h wh pins s σ H Q I (w _ _ _ hq)
theorem PA.weak{e:List Expr}{t t':TA}(h:PA X e t)(w:∀σ H Q,t' σ H Q->t σ H Q):PA X e t':=λpos pins s σ H Q I hq=>h pos pins s σ H Q I (w _ _ _ hq)
noncomputable def cC(d:D):FE:=λρ=>some (d,ρ)
noncomputable def cV(i:Nat):FE:=λρ=>match ρ[i]? with
 |some (.im d)=>some (d,ρ)
 |_=>none
noncomputable def c1(g:D->Option D) (f:FE):FE:=λρ=>match f ρ with
 |some (d,ρ')=>match g d with
  |some x=>some (x,ρ')
  |none=>none
 |none=>none
noncomputable def c2(g:D->D->Option D) (f f':FE):FE:=λρ=>match f ρ with
 |some (x,ρ1)=>match f' ρ1 with
  |some (y,ρ2)=>match g x y with
   |some z=>some (z,ρ2)
   |none=>none
  |none=>none
 |none=>none
variable{f:FE}{ρ ρ':List Sl}{z:D}
theorem xw{g:D->Option D}(h:c1 g f ρ=some (z,ρ')):∃d,f ρ=some (d,ρ')/\g d=some z:=by
 unfold c1 at h;cases e:f ρ with
 |none=>rw[e]at h;cases h
 |some p=>
  obtain⟨d,ρ1⟩:=p;rw[e]at h;cases e2:g d with
  |none=>simp only[e2]at h;cases h
  |some x=>simp only[e2]at h;cases h;exact⟨d,rfl,e2⟩
variable{f':FE}
theorem v7{g:D->D->Option D}(h:c2 g f f' ρ=some (z,ρ')):∃x y ρ1,f ρ=some (x,ρ1)/\f' ρ1=some (y,ρ')/\g x y=some z:=by
 unfold c2 at h;cases e:f ρ with
 |none=>rw[e]at h;cases h
 |some p=>
  obtain⟨x,ρ1⟩:=p;simp only[e]at h;cases e2:f' ρ1 with
  |none=>simp only[e2]at h;cases h
  |some q=>
   obtain⟨y,ρ2⟩:=q;simp only[e2]at h;cases e3:g x y with
   |none=>simp only[e3]at h;cases h
   |some w=>simp only[e3]at h;cases h;exact⟨x,y,ρ1,rfl,e2,e3⟩
variable{b:Expr}{pos:Pos}{op:dU}
section
variable{X:Cx}{G:Bg}
theorem OC{i j pos}:PE X (.Constant (.int i) j pos) (tF G (cC (.int i))):=PE.weak ES λσ H Q h=>by obtain⟨F,ρ,H0,d,ρ',R,e,k⟩:=h;cases e;exact k _ _ _ (oA.refl _) R (pY i)
theorem Sm{i j pos}:PE X (.Constant (.bool i) j pos) (tF G (cC (.bl i))):=PE.weak RD λσ H Q h=>by obtain⟨F,ρ,H0,d,ρ',R,e,k⟩:=h;cases e;exact k _ _ _ (oA.refl _) R (pZ i)
theorem OD{i j pos}:PE X (.Constant (.str i) j pos) (tF G (cC (.str i))):=PE.weak NT λσ H Q h=>by obtain⟨F,ρ,H0,d,ρ',R,e,k⟩:=h;cases e;exact k _ _ _ (oA.refl _) R (rR i)
theorem OE{j pos}:PE X (.Constant .none j pos) (tF G (cC .non)):=PE.weak NS λσ H Q h=>by obtain⟨F,ρ,H0,d,ρ',R,e,k⟩:=h;cases e;exact k _ _ _ (oA.refl _) R sL
theorem LH(h:cV i ρ=some (d,ρ')):ρ[i]?=some (.im d)/\ρ'=ρ:=by
 unfold cV at h;split at h
 ·rename_i e;cases h;exact⟨e,rfl⟩
 ·cases h
theorem qO{α:Type}{o:Option (Option α)}{v:α}(h:o.join=some v):o=some (some v):=by
 cases o with
 |none=>cases h
 |some u=>cases u with
  |none=>cases h
  |some w=>cases h;rfl
theorem E9(h:PE X e (vm i)):PE X e (tF G (cV i)):=PE.weak h λσ H Q hh=>by obtain⟨F,ρ,H0,d,ρ',R,e,k⟩:=hh;obtain⟨e1,rfl⟩:=LH e;obtain⟨v,e2,e3⟩:=R.sl i _ e1;exact⟨v,qO e2,k _ _ _ (oA.refl _) R e3⟩
theorem LI{v:V}(h:PE X e (tC v))(r:∀H,Rep G H d v):PE X e (tF G (cC d)):=PE.weak h λσ H Q hh=>by obtain⟨F,ρ,H0,d',ρ',R,e,k⟩:=hh;cases e;exact k _ _ _ (oA.refl _) R (r _)
def OpD(G:Bg)(r:R2)(g:D->D->Option D):Prop:=∀x y z H0 H v u (Q:VK),g x y=some z->oA H0 H->Rep G H0 x v->Rep G H0 y u->(∀w,(∀H0',oA H0 H0'->Rep G H0' z w)->Q w H)->r v u H Q
theorem F9{r:R2}{g:D->D->Option D}(ho:OpD G r g):∀σ H Q,tF G (c2 g f f') σ H Q->tOp r (tF G f) (tF G f') σ H Q:=λσ H Q hh=>by obtain⟨F,ρ,H0,d,ρ',R,e,k⟩:=hh;obtain⟨x,y,ρ1,e1,e2,e3⟩:=v7 e;refine⟨F,ρ,H0,x,ρ1,R,e1,λv H1 H1' s1 R1 r1=>⟨F,ρ1,H1,y,ρ',R1,e2,λu H2 H2' s2 R2 r2=>?_⟩⟩;exact ho x y d H2 H2' v u Q e3 R2.sub (Rep.mono s2 _ _ r1) r2 λw hw=>k w H2 H2' (s1.trans s2) R2 (hw _ (oA.refl _))
theorem Sn{a:Expr}{op:gQ}{r:R2}{g:D->D->Option D}(hr:OpR X (bP op) r)(ho:OpD G r g)(ha:PE X a (tF G f))(hb:PE X b (tF G f')):PE X (.BinOp a op b pos) (tF G (c2 g f f')):=PE.weak (IH hr ha hb) (F9 ho)
theorem OF{a:Expr}{r:R2}{g:D->D->Option D}(hr:OpR X (aO op) r)(ho:OpD G r g)(ha:PE X a (tF G f))(hb:PE X b (tF G f'))(hm:dJ op b=false):PE X (.Compare a [op] [b] pos) (tF G (c2 g f f')):=PE.weak (Lj hr ha hb hm) (F9 ho)
theorem So{a:Expr}{r:R2}{g:D->D->Option D}(hr:IxR X r)(ho:OpD G r g)(ha:PE X a (tF G f))(hb:PE X b (tF G f'))(hs:F7 b):PE X (.Subscript a b pos) (tF G (c2 g f f')):=PE.weak (Sa hr ha hb hs) (F9 ho)
def cT(f:FE):FT:=λρ=>match f ρ with
 |some (.bl b,ρ')=>some (b,ρ')
 |_=>none
theorem Ga{b:Bool}(h:cT f ρ=some (b,ρ')):f ρ=some (.bl b,ρ'):=by
 unfold cT at h;split at h
 ·rename_i e;cases h;exact e
 ·cases h
theorem Gb:∀σ H Q,tFT G (cT f) σ H Q->IK (tF G f) σ H Q:=λσ H Q hh=>by obtain⟨F,ρ,H0,d,ρ',R,e,k⟩:=hh;refine⟨F,ρ,H0,_,ρ',R,Ga e,λv H0' H' s R' r=>?_⟩;unfold Rep at r;exact⟨d,r,k _ _ s R'⟩
theorem LJ{a:Expr}{r:R2}{g:D->D->Option D}(hr:OpR X (aO op) r)(ho:OpD G r g)(ha:PE X a (tF G f))(hb:PE X b (tF G f'))(hm:dJ op b=false):
  PT X (.Compare a [op] [b] pos) (tFT G (cT (c2 g f f'))):=PT.weak (Lk hr ha hb hm) λσ H Q hh=>by
 obtain⟨F,ρ,H0,d,ρ',R,e,k⟩:=Gb σ H Q hh;exact F9 ho σ H _ ⟨F,ρ,H0,d,ρ',R,e,k⟩
theorem LK(h:PE X e (tF G f))(he:∀whole,isTrue e X.env whole=(do let v<-whole;standAt e.pos;holding [v] (truthy v)):=by intro _;rfl):PT X e (tFT G (cT f)):=PT.weak (NU h he) λσ H Q hh=>by obtain⟨F,ρ,H0,d,ρ',R,e,k⟩:=hh;refine⟨F,ρ,H0,_,ρ',R,Ga e,λv H0' H' s R' r=>?_⟩;unfold Rep at r;exact⟨d,r,k _ _ s R'⟩
def pN(f:FT):FT:=λρ=>match f ρ with
 |some (b,ρ')=>some (!b,ρ')
 |none=>none
def sM(f g:FT):FT:=λρ=>match f ρ with
 |some (true,ρ')=>g ρ'
 |r=>r
def rH(f g:FT):FT:=λρ=>match f ρ with
 |some (false,ρ')=>g ρ'
 |r=>r
theorem LL{a:Expr}{f:FT}(h:PT X a (tFT G f)):PT X (.UnaryOp .Not a pos) (tFT G (pN f)):=PT.weak (NX h) λσ H Q hh=>by
 obtain⟨F,ρ,H0,d,ρ',R,e,k⟩:=hh;unfold pN at e;cases e1:f ρ with
 |none=>simp only[e1]at e;cases e
 |some p=>obtain⟨b,ρ1⟩:=p;simp only[e1]at e;cases e;exact⟨F,ρ,H0,b,_,R,e1,λH0' H' s R'=>k _ _ s R'⟩
theorem OG{f g:FT}:∀σ H Q,tFT G (sM f g) σ H Q->RE (tFT G f) (tFT G g) σ H Q:=λσ H Q hh=>by
 obtain⟨F,ρ,H0,d,ρ',R,e,k⟩:=hh;unfold sM at e;cases e1:f ρ with
 |none=>simp only[e1]at e;cases e
 |some p=>
  obtain⟨b,ρ1⟩:=p;cases b with
  |true=>simp only[e1]at e;exact⟨F,ρ,H0,true,ρ1,R,e1,λH0' H' s R'=>Dc ⟨F,ρ1,H0',d,ρ',R',e,λH2 H2' s2 R2=>k _ _ (s.trans s2) R2⟩⟩
  |false=>simp only[e1]at e;cases e;exact⟨F,ρ,H0,false,_,R,e1,λH0' H' s R'=>Da (k _ _ s R')⟩
theorem Sq{f g:FT}:∀σ H Q,tFT G (rH f g) σ H Q->tOr (tFT G f) (tFT G g) σ H Q:=λσ H Q hh=>by
 obtain⟨F,ρ,H0,d,ρ',R,e,k⟩:=hh;unfold rH at e;cases e1:f ρ with
 |none=>simp only[e1]at e;cases e
 |some p=>
  obtain⟨b,ρ1⟩:=p;cases b with
  |false=>simp only[e1]at e;exact⟨F,ρ,H0,false,ρ1,R,e1,λH0' H' s R'=>Da ⟨F,ρ1,H0',d,ρ',R',e,λH2 H2' s2 R2=>k _ _ (s.trans s2) R2⟩⟩
  |true=>simp only[e1]at e;cases e;exact⟨F,ρ,H0,true,_,R,e1,λH0' H' s R'=>Dc (k _ _ s R')⟩
theorem Jj{a:Expr}{f:FT}(h:PT X a (tFT G f)):PW X (.BoolOp .And [a] pos) (tFT G f):=Lb h
theorem LM{a:Expr}{f:FT}(h:PT X a (tFT G f)):PW X (.BoolOp .Or [a] pos) (tFT G f):=NV h
theorem LN{a:Expr}{rest:List Expr}{f g:FT}(ha:PT X a (tFT G f))(hb:PW X (.BoolOp .And (b::rest) pos) (tFT G g)):PW X (.BoolOp .And (a::b::rest) pos) (tFT G (sM f g)):=PW.weak (NW ha hb) OG
theorem Jk{a:Expr}{rest:List Expr}{f g:FT}(ha:PT X a (tFT G f))(hb:PW X (.BoolOp .Or (b::rest) pos) (tFT G g)):PW X (.BoolOp .Or (a::b::rest) pos) (tFT G (rH f g)):=PW.weak (RF ha hb) Sq
def ph(f g:FE):FE:=λρ=>match f ρ with
 |some (.bl true,ρ')=>g ρ'
 |some (.bl false,ρ')=>some (.bl false,ρ')
 |_=>none
def cOr(f g:FE):FE:=λρ=>match f ρ with
 |some (.bl false,ρ')=>g ρ'
 |some (.bl true,ρ')=>some (.bl true,ρ')
 |_=>none
def DX(f:FE):FE:=λρ=>match f ρ with
 |some (.bl b,ρ')=>some (.bl !b,ρ')
 |_=>none
def cIf(c:FT)(f g:FE):FE:=λρ=>match c ρ with
 |some (true,ρ')=>f ρ'
 |some (false,ρ')=>g ρ'
 |none=>none
theorem OH{a:Expr}{op}(h:PE X a (tF G f)):PE X (.BoolOp op [a] pos) (tF G f):=NY h
theorem DY:(∃ρ1,f ρ=some (.bl true,ρ1))\/(∃ρ1,f ρ=some (.bl false,ρ1))\/(∀b ρ1,f ρ≠some (.bl b,ρ1)):=by
 by_cases h1:∃ρ1,f ρ=some (.bl true,ρ1)
 ·exact .inl h1
 by_cases h2:∃ρ1,f ρ=some (.bl false,ρ1)
 ·exact .inr (.inl h2)
 refine .inr (.inr λb ρ1 z=>?_);cases b with
 |true=>exact h1 ⟨ρ1,z⟩
 |false=>exact h2 ⟨ρ1,z⟩
theorem HC{g:FE}(h:∀b ρ1,f ρ≠some (.bl b,ρ1)):ph f g ρ=none:=by
 unfold ph;split
 ·rename_i e;exact ai e (h _ _)
 ·rename_i e;exact ai e (h _ _)
 ·rfl
theorem Jl{g:FE}(h:∀b ρ1,f ρ≠some (.bl b,ρ1)):cOr f g ρ=none:=by
 unfold cOr;split
 ·rename_i e;exact ai e (h _ _)
 ·rename_i e;exact ai e (h _ _)
 ·rfl
theorem OI{a:Expr}{rest:List Expr}{g:FE}(ha:PE X a (tF G f))(hb:PE X (.BoolOp .And (b::rest) pos) (tF G g)):PE X (.BoolOp .And (a::b::rest) pos) (tF G (ph f g)):=PE.weak (NZ ha hb) λσ H Q hh=>by
 obtain⟨F,ρ,H0,d,ρ',R,e,k⟩:=hh;rcases DY (f:=f) (ρ:=ρ)with ⟨ρ1,e1⟩|⟨ρ1,e1⟩|e1
 ·have e':g ρ1=some (d,ρ'):=by unfold ph at e;simp only[e1]at e;exact e
  refine⟨F,ρ,H0,_,ρ1,R,e1,λv H1 H1' s R' r=>?_⟩;unfold Rep at r;refine⟨true,r,?_⟩;exact Dc ⟨F,ρ1,H1,d,ρ',R',e',λv H2 H2' s2 R2 r2=>k _ _ _ (s.trans s2) R2 r2⟩
 ·have e':some (D.bl false,ρ1)=some (d,ρ'):=by unfold ph at e;simp only[e1]at e;exact e
  cases e';refine⟨F,ρ,H0,_,_,R,e1,λv H1 H1' s R' r=>?_⟩;have r':=r;unfold Rep at r';refine⟨false,r',?_⟩;exact Da (k _ _ _ s R' (pZ false))
 ·rw[HC e1]at e;cases e
theorem Sr{a:Expr}{rest:List Expr}{g:FE}(ha:PE X a (tF G f))(hb:PE X (.BoolOp .Or (b::rest) pos) (tF G g)):PE X (.BoolOp .Or (a::b::rest) pos) (tF G (cOr f g)):=PE.weak (RI ha hb) λσ H Q hh=>by
 obtain⟨F,ρ,H0,d,ρ',R,e,k⟩:=hh;rcases DY (f:=f) (ρ:=ρ)with ⟨ρ1,e1⟩|⟨ρ1,e1⟩|e1
 ·have e':some (D.bl true,ρ1)=some (d,ρ'):=by unfold cOr at e;simp only[e1]at e;exact e
  cases e';refine⟨F,ρ,H0,_,_,R,e1,λv H1 H1' s R' r=>?_⟩;unfold Rep at r;refine⟨true,r,?_⟩;exact Dc (k _ _ _ s R' (pZ true))
 ·have e':g ρ1=some (d,ρ'):=by unfold cOr at e;simp only[e1]at e;exact e
  refine⟨F,ρ,H0,_,ρ1,R,e1,λv H1 H1' s R' r=>?_⟩;unfold Rep at r;refine⟨false,r,?_⟩;exact Da ⟨F,ρ1,H1,d,ρ',R',e',λv H2 H2' s2 R2 r2=>k _ _ _ (s.trans s2) R2 r2⟩
 ·rw[Jl e1]at e;cases e
theorem OJ{a:Expr}(ha:PE X a (tF G f)):PE X (.UnaryOp .Not a pos) (tF G (DX f)):=PE.weak (N0 ha) λσ H Q hh=>by
 obtain⟨F,ρ,H0,d,ρ',R,e,k⟩:=hh;unfold DX at e;split at e
 ·rename_i b ρ1 e1;cases e;refine⟨F,ρ,H0,_,_,R,e1,λv H1 H1' s R' r=>?_⟩;unfold Rep at r;exact⟨b,r,k _ _ _ s R' (pZ _)⟩
 ·cases e
theorem Ss{c a:Expr}{h:FT}{g:FE}(hc:PT X c (tFT G h))(ha:PE X a (tF G f))(hb:PE X b (tF G g)):PE X (.IfExp c a b pos) (tF G (cIf h f g)):=PE.weak (IA hc ha hb) λσ H Q hh=>by
 obtain⟨F,ρ,H0,d,ρ',R,e,k⟩:=hh;unfold cIf at e;cases e1:h ρ with
 |none=>simp only[e1]at e;cases e
 |some p=>
  obtain⟨b,ρ1⟩:=p;refine⟨F,ρ,H0,b,ρ1,R,e1,λH1 H1' s R'=>?_⟩;cases b with
  |true=>simp only[e1]at e;exact Dc ⟨F,ρ1,H1,d,ρ',R',e,λv H2 H2' s2 R2 r2=>k _ _ _ (s.trans s2) R2 r2⟩
  |false=>simp only[e1]at e;exact Da ⟨F,ρ1,H1,d,ρ',R',e,λv H2 H2' s2 R2 r2=>k _ _ _ (s.trans s2) R2 r2⟩
noncomputable def oT:FA:=λρ=>some ([],ρ)
noncomputable def aCons(f:FE) (g:FA):FA:=λρ=>match f ρ with
 |some (d,ρ1)=>match g ρ1 with
  |some (ds,ρ2)=>some (d::ds,ρ2)
  |none=>none
 |none=>none
theorem Fb{g:FA}(h:aCons f g ρ=some (ds,ρ')):∃d r ρ1,f ρ=some (d,ρ1)/\g ρ1=some (r,ρ')/\ds=d::r:=by
 unfold aCons at h;cases e:f ρ with
 |none=>rw[e]at h;cases h
 |some p=>
  obtain⟨x,ρ1⟩:=p;simp only[e]at h;cases e2:g ρ1 with
  |none=>simp only[e2]at h;cases h
  |some q=>obtain⟨y,ρ2⟩:=q;simp only[e2]at h;cases h;exact⟨x,y,ρ1,rfl,e2,rfl⟩
theorem ql:PA X [] (tFA G oT):=PA.weak sj λσ H Q hh=>by obtain⟨F,ρ,H0,d,ρ',R,e,k⟩:=hh;cases e;exact k _ _ _ (oA.refl _) R oV
theorem pG{es:List Expr}{g:FA}(ha:PE X e (tF G f))(hr:PA X es (tFA G g))(hs:au (e::es) X.env=(false,eval e X.env)::au es X.env:=by rfl):PA X (e::es) (tFA G (aCons f g)):=PA.weak (pW ha hr hs) λσ H Q hh=>by obtain⟨F,ρ,H0,d,ρ',R,e,k⟩:=hh;obtain⟨x,r,ρ1,e1,e2,rfl⟩:=Fb e;exact⟨F,ρ,H0,x,ρ1,R,e1,λv H1 H1' s R' rv=>⟨F,ρ1,H1,r,ρ',R',e2,λxs H2 H2' s2 R2 rs=>k _ _ _ (s.trans s2) R2 (oZ (Rep.mono s2 _ _ rv) rs)⟩⟩
def oQ(g:FA):FE:=λρ=>match g ρ with
 |some (ds,ρ')=>if ds.length<=1000 then some (.tup ds,ρ')else none
 |none=>none
def oM(g:FA):FA:=λρ=>match g ρ with
 |some (ds,ρ')=>if ds.length<=1000 then some (ds,ρ')else none
 |none=>none
theorem OK{es:List Expr}{x1}{g:FA}(h:PA X es (tFA G g)):PE X (.Tuple es x1 pos) (tF G (oQ g)):=PE.weak (IR h) λσ H Q hh=>by
 obtain⟨F,ρ,H0,d,ρ',R,e,k⟩:=hh;unfold oQ at e;cases e1:g ρ with
 |none=>simp only[e1]at e;cases e
 |some p=>
  obtain⟨ds,ρ1⟩:=p;simp only[e1]at e;split at e
  ·rename_i hl;cases e;refine⟨F,ρ,H0,_,_,R,e1,λxs H1 H1' s R' rs=>⟨by rw[<-oj rs];exact qC hl,λp hp=>?_⟩⟩;exact k _ _ _ (s.trans (oO (R'.h0none hp) _)) (R'.newIm hp _) (zW (SqT.of ox) (og.mono (oO (R'.h0none hp) _) _ _ rs))
  ·cases e
theorem LO{es:List Expr}{g:FA}(h:PA X es (tFA G g)):PE X (.List es pos) (tFN G (oM g)):=PE.weak (IS h) λσ H Q hh=>by
 obtain⟨F,ρ,H0,d,ρ',R,e,k⟩:=hh;unfold oM at e;cases e1:g ρ with
 |none=>simp only[e1]at e;cases e
 |some p=>
  obtain⟨ds,ρ1⟩:=p;simp only[e1]at e;split at e
  ·rename_i hl;cases e;refine⟨F,ρ,H0,_,_,R,e1,λxs H1 H1' s R' rs=>⟨by rw[<-oj rs];exact qC hl,λp hp=>?_⟩⟩;exact k _ _ _ _ s (R'.newOwn hp _) ox (R'.h0none hp) (R'.bNone hp) (R'.apart hp) rs
  ·cases e
def cL(g:FA):FE:=λρ=>match g ρ with
 |some (ds,ρ')=>some (.lst ds,ρ')
 |none=>none
theorem LP{g:FA}(h:cL g ρ=some (d,ρ')):∃ds,g ρ=some (ds,ρ')/\d=.lst ds:=by
 unfold cL at h;cases e:g ρ with
 |none=>simp only[e]at h;cases h
 |some p=>obtain⟨ds,ρ1⟩:=p;simp only[e]at h;cases h;exact⟨ds,rfl,rfl⟩
theorem Su{g:FA}:∀σ H Q,tF G (cL g) σ H Q->tFN G g σ H Q:=λσ H Q hh=>by obtain⟨F,ρ,H0,d,ρ',R,e,k⟩:=hh;obtain⟨ds,e1,rfl⟩:=LP e;refine⟨F,ρ,H0,ds,ρ',R,e1,λp xs H1 H1' s R' hp h0 hb ap rs=>?_⟩;exact k _ _ _ (s.trans (oO h0 _)) (R'.freeze hp h0 hb ap) (uj ox (og.mono (oO h0 _) _ _ rs))
theorem OL{g:FA}(h:PE X e (tFN G g)):PE X e (tF G (cL g)):=PE.weak h Su
end
inductive Out where
 |nx (ρ:List Sl)|bk (ρ:List Sl)|ct (ρ:List Sl)
 |rt (d:D) (ρ:List Sl)
 |rn (ds:List D) (ρ:List Sl)
abbrev FS:=List Sl->Option Out
def Gc(G:Bg)(F:Fr)(H0:Hp)(E:Ends):Out->Prop
 |.nx ρ'=>∀σ' H0' H',oA H0 H0'->oK G F σ' ρ' H0' H'->E.nx σ' H'
 |.bk ρ'=>∀σ' H0' H',oA H0 H0'->oK G F σ' ρ' H0' H'->E.bk σ' H'
 |.ct ρ'=>∀σ' H0' H',oA H0 H0'->oK G F σ' ρ' H0' H'->E.ct σ' H'
 |.rt d ρ'=>∀v σ' H0' H',oA H0 H0'->oK G F σ' ρ' H0' H'->Rep G H0' d v->E.rt v H'
 |.rn ds ρ'=>∀p xs σ' H0' H',oA H0 H0'->oK G F σ' ρ' H0' H'->H' p=some (.lst xs)->H0' p=none->F.B p=none->Apart σ' ρ' p->og G H0' ds xs->E.rt (.ref p) H'
def tFS(G:Bg)(f:FS):TS:=λE σ H=>∃F ρ H0 o,oK G F σ ρ H0 H/\f ρ=some o/\Gc G F H0 E o/\(∀p,E.rt p=E.rt p)
variable{H1:Hp}
theorem Gc.back{E:Ends}{o:Out}(h:Gc G F H0 E o)(s:oA H0 H1):Gc G F H1 E o:=by
 cases o with
 |nx ρ=>exact λσ' H0' H' s' R=>h σ' H0' H' (s.trans s') R
 |bk ρ=>exact λσ' H0' H' s' R=>h σ' H0' H' (s.trans s') R
 |ct ρ=>exact λσ' H0' H' s' R=>h σ' H0' H' (s.trans s') R
 |rt d ρ=>exact λv σ' H0' H' s' R=>h v σ' H0' H' (s.trans s') R
 |rn ds ρ=>exact λp xs σ' H0' H' s' R=>h p xs σ' H0' H' (s.trans s') R
theorem PS.weak{e:Stmt}{t t':TS}(h:PS X e t)(w:∀E σ H,t' E σ H->t E σ H):PS X e t':=λpins s σ H D I hq=>h pins s σ H D I (w _ _ _ hq)
theorem PSs.weak{e:List Stmt}{t t':TS}(h:PSs X e t)(w:∀E σ H,t' E σ H->t E σ H):PSs X e t':=λpins s σ H D I hq=>h pins s σ H D I (w _ _ _ hq)
def oI:FS:=λρ=>some (.nx ρ)
noncomputable def oe(f g:FS):FS:=λρ=>match f ρ with
 |some (.nx ρ')=>g ρ'
 |r=>r
variable{σ:St}{tg:Expr}{gs:List D->List Sl->Option (List Sl)}{N:List Str}{vs:List V}{np:Nat}
section
variable{X:Cx}{G:Bg}
theorem OM{E:Ends}{H:Hp}(h:tFS G oI E σ H):E.nx σ H:=by obtain⟨F,ρ,H0,o,R,e,k,_⟩:=h;cases e;exact k _ _ _ (oA.refl _) R
theorem LQ:PSs X [] (tFS G oI):=PSs.weak Lc λE σ H h=>OM h
theorem Jm{st:Stmt}{rest:List Stmt}{f g:FS}(h1:PS X st (tFS G f))(h2:PSs X rest (tFS G g)):PSs X (st::rest) (tFS G (oe f g)):=PSs.weak (z9 h1 h2) λE σ H h=>by
 obtain⟨F,ρ,H0,o,R,e,k,k2⟩:=h;unfold oe at e;cases e1:f ρ with
 |none=>simp only[e1]at e;cases e
 |some o1=>
  cases o1 with
  |nx ρ1=>simp only[e1]at e;exact⟨F,ρ,H0,_,R,e1,λσ' H0' H' s R'=>⟨F,ρ1,H0',o,R',e,k.back s,k2⟩,k2⟩
  |bk ρ1=>simp only[e1]at e;cases e;exact⟨F,ρ,H0,_,R,e1,k,k2⟩
  |ct ρ1=>simp only[e1]at e;cases e;exact⟨F,ρ,H0,_,R,e1,k,k2⟩
  |rt d ρ1=>simp only[e1]at e;cases e;exact⟨F,ρ,H0,_,R,e1,k,k2⟩
  |rn d ρ1=>simp only[e1]at e;cases e;exact⟨F,ρ,H0,_,R,e1,k,k2⟩
theorem LR{st:Stmt}{f:FS}(h1:PS X st (tFS G f)):PSs X [st] (tFS G f):=CK h1
noncomputable def oo(f:FE):FS:=λρ=>match f ρ with
 |some (d,ρ')=>some (.rt d ρ')
 |none=>none
noncomputable def qb(f:FA):FS:=λρ=>match f ρ with
 |some (d,ρ')=>some (.rn d ρ')
 |none=>none
theorem oN{α:Type}{f:List Sl->Option (α×List Sl)}:f ρ=none\/∃d ρ',f ρ=some (d,ρ'):=by
 cases e:f ρ with
 |none=>exact .inl rfl
 |some p=>exact .inr ⟨p.1,p.2,rfl⟩
theorem LS(h:PE X e (tF G f)):PS X (.Return (some e) pos) (tFS G (oo f)):=PS.weak (ET h) λE σ H hh=>by
 obtain⟨F,ρ,H0,o,R,e,k,k2⟩:=hh;unfold oo at e;rcases oN (f:=f) (ρ:=ρ)with e1|⟨d,ρ',e1⟩<;>simp only[e1]at e
 ·cases e
 ·cases e;exact⟨F,ρ,H0,d,ρ',R,e1,λv H0' H' s R' r=>k _ _ _ _ s R' r⟩
theorem Jn{f:FA}(h:PE X e (tFN G f)):PS X (.Return (some e) pos) (tFS G (qb f)):=PS.weak (ET h) λE σ H hh=>by
 obtain⟨F,ρ,H0,o,R,e,k,k2⟩:=hh;unfold qb at e;rcases oN (f:=f) (ρ:=ρ)with e1|⟨d,ρ',e1⟩<;>simp only[e1]at e
 ·cases e
 ·cases e;exact⟨F,ρ,H0,d,ρ',R,e1,λp xs H0' H' s R' h1 h2 h3 h4 h5=>k _ _ _ _ _ s R' h1 h2 h3 h4 h5⟩
noncomputable def o4(f:FE):FS:=λρ=>match f ρ with
 |some (_,ρ')=>some (.nx ρ')
 |none=>none
theorem Jo(h:PE X e (tF G f))(hs:cz e none pos.line X.env=pure false:=by rfl):PS X (.Expr e pos) (tFS G (o4 f)):=PS.weak (FY h hs) λE σ H hh=>by
 obtain⟨F,ρ,H0,o,R,e,k,k2⟩:=hh;unfold o4 at e;rcases oN (f:=f) (ρ:=ρ)with e1|⟨d,ρ',e1⟩<;>simp only[e1]at e
 ·cases e
 ·cases e;exact⟨F,ρ,H0,d,ρ',R,e1,λv H0' H' s R' r=>k _ _ _ s R'⟩
noncomputable def sIf(c:FT) (f g:FS):FS:=λρ=>match c ρ with
 |some (true,ρ')=>f ρ'
 |some (false,ρ')=>g ρ'
 |none=>none
theorem ON{c:Expr}{a b:List Stmt}{h:FT}{f g:FS}(hc:PT X c (tFT G h))(ha:PSs X a (tFS G f))(hb:PSs X b (tFS G g)):PS X (.If c a b pos) (tFS G (sIf h f g)):=PS.weak (RM hc ha hb) λE σ H hh=>by
 obtain⟨F,ρ,H0,o,R,e,k,k2⟩:=hh;unfold sIf at e;rcases oN (f:=h) (ρ:=ρ)with e1|⟨d,ρ',e1⟩
 ·simp only[e1]at e;cases e
 ·refine⟨F,ρ,H0,d,ρ',R,e1,λH0' H' s R'=>?_⟩;cases d with
  |true=>simp only[e1]at e;exact Dc ⟨F,ρ',H0',o,R',e,k.back s,k2⟩
  |false=>simp only[e1]at e;exact Da ⟨F,ρ',H0',o,R',e,k.back s,k2⟩
abbrev FG:=D->List Sl->Option (List Sl)
def tFG(G:Bg)(n:Nat)(g:FG):TG:=λv σ H Q=>∃F ρ H0 d ρ',oK G F σ ρ H0 H/\Rep G H0 d v/\g d ρ=some ρ'/\∀σ',σ'.drop n=σ.drop n->oK G F σ' ρ' H0 H->Q σ' H
def Jp(G:Bg)(n:Nat)(g:List D->List Sl->Option (List Sl)):TGs:=λvs σ H Q=>∃F ρ H0 ds ρ',oK G F σ ρ H0 H/\og G H0 ds vs/\g ds ρ=some ρ'/\∀σ',σ'.drop n=σ.drop n->oK G F σ' ρ' H0 H->Q σ' H
theorem PG.weak{t t':TG}(h:PG X e t)(w:∀v σ H Q,t' v σ H Q->t v σ H Q):PG X e t':=λpins s σ H x u Q I r hq=>h pins s σ H x u Q I r (w _ _ _ _ hq)
theorem PGs.weak{e:List Expr}{t t':TGs}(h:PGs X e t)(w:∀v σ H Q,t' v σ H Q->t v σ H Q):PGs X e t':=λpins s σ H x u Q I r hq=>h pins s σ H x u Q I r (w _ _ _ _ hq)
def gN(i:Nat):FG:=λd ρ=>some (ρ.set i (.im d))
theorem DZ{α:Type}{l:List α}{n:Nat}{x:α}(h:i<n):(l.set i x).drop n=l.drop n:=by apply iq;intro j;rw[cM,cM,br,ag (by omega)]
theorem Jq(n:Nat)(h:PG X tg (tN i))(hi:i<n):PG X tg (tFG G n (gN i)):=PG.weak h λv σ H Q hh=>by obtain⟨F,ρ,H0,d,ρ',R,r,e,k⟩:=hh;cases e;exact k _ (DZ hi) (R.setIm i r)
def qw:List D->List Sl->Option (List Sl):=λds ρ=>match ds with
 |[]=>some ρ
 |_=>none
def oR(g:FG)(gs:List D->List Sl->Option (List Sl)):List D->List Sl->Option (List Sl):=λds ρ=>match ds with
 |d::r=>match g d ρ with
  |some ρ'=>gs r ρ'
  |none=>none
 |[]=>none
theorem LU{n:Nat}(h:PGs X [] RO):PGs X [] (Jp G n qw):=PGs.weak h λv σ H Q hh=>by
 obtain⟨F,ρ,H0,ds,ρ',R,r,e,k⟩:=hh;cases ds with
 |nil=>cases e;unfold og at r;exact⟨r,k _ rfl R⟩
 |cons d ds=>cases e
theorem Jr{n:Nat}{es:List Expr}{g:FG}(h:PGs X (e::es) (M8 (tFG G n g) (Jp G n gs))):PGs X (e::es) (Jp G n (oR g gs)):=PGs.weak h λv σ H Q hh=>by
 obtain⟨F,ρ,H0,ds,ρ',R,r,e,k⟩:=hh;cases ds with
 |nil=>cases e
 |cons d ds=>
  unfold og at r;obtain⟨v1,r1,rfl,q1,q2⟩:=r;unfold oR at e;cases e1:g d ρ with
  |none=>simp only[e1]at e;cases e
  |some ρ1=>simp only[e1]at e;exact⟨v1,r1,rfl,F,ρ,H0,d,ρ1,R,q1,e1,λσ' s R'=>⟨F,ρ1,H0,ds,ρ',R',q2,e,λσ'' s' R''=>k _ (s'.trans s) R''⟩⟩
def gT(gs:List D->List Sl->Option (List Sl))(n:Nat):FG:=λd ρ=>match d with
 |.tup ds=>if ds.length=n then gs ds ρ else none
 |_=>none
theorem LV{n m:Nat}{es:List Expr}{k:Nat}(h:PG X (.Tuple es k pos) (N2 G.K m (Jp G n gs))):PG X (.Tuple es k pos) (tFG G n (gT gs m)):=PG.weak h λv σ H Q hh=>by
 obtain⟨F,ρ,H0,d,ρ',R,r,e,k⟩:=hh;cases d with
 |tup ds=>
  unfold gT at e;simp only at e;split at e
  ·rename_i hl;unfold Rep at r;obtain⟨a,xs,rfl,h1,h2⟩:=r;exact⟨a,xs,rfl,SqT.mono R.sub h1,by rw[<-oj h2];exact hl,F,ρ,H0,ds,ρ',R,h2,e,k⟩
  ·cases e
 |_=>cases e
def HD(f:FE)(g:FG):FS:=λρ=>match f ρ with
 |some (d,ρ')=>match g d ρ' with
  |some ρ2=>some (.nx ρ2)
  |none=>none
 |none=>none
theorem LW{st:Stmt}{g:FG}{n:Nat}(h:PS X st (xp (tF G f) (tFG G n g))):PS X st (tFS G (HD f g)):=PS.weak h λE σ H hh=>by
 obtain⟨F,ρ,H0,o,R,e,k,k2⟩:=hh;unfold HD at e;rcases oN (f:=f) (ρ:=ρ)with e1|⟨d,ρ',e1⟩<;>simp only[e1]at e
 ·cases e
 ·cases e2:g d ρ' with
  |none=>simp only[e2]at e;cases e
  |some ρ2=>simp only[e2]at e;cases e;exact⟨F,ρ,H0,d,ρ',R,e1,λv H0' H' s R' r=>⟨F,ρ',H0',d,ρ2,R',r,e2,λσ' _ R2=>k _ _ _ s R2⟩⟩
def oP(i:Nat)(f:FE):FS:=λρ=>match f ρ with
 |some (d,ρ')=>some (.nx (ρ'.set i (.im d)))
 |none=>none
theorem Gd{st:Stmt}(h:PS X st (xp (tF G f) (tN i))):PS X st (tFS G (oP i f)):=PS.weak h λE σ H hh=>by
 obtain⟨F,ρ,H0,o,R,e,k,k2⟩:=hh;unfold oP at e;rcases oN (f:=f) (ρ:=ρ)with e1|⟨d,ρ',e1⟩<;>simp only[e1]at e
 ·cases e
 ·cases e;exact⟨F,ρ,H0,d,ρ',R,e1,λv H0' H' s R' r=>k _ _ _ s (R'.setIm i r)⟩
def uQ(i:Nat)(f:FA):FS:=λρ=>match f ρ with
 |some (d,ρ')=>some (.nx (ρ'.set i (.ls d)))
 |none=>none
theorem Js{st:Stmt}{f:FA}(h:PS X st (xp (tFN G f) (tN i))):PS X st (tFS G (uQ i f)):=PS.weak h λE σ H hh=>by
 obtain⟨F,ρ,H0,o,R,e,k,k2⟩:=hh;unfold uQ at e;rcases oN (f:=f) (ρ:=ρ)with e1|⟨d,ρ',e1⟩<;>simp only[e1]at e
 ·cases e
 ·cases e;exact⟨F,ρ,H0,d,ρ',R,e1,λp xs H0' H' s R' h1 h2 h3 h4 h5=>k _ _ _ s (R'.setLs i h1 h2 h3 h4 h5)⟩
def stE(n:Nat)(ds:List D):List Sl:=ds.map Sl.im++eM (n - ds.length) .un
def fnD(np n:Nat)(f:FS):List D->Option D:=λds=>if ds.length=np then match f (stE n ds)with
 |some (.rt d _)=>some d
 |some (.rn ds _)=>some (.lst ds)
 |some (.nx _)=>some .non
 |_=>none
 else none
def fnN(np n:Nat)(f:FS):List D->Option (List D):=λds=>if ds.length=np then match f (stE n ds)with
 |some (.rn ds _)=>some ds
 |_=>none
 else none
def spF(G:Bg)(g:List D->Option D):Sp:=λvs H Q _=>∃H0 ds d,oA H0 H/\og G H0 ds vs/\g ds=some d/\
 ∀v H0' H',oA H0 H0'->oA H0' H'->oA H H'->(∀b o,H0' b=some o->H0 b=some o\/H b=none)->Rep G H0' d v->Q v H'
def spN(G:Bg)(g:List D->Option (List D)):Sp:=λvs H Q _=>∃H0 ds d,oA H0 H/\og G H0 ds vs/\g ds=some d/\
 ∀p xs H0' H',oA H0 H0'->oA H0' H'->oA H H'->(∀b o,H0' b=some o->H0 b=some o\/H b=none)->H p=none->H' p=some (.lst xs)->H0' p=none->og G H0' d xs->Q (.ref p) H'
theorem zX{n:Nat}{s:Sl}(h:(stE n ds)[i]?=some s):s=.un\/∃d,ds[i]?=some d/\s=.im d:=by
 unfold stE at h;by_cases hi:i<ds.length
 ·rw[cG (by simpa using hi),aV,aJ hi]at h;cases h;exact .inr ⟨_,aJ hi,rfl⟩
 ·rw[cZ (by simpa using hi),fX]at h;split at h
  ·cases h;exact .inl rfl
  ·cases h
theorem tS{v:V}(h:vs[i]?=some v):((L2.start N vs)[i]?).join=some v:=by unfold L2.start;have hi:=(bb.mp h).1;rw[cG (by simpa using hi),aV,h];rfl
theorem BQ{H:Hp}(s:oA H0 H)(r:og G H0 ds vs)(hl:vs.length<=N.length):oK G ⟨H0,H,[]⟩ (L2.start N vs) (stE N.length ds) H0 H where
 sub:=s
 g0:=oA.refl _
 keep:=λb o e _=>e
 fr:=λb o e=>.inl e
 am:=λa h=>by cases h
 len:=by unfold L2.start stE;rw[aM,aM,aw,aw,bN,bN,oj r]
 sl:=λi t e=>by
  rcases zX e with rfl|⟨d,e1,rfl⟩
  ·trivial
  ·obtain⟨v,e2,e3⟩:=rh r e1;exact⟨v,tS e2,e3⟩
 ap:=λi j t u a _ e _ ht=>by rcases zX e with rfl|⟨d,_,rfl⟩<;>cases ht
theorem D2{n:Nat}{f:FS}(h:fnD np n f ds=some d):ds.length=np/\((∃ρ,f (stE n ds)=some (.rt d ρ))\/(∃xs ρ,f (stE n ds)=some (.rn xs ρ)/\d=.lst xs)\/∃ρ,f (stE n ds)=some (.nx ρ)/\d=.non):=by
 unfold fnD at h;split at h
 ·rename_i hl;refine⟨hl,?_⟩;split at h
  ·rename_i e;cases h;exact .inl ⟨_,e⟩
  ·rename_i e;cases h;exact .inr (.inl ⟨_,_,e,rfl⟩)
  ·rename_i e;cases h;exact .inr (.inr ⟨_,e,rfl⟩)
  ·cases h
 ·cases h
theorem D3{n:Nat}{f:FS}{xs:List D}(h:fnN np n f ds=some xs):ds.length=np/\∃ρ,f (stE n ds)=some (.rn xs ρ):=by
 unfold fnN at h;split at h
 ·rename_i hl;refine⟨hl,?_⟩;split at h
  ·rename_i e;cases h;exact⟨_,e⟩
  ·cases h
 ·cases h
end
variable{E:XK}
theorem LX{f:FS}{H:Hp}{Q:VK}(hN:np<=N.length)(h:spF G (fnD np N.length f) vs H Q E):tFS G f { nx:=λ_ H'=>Q .non H',rt:=Q } (L2.start N vs) H:=by
 obtain⟨H0,ds,d,s,r,e,k⟩:=h;obtain⟨hl,e'⟩:=D2 e;clear e;have R:=BQ (N:=N) s r (by rw[<-oj r,hl];exact hN);have fin:∀{σ':St} {ρ':List Sl} {H0' H':Hp},oK G ⟨H0,H,[]⟩ σ' ρ' H0' H'->oA H H'/\oA H0' H'/\∀b o,H0' b=some o->H0 b=some o\/H b=none:=λR'=>⟨λb o e=>R'.keep b o e (by simp),R'.sub,R'.fr⟩;rcases e' with ⟨ρ,e⟩|⟨xs,ρ,e,rfl⟩|⟨ρ,e,rfl⟩
 ·refine⟨_,_,H0,_,R,e,λv σ' H0' H' s' R' rv=>?_,λ_=>rfl⟩;obtain⟨h1,h2,h3⟩:=fin R';exact k v H0' H' s' h2 h1 h3 rv
 ·refine⟨_,_,H0,_,R,e,λp ys σ' H0' H' s' R' hp h0 hb ap rs=>?_,λ_=>rfl⟩;have R2:=R'.freeze hp h0 hb ap;obtain⟨h1,h2,h3⟩:=fin R2;exact k _ _ H' (s'.trans (oO h0 _)) h2 h1 h3 (uj ox (og.mono (oO h0 _) _ _ rs))
 ·refine⟨_,_,H0,_,R,e,λσ' H0' H' s' R'=>?_,λ_=>rfl⟩;obtain⟨h1,h2,h3⟩:=fin R';exact k _ H0' H' s' h2 h1 h3 sL
theorem LY{f:FS}{H:Hp}{Q:VK}(hN:np<=N.length)(h:spN G (fnN np N.length f) vs H Q E):tFS G f { nx:=λ_ H'=>Q .non H',rt:=Q } (L2.start N vs) H:=by obtain⟨H0,ds,d,s,r,e,k⟩:=h;obtain⟨hl,ρ,e⟩:=D3 e;have R:=BQ (N:=N) s r (by rw[<-oj r,hl];exact hN);refine⟨_,_,H0,_,R,e,λp ys σ' H0' H' s' R' hp h0 hb ap rs=>?_,λ_=>rfl⟩;exact k p ys H0' H' s' R'.sub (λb o e=>R'.keep b o e (by simp)) R'.fr hb hp h0 rs
theorem Sv{g:List D->Option D}(hg:∀ds d,g ds=some d->ds.length=np):∀vs H Q E,spF G g vs H Q E->vs.length=np:=λvs H Q E h=>by obtain⟨H0,ds,d,_,r,e,_⟩:=h;rw[<-oj r];exact hg _ _ e
theorem Sw{g:List D->Option (List D)}(hg:∀ds d,g ds=some d->ds.length=np):∀vs H Q E,spN G g vs H Q E->vs.length=np:=λvs H Q E h=>by obtain⟨H0,ds,d,_,r,e,_⟩:=h;rw[<-oj r];exact hg _ _ e
theorem LZ{n:Nat}{f:FS}:∀ds d,fnD np n f ds=some d->ds.length=np:=λ_ _ h=>(D2 h).1
theorem L0{n:Nat}{f:FS}:∀ds d,fnN np n f ds=some d->ds.length=np:=λ_ _ h=>(D3 h).1
def yE{α:Type}(g:List D->Option α)(a:FA):List Sl->Option (α×List Sl):=λρ=>match a ρ with
 |some (ds,ρ')=>match g ds with
  |some d=>some (d,ρ')
  |none=>none
 |none=>none
abbrev oa(g:List D->Option D)(a:FA):FE:=yE g a
abbrev pF(g:List D->Option (List D))(a:FA):FA:=yE g a
theorem w9{α:Type}{g:List D->Option α}{a:FA}{d:α}(h:yE g a ρ=some (d,ρ')):∃ds,a ρ=some (ds,ρ')/\g ds=some d:=by
 unfold yE at h;rcases oN (f:=a) (ρ:=ρ)with e1|⟨ds,ρ1,e1⟩<;>simp only[e1]at h
 ·cases h
 ·cases e2:g ds with
  |none=>simp only[e2]at h;cases h
  |some x=>simp only[e2]at h;cases h;exact⟨ds,e1,e2⟩
variable{dvs:List V}{dds:List D}
section
variable{X:Cx}{G:Bg}
theorem L1{g:List D->Option D}{a:FA}(hd:∀H,og G H dds dvs):∀σ H Q,tF G (oa (λds=>g (ds++dds)) a) σ H Q->y9 (spF G g) dvs E (tFA G a) σ H Q:=λσ H Q hh=>by obtain⟨F,ρ,H0,d,ρ',R,e,k⟩:=hh;obtain⟨ds,e1,e2⟩:=w9 e;refine⟨F,ρ,H0,ds,ρ',R,e1,λxs H1 H1' s R' rs=>⟨H1,ds++dds,d,R'.sub,pU rs (hd _),e2,λv H2 H2' s1 s2 s3 fr rv=>?_⟩⟩;exact k v H2 H2' (s.trans s1) (R'.grow s3 s1 s2 fr) rv
theorem L6{g:List D->Option (List D)}{a:FA}(hd:∀H,og G H dds dvs):∀σ H Q,tFN G (pF (λds=>g (ds++dds)) a) σ H Q->y9 (spN G g) dvs E (tFA G a) σ H Q:=λσ H Q hh=>by obtain⟨F,ρ,H0,d,ρ',R,e,k⟩:=hh;obtain⟨ds,e1,e2⟩:=w9 e;refine⟨F,ρ,H0,ds,ρ',R,e1,λxs H1 H1' s R' rs=>⟨H1,ds++dds,d,R'.sub,pU rs (hd _),e2,λp ys H2 H2' s1 s2 s3 fr hn hp h0 rv=>?_⟩⟩;exact k p ys H2 H2' (s.trans s1) (R'.grow s3 s1 s2 fr) hp h0 (R'.bNone hn) (R'.apart hn) rv
end
variable{ff:FE}{ta:TE}{apos:Pos}{pl:Sem Bool}{c:Nat}
section
variable{X:Cx}{G:Bg}
theorem L7{g:List D->Option D}{a:FA}(hd:∀H,og G H dds dvs)(h:PE X e (y9 (spF G g) dvs E (tFA G a))):PE X e (tF G (oa (λds=>g (ds++dds)) a)):=PE.weak h (L1 hd)
theorem Jt{g:List D->Option (List D)}{a:FA}(hd:∀H,og G H dds dvs)(h:PE X e (y9 (spN G g) dvs E (tFA G a))):PE X e (tFN G (pF (λds=>g (ds++dds)) a)):=PE.weak h (L6 hd)
theorem HE{g:List D->Option (List D)}(h:PE X e (y9 (spN G g) [] E Bm)):PE X e (tFN G (pF g oT)):=PE.weak h λσ H Q hh=>by obtain⟨F,ρ,H0,d,ρ',R,e,k⟩:=hh;obtain⟨ds,e1,e2⟩:=w9 e;cases e1;exact⟨H0,[],d,R.sub,oV,e2,λp ys H2 H2' s1 s2 s3 fr hn hp h0 rv=>k p ys H2 H2' s1 (R.grow s3 s1 s2 fr) hp h0 (R.bNone hn) (R.apart hn) rv⟩
def HF:List Str->List D->Str->Option D
 |n::ns,d::ds,f=>if n=f then some d else HF ns ds f
 |_,_,_=>none
theorem BR{H:Hp}:∀{ns:List Str} {ds:List D} {xs:List V} {f:Str} {d:D},og G H ds xs->HF ns ds f=some d->∃v,(ns.zip xs).lookup f=some v/\Rep G H d v
 |[],ds,xs,f,d,r,e=>by simp[HF]at e
 |n::ns,[],xs,f,d,r,e=>by simp[HF]at e
 |n::ns,d'::ds,xs,f,d,r,e=>by
  unfold og at r;obtain⟨v,q,rfl,h1,h2⟩:=r;unfold HF at e;by_cases hn:n=f
  ·rw[ah hn]at e;cases e;subst hn;exact⟨v,by simp[cb],h1⟩
  ·rw[ag hn]at e;obtain⟨w,e1,e2⟩:=BR h2 e;refine⟨w,?_,e2⟩;have hb:(f==n)=false:=beq_eq_false_iff_ne.mpr λz=>hn z.symm;simp only[dv,cb,hb];exact e1
def ou(ok:Nat->Bool)(f:Str):D->Option D
 |.obj c ns ds=>if ok c=true then HF ns ds f else none
 |_=>none
theorem Ju{f:Str}{ok:Nat->Bool}(he:PE X e (tF G ff))(hc:∀c,ok c=true->Cls X.K (G.ca c)/\sh X.K (G.ca c) f)(hb:c9 e f X.env (eval e X.env)=eval e X.env:=by rfl):PE X (.Attribute e f pos) (tF G (c1 (ou ok f) ff)):=PE.weak (Oi he hb) λσ H Q hh=>by
 obtain⟨F,ρ,H0,d,ρ',R,e,k⟩:=hh;obtain⟨x,e1,e2⟩:=xw e;cases x with
 |obj c ns ds=>
  unfold ou at e2;simp only at e2;split at e2
  ·rename_i hk;refine⟨F,ρ,H0,_,ρ',R,e1,λv H1 H1' s R' r=>?_⟩;unfold Rep at r;obtain⟨a,dx,xs,rfl,h1,h2,h3⟩:=r;obtain⟨w,l1,l2⟩:=BR h3 e2;exact⟨a,_,dx,_,w,rfl,R'.sub _ _ h1,(hc c hk).1,(hc c hk).2,l1,k _ _ _ s R' l2⟩
  ·cases e2
 |_=>cases e2
def MOk(X:Cx)(C:Addr)(m:Str)(sp:Sp)(dvs:List V)(E:XK):Prop:=∃(k:Nat) (f:Addr) (fd:bq) (ps:List Str) (ds:List aa),Cls X.K C/\Meth X.K C m f/\qZ X.prog X.w X.K X.mg X.base CX0 k f fd ps sp/\pT k X.A/\Binds X.K fd ps ds/\Vals dvs ds/\Passes CX0 X E
def oU(g:Nat->Option (List D->Option D))(m:Str)(f:FE)(a:FA):FE:=λρ=>match f ρ with
 |some (.obj c ns ds,ρ1)=>match g c with
  |some h=>if ns.contains m=true then none else match a ρ1 with
   |some (es,ρ2)=>match h (.obj c ns ds::es)with
    |some d=>some (d,ρ2)
    |none=>none
   |none=>none
  |none=>none
 |_=>none
theorem Am{g:Nat->Option (List D->Option D)}{m:Str}{a:FA}(h:oU g m f a ρ=some (d,ρ')):
  ∃c ns ds ρ1 hh es,f ρ=some (.obj c ns ds,ρ1)/\g c=some hh/\ns.contains m=false/\a ρ1=some (es,ρ')/\hh (.obj c ns ds::es)=some d:=by
 unfold oU at h;split at h
 ·rename_i c ns ds ρ1 e1;cases e2:g c with
  |none=>simp only[e2]at h;cases h
  |some hh=>
   simp only[e2]at h;cases e3:ns.contains m with
   |true=>simp only[e3,if_true]at h;cases h
   |false=>
    simp only[e3,dZ,if_false]at h;rcases oN (f:=a) (ρ:=ρ1)with e4|⟨es,ρ2,e4⟩<;>simp only[e4]at h
    ·cases h
    ·cases e5:hh (.obj c ns ds::es)with
     |none=>simp only[e5]at h;cases h
     |some x=>simp only[e5]at h;cases h;exact⟨c,ns,ds,ρ1,hh,es,e1,e2,e3,e4,e5⟩
 ·cases h
theorem xa{m:Str}:∀{ns:List Str} {xs:List V},ns.contains m=false->(ns.zip xs).lookup m=none
 |[],xs,h=>rfl
 |n::ns,[],h=>rfl
 |n::ns,x::xs,h=>by rw[kg,jW]at h;simp only[dv,cb,h.1];exact xa h.2
theorem Jv{o:Expr}{es:List Expr}{t:TA}{m:Str}(T:Addr->Sp->Prop)(hT:∀C sp,T C sp->MOk X C m sp dvs E)(he:PE X o ta)(ha:PA X (e::es) t)
  (hst:au (e::es) X.env=(false,eval e X.env)::au es X.env:=by rfl) (hpl:(aT pos (au es X.env)).any (·.1)=false:=by rfl)
  (ht:eval (.Call (.Attribute o m apos) (e::es) [] pos) X.env=(do
   let ov<-eval o X.env
   standAt apos.atName
   let (f,first)<-holding [ov] (getMethod ov m pl)
   callWith pos f first (aT pos (au (e::es) X.env)) (backToKw pos (cy [] X.env))):=by rfl):
  PE X (.Call (.Attribute o m apos) (e::es) [] pos) (λσ H Q=>ta σ H λx H1=>∃a C dx fs sp,x=.ref a/\H1 a=some (.ins C dx fs)/\T C sp/\fs.lookup m=none/\t σ H1 λvs H2=>sp (x::(vs++dvs)) H2 Q E):=by
 intro pins s σ H Q I h;refine kQ (pl:=pl) (thn (he pins s σ H _ I h) λu s1 zz=>?_) ht;obtain⟨x,H1,I1,rx,a,C,dx,fs,sp,ex,ea,ht,l,q⟩:=zz;obtain⟨k,f,fd,ps,ds,c,hm,F,hr,hb,hd,hx⟩:=hT C sp ht;subst ex;obtain rfl:u=Value.ref a:=rx;refine Ab I1 ea c hm l ?_;refine i7 (first:=[.ref a]) (h₀:=X.base) I.ok.mod.kin hm.kp (thn (ha pos pins s1 σ H1 _ I1 q) λus s2 ⟨vs,H2,I2,r,q2⟩=>⟨I2.kIn,?_⟩) hst hpl;exact CN (us:=.ref a::us) (vs:=.ref a::vs) F hr hb hd hx I2 (.cons rfl r) q2
theorem HG{o:Expr}{m:Str}(T:Addr->Sp->Prop)(hT:∀C sp,T C sp->MOk X C m sp dvs E)(he:PE X o ta)
  (ht:eval (.Call (.Attribute o m apos) [] [] pos) X.env=(do
   let ov<-eval o X.env
   standAt apos.atName
   let (f,first)<-holding [ov] (getMethod ov m pl)
   callWith pos f first (aT pos (au [] X.env)) (backToKw pos (cy [] X.env))):=by rfl):
  PE X (.Call (.Attribute o m apos) [] [] pos) (λσ H Q=>ta σ H λx H1=>∃a C dx fs sp,x=.ref a/\H1 a=some (.ins C dx fs)/\T C sp/\fs.lookup m=none/\sp (x::dvs) H1 Q E):=by
 intro pins s σ H Q I h;refine kQ (pl:=pl) (thn (he pins s σ H _ I h) λu s1 zz=>?_) ht;obtain⟨x,H1,I1,rx,a,C,dx,fs,sp,ex,ea,ht,l,q⟩:=zz;obtain⟨k,f,fd,ps,ds,c,hm,F,hr,hb,hd,hx⟩:=hT C sp ht;subst ex;obtain rfl:u=Value.ref a:=rx;refine Ab I1 ea c hm l ?_;exact lI (first:=[.ref a]) I1.kIn hm.kp (CN (us:=[.ref a]) (vs:=[.ref a]) F hr hb hd hx I1 (.cons rfl .nil) q)
def MT(G:Bg)(g:Nat->Option (List D->Option D)):Addr->Sp->Prop:=λC sp=>∃c h,g c=some h/\C=G.ca c/\sp=spF G h
theorem L8{o:Expr}{es:List Expr}{a:FA}{m:Str}{g:Nat->Option (List D->Option D)}(h:PE X (.Call (.Attribute o m apos) (e::es) [] pos) (λσ H Q=>tF G f σ H λx H1=>∃a' C dx fs sp,x=.ref a'/\H1 a'=some (.ins C dx fs)/\MT G g C sp/\fs.lookup m=none/\tFA G a σ H1 λvs H2=>sp (x::(vs++[])) H2 Q E)):
  PE X (.Call (.Attribute o m apos) (e::es) [] pos) (tF G (oU g m f a)):=PE.weak h λσ H Q hh=>by
 obtain⟨F,ρ,H0,d,ρ',R,e,k⟩:=hh;obtain⟨c,ns,ds,ρ1,hh,es',e1,e2,e3,e4,e5⟩:=Am e;refine⟨F,ρ,H0,_,ρ1,R,e1,λv H1 H1' s R' r=>?_⟩;have r0:=r;unfold Rep at r;obtain⟨a',dx,xs,rfl,h1,h2,h3⟩:=r;refine⟨a',_,dx,_,_,rfl,R'.sub _ _ h1,⟨c,hh,e2,rfl,rfl⟩,xa e3,F,ρ1,H1,es',ρ',R',e4,λys H2 H2' s2 R2 rs=>?_⟩;show spF G hh (V.ref a'::(ys++[])) H2' Q E;rw[bI];exact⟨H2,_,d,R2.sub,oZ (Rep.mono s2 _ _ r0) rs,e5,λv H3 H3' t1 t2 t3 fr rv=>k v H3 H3' (s.trans (s2.trans t1)) (R2.grow t3 t1 t2 fr) rv⟩
theorem Jw{o:Expr}{m:Str}{g:Nat->Option (List D->Option D)}(h:PE X (.Call (.Attribute o m apos) [] [] pos) (λσ H Q=>tF G f σ H λx H1=>∃a' C dx fs sp,x=.ref a'/\H1 a'=some (.ins C dx fs)/\MT G g C sp/\fs.lookup m=none/\sp (x::[]) H1 Q E)):
  PE X (.Call (.Attribute o m apos) [] [] pos) (tF G (oU g m f oT)):=PE.weak h λσ H Q hh=>by
 obtain⟨F,ρ,H0,d,ρ',R,e,k⟩:=hh;obtain⟨c,ns,ds,ρ1,hh,es',e1,e2,e3,e4,e5⟩:=Am e;cases e4;refine⟨F,ρ,H0,_,_,R,e1,λv H1 H1' s R' r=>?_⟩;have r0:=r;unfold Rep at r;obtain⟨a',dx,xs,rfl,h1,h2,h3⟩:=r;refine⟨a',_,dx,_,_,rfl,R'.sub _ _ h1,⟨c,hh,e2,rfl,rfl⟩,xa e3,?_⟩;exact⟨H1,_,d,R'.sub,oZ r0 oV,e5,λv H3 H3' t1 t2 t3 fr rv=>k v H3 H3' (s.trans t1) (R'.grow t3 t1 t2 fr) rv⟩
def spI(G:Bg)(c:Nat)(g:List D->Option (List Str×List D)):Sp:=λvs H Q _=>∃(p dx:Addr) (us:List V) (H0:Hp) (ds:List D) (ns:List Str) (es:List D),vs=.ref p::us/\H p=some (.ins (G.ca c) dx [])/\H0 p=none/\oA H0 H/\og G H0 ds us/\g ds=some (ns,es)/\
 ∀ys dx' H0' H',oA H0 H0'->oA H0' H'->(∀b o,H b=some o->b≠p->H' b=some o)->(∀b o,H0' b=some o->H0 b=some o\/H b=none)->H0' p=none->H' p=some (.ins (G.ca c) dx' (ns.zip ys))->ns.length=ys.length->og G H0' es ys->Q .non H'
def oG(c:Nat)(g:List D->Option (List Str×List D))(a:FA):FE:=λρ=>match a ρ with
 |some (ds,ρ')=>match g ds with
  |some (ns,es)=>some (.obj c ns es,ρ')
  |none=>none
 |none=>none
theorem L9{g:List D->Option (List Str×List D)}{a:FA}(hd:∀H,og G H dds dvs)(h:PE X e (Nc (G.ca c) (spI G c g) dvs E (tFA G a))):PE X e (tF G (oG c (λds=>g (ds++dds)) a)):=PE.weak h λσ H Q hh=>by
 obtain⟨F,ρ,H0,d,ρ',R,e,k⟩:=hh;unfold oG at e;rcases oN (f:=a) (ρ:=ρ)with e1|⟨ds,ρ1,e1⟩<;>simp only[e1]at e
 ·cases e
 ·cases e2:g (ds++dds)with
  |none=>simp only[e2]at e;cases e
  |some q=>
   obtain⟨ns,es⟩:=q;simp only[e2]at e;cases e;refine⟨F,ρ,H0,ds,ρ',R,e1,λxs H1 H1' s R' rs x dx hx hdx ne=>?_⟩;have hx2:(upd H1' dx (.own x)) x=none:=by rw[oE (λz=>ne z.symm)];exact hx
   have sx:oA H1' (upd (upd H1' dx (.own x)) x (.ins (G.ca c) dx [])):=(oO hdx _).trans (oO hx2 _);refine⟨x,dx,_,H1,ds++dds,ns,es,rfl,ox,R'.h0none hx,R'.sub.trans sx,pU rs (hd _),e2,λys dx' H2 H2' t1 t2 t3 fr h0 hp hl ry=>⟨rfl,?_⟩⟩;have t4:oA H1' H2':=λb o e=>t3 b o (sx b o e) (p9 e hx);have fr1:∀b o,H2 b=some o->H1 b=some o\/H1' b=none:=λb o e=>by
    rcases fr b o e with q|q
    ·exact .inl q
    ·cases z:H1' b with
     |none=>exact .inr rfl
     |some u=>rw[sx b u z]at q;cases q
   have R2:=R'.grow t4 t1 t2 fr1;have hb:F.B x=none:=R'.bNone hx;have R3:=R2.freeze hp h0 hb (λi t ei to z=>R'.apart hx i t ei to z);refine k _ _ _ (s.trans (t1.trans (oO h0 _))) R3 ?_;unfold Rep;exact⟨x,dx',ys,rfl,ox,hl,og.mono (oO h0 _) _ _ ry⟩
def o5(c0:Nat)(i:Nat)(f:Str)(ff:FE):FS:=λρ=>match ff ρ with
 |some (d,ρ1)=>match ρ1[i]? with
  |some (.ob c ns ds)=>if c=c0 then if ns.contains f=true then none else if ds.length=ns.length then if ns.length<900 then some (.nx (ρ1.set i (.ob c (ns++[f]) (ds++[d]))))else none else none else none
  |_=>none
 |none=>none
theorem D4{f:Str}{v:V}:∀{ns:List Str} {xs:List V},ns.contains f=false->ns.length=xs.length->tP f v (ns.zip xs)=(ns++[f]).zip (xs++[v])
 |[],[],h,l=>rfl
 |[],x::xs,h,l=>by cases l
 |n::ns,[],h,l=>by cases l
 |n::ns,x::xs,h,l=>by
  rw[kg,jW]at h;have hn:¬n=f:=λz=>by rw[z]at h;simp at h
  have ih:=D4 (f:=f) (v:=v) (ns:=ns) (xs:=xs) h.2 (by simpa using l);show tP f v ((n,x)::ns.zip xs)=_;rw[show tP f v ((n,x)::ns.zip xs)=(if n=f then (n,v)::ns.zip xs else (n,x)::tP f v (ns.zip xs)) from rfl,ag hn,ih];rfl
theorem Ma{st:Stmt}{c0:Nat}{f:Str}(h:PS X st (RZ X.K (vm i) (tF G ff) f))(hc:Cls X.K (G.ca c0)/\sh X.K (G.ca c0) f):PS X st (tFS G (o5 c0 i f ff)):=PS.weak h λE σ H hh=>by
 obtain⟨F,ρ,H0,o,R,e,k,k2⟩:=hh;unfold o5 at e;rcases oN (f:=ff) (ρ:=ρ)with e1|⟨d,ρ1,e1⟩<;>simp only[e1]at e
 ·cases e
 ·split at e
  ·rename_i c ns ds e2;split at e
   ·rename_i hcc;subst hcc;split at e
    ·cases e
    rename_i hnc;split at e
    ·rename_i hl;split at e
     ·rename_i h9;cases e;refine⟨F,ρ,H0,d,ρ1,R,e1,λv H1 H1' s R' r=>?_⟩;obtain⟨a,dx,xs,e3,e4,e5,e6,e7,e8⟩:=R'.sl i _ e2;refine⟨_,qO e3,a,_,dx,_,rfl,e4,hc.1,hc.2,by rw[fI];omega,?_⟩;have hnf:ns.contains f=false:=by simpa using hnc
      rw[D4 hnf e7];refine k _ _ _ s (R'.mut e2 rfl e3 (λH' hH=>?_) rfl);exact⟨a,dx,xs++[v],rfl,hH,e5,e6,by rw[aM,aM,e7];rfl,pU e8 (oZ r oV)⟩
     ·cases e
    ·cases e
   ·cases e
  ·cases e
def stI(c n:Nat)(ds:List D):List Sl:=.ob c [] []::stE (n - 1) ds
def fnI(c np n:Nat)(f:FS):List D->Option (List Str×List D):=λds=>if ds.length=np then match f (stI c n ds)with
 |some (.nx ρ)=>match (ρ:List Sl)[0]? with
  |some (Sl.ob c' ns es)=>if c'=c then if ns.length=es.length then some (ns,es)else none else none
  |_=>none
 |_=>none
 else none
theorem An{n:Nat}{f:FS}{q:List Str×List D}(h:fnI c np n f ds=some q):ds.length=np/\∃ρ,f (stI c n ds)=some (.nx ρ)/\ρ[0]?=some (.ob c q.1 q.2)/\q.1.length=q.2.length:=by
 unfold fnI at h;split at h
 ·rename_i hl;refine⟨hl,?_⟩;split at h
  ·rename_i ρ e;split at h
   ·rename_i c' ns es e2;split at h
    ·rename_i hc;split at h
     ·rename_i h3;subst hc;cases h;exact⟨ρ,e,e2,h3⟩
     ·cases h
    ·cases h
   ·cases h
  ·cases h
 ·cases h
theorem Ge{f:FS}{H:Hp}{Q:VK}(hN:np+1<=N.length)(h:spI G c (fnI c np N.length f) vs H Q E):tFS G f { nx:=λ_ H'=>Q .non H',rt:=Q } (L2.start N vs) H:=by
 obtain⟨p,dx,us,H0,ds,ns,es,rfl,hp,h0,s,r,e,k⟩:=h;obtain⟨hl,ρ,e1,e2,e3⟩:=An e;have hul:us.length=np:=by rw[<-oj r];exact hl
 have gets:∀{i:Nat} {t:Sl},(stI c N.length ds)[i]?=some t->(i=0/\t=.ob c [] [])\/t=.un\/∃(j:Nat) (d:D),i=j+1/\ds[j]?=some d/\t=.im d:=λ{i t} e=>by
  cases i with
  |zero=>cases e;exact .inl ⟨rfl,rfl⟩
  |succ j=>
   have e':(stE (N.length - 1) ds)[j]?=some t:=e;rcases zX e' with rfl|⟨d,e1,rfl⟩
   ·exact .inr (.inl rfl)
   ·exact .inr (.inr ⟨j,d,rfl,e1,rfl⟩)
 have R:oK G ⟨H0,H,[p]⟩ (L2.start N (.ref p::us)) (stI c N.length ds) H0 H:={
  sub:=s
  g0:=oA.refl _
  keep:=λb o e _=>e
  fr:=λb o e=>.inl e
  am:=λa ha=>by
   have ea:a=p:=by simpa using ha
   subst ea;exact⟨_,hp⟩
  len:=by unfold L2.start stI stE;simp only[aM,aw,bN,aI];have:=oj r;omega
  sl:=λi t e=>by
   rcases gets e with ⟨rfl,rfl⟩|rfl|⟨j,d,rfl,e1,rfl⟩
   ·exact⟨p,dx,[],tS rfl,hp,h0,by simp,rfl,oV⟩
   ·trivial
   ·obtain⟨v,e2,e3⟩:=rh r e1;exact⟨v,tS (by simpa using e2),e3⟩
  ap:=λi j t u a hij ei ej ht hu=>by
   rcases gets ei with ⟨rfl,rfl⟩|rfl|⟨_,_,_,_,rfl⟩
   ·rcases gets ej with ⟨rfl,rfl⟩|rfl|⟨_,_,_,_,rfl⟩
    ·exact ai rfl hij
    ·cases hu
    ·cases hu
   ·cases ht
   ·cases ht }
 refine⟨_,_,H0,_,R,e1,λσ' H0' H' s' R'=>?_,λ_=>rfl⟩;obtain⟨a,dx',ys,q1,q2,q3,q4,q5,q6⟩:=R'.sl 0 _ e2;have ea:a=p:=by simpa using q4
 subst ea;exact k ys dx' H0' H' s' R'.sub (λb o e n=>R'.keep b o e (by simpa using n)) R'.fr q3 q2 q5 q6
end
def Sl.L:Sl->Option (List D)
 |.ls ds=>some ds
 |.pm ds=>some ds
 |_=>none
def Sl.putL:Sl->List D->Sl
 |.pm _,ds=>.pm ds
 |_,ds=>.ls ds
theorem Sl.L_own{s:Sl}(h:s.L=some ds):s.own=true:=by cases s<;>first|rfl|cases h
theorem Sl.putL_L{s:Sl}:(s.putL ds).L=some ds:=by cases s<;>rfl
section
variable{G:Bg}{F:Fr}{σ:St}{ρ:List Sl}{H0 H:Hp}
theorem Br.lst{o:Option V}{s:Sl}{ds:List D}(h:Br G F H0 H o s)(e:s.L=some ds):∃a xs,o=some (.ref a)/\H a=some (.lst xs)/\H0 a=none/\og G H0 ds xs:=by
 cases s with
 |ls ds'=>cases e;obtain⟨a,xs,h1,h2,h3,h4,h5⟩:=h;exact⟨a,xs,h1,h2,h3,h5⟩
 |pm ds'=>cases e;obtain⟨a,xs,h1,h2,h3,h4,h5⟩:=h;exact⟨a,xs,h1,h2,h3,h5⟩
 |_=>cases e
theorem oK.mutL(R:oK G F σ ρ H0 H){s:Sl}{ds':List D}{xs':List V}(hi:ρ[i]?=some s)(hs:s.L=some ds)(ha:(σ[i]?).join=some (.ref a))(r:og G H0 ds' xs'):
  oK G F σ (ρ.set i (s.putL ds')) H0 (upd H a (.lst xs')):=by
 have ok:=R.sl i s hi;rw[ha]at ok;refine R.mut hi (Sl.L_own hs) ha (λH' hH=>?_) (Sl.L_own Sl.putL_L);cases s with
 |ls ds0=>obtain⟨b,xs,h1,h2,h3,h4,h5⟩:=ok;cases h1;exact⟨a,xs',rfl,hH,h3,h4,r⟩
 |pm ds0=>obtain⟨b,xs,h1,h2,h3,h4,h5⟩:=ok;cases h1;exact⟨a,xs',rfl,hH,h3,h4,r⟩
 |_=>cases hs
end
def qc(ρ:List Sl)(i:Nat):Option (List D):=match ρ[i]? with
 |some s=>s.L
 |none=>none
theorem q8(h:qc ρ i=some ds):∃s,ρ[i]?=some s/\s.L=some ds:=by
 unfold qc at h;cases e:ρ[i]? with
 |none=>rw[e]at h;cases h
 |some s=>rw[e]at h;exact⟨s,rfl,h⟩
def putAt(ρ:List Sl)(i:Nat)(ds:List D):List Sl:=match ρ[i]? with
 |some s=>ρ.set i (s.putL ds)
 |none=>ρ
def xx(i:Nat)(f:FE):FE:=λρ=>match qc ρ i with
 |some _=>match f ρ with
  |some (d,ρ1)=>match qc ρ1 i with
   |some ds=>if ds.length<1000 then some (.non,putAt ρ1 i (ds++[d]))else none
   |none=>none
  |none=>none
 |none=>none
section
variable{X:Cx}{G:Bg}
theorem rj{H:Hp}(R:oK G F σ ρ H0 H)(h:qc ρ i=some ds):∃a xs,σ[i]?=some (some (.ref a))/\H a=some (.lst xs)/\og G H0 ds xs/\
  (∀ds' xs',og G H0 ds' xs'->oK G F σ (putAt ρ i ds') H0 (upd H a (.lst xs'))):=by
 obtain⟨s,e1,e2⟩:=q8 h;obtain⟨a,xs,e3,e4,e5,e6⟩:=(R.sl i s e1).lst e2;refine⟨a,xs,qO e3,e4,e6,λds' xs' r=>?_⟩;unfold putAt;rw[e1];exact R.mutL e1 e2 e3 r
theorem HI(h:PE X e (tBM G.K "list" CW (vm i) (tFA G (aCons f oT)))):PE X e (tF G (xx i f)):=PE.weak h λσ H Q hh=>by
 obtain⟨F,ρ,H0,d,ρ',R,e,k⟩:=hh;unfold xx at e;cases e0:qc ρ i with
 |none=>simp only[e0]at e;cases e
 |some ds0=>
  simp only[e0]at e;rcases oN (f:=f) (ρ:=ρ)with e1|⟨x,ρ1,e1⟩<;>simp only[e1]at e
  ·cases e
  ·cases e2:qc ρ1 i with
   |none=>simp only[e2]at e;cases e
   |some ds=>
    simp only[e2]at e;split at e
    ·rename_i hl;cases e;obtain⟨a,xs,s1,s2,s3,_⟩:=rj R e0;refine⟨.ref a,s1,.inl ⟨rfl,xs,SqL.of s2⟩,F,ρ,H0,[x],ρ1,R,by unfold aCons;rw[e1];rfl,λys H1 H1' s R' rs=>?_⟩;unfold og at rs;obtain⟨v,r0,rfl,rv,rn⟩:=rs;unfold og at rn;subst rn;obtain⟨a',xs',t1,t2,t3,t4⟩:=rj R' e2;rw[s1]at t1;cases t1;exact⟨a,xs',v,rfl,rfl,t2,by rw[<-oj t3];exact v5 (by omega),k _ _ _ s (t4 _ _ (pU t3 (oZ rv oV))) sL⟩
    ·cases e
def Mb(i:Nat)(f:FA):FE:=λρ=>match qc ρ i with
 |some _=>match f ρ with
  |some (es,ρ1)=>match qc ρ1 i with
   |some ds=>if ds.length+es.length<=1000 then some (.non,putAt ρ1 i (ds++es))else none
   |none=>none
  |none=>none
 |none=>none
theorem HJ{f:FA}(h:PE X e (tBM G.K "list" F8 (vm i) (wq (tFN G f) Bm))):PE X e (tF G (Mb i f)):=PE.weak h λσ H Q hh=>by
 obtain⟨F,ρ,H0,d,ρ',R,e,k⟩:=hh;unfold Mb at e;cases e0:qc ρ i with
 |none=>simp only[e0]at e;cases e
 |some ds0=>
  simp only[e0]at e;rcases oN (f:=f) (ρ:=ρ)with e1|⟨x,ρ1,e1⟩<;>simp only[e1]at e
  ·cases e
  ·cases e2:qc ρ1 i with
   |none=>simp only[e2]at e;cases e
   |some ds=>
    simp only[e2]at e;split at e
    ·rename_i hl;cases e;obtain⟨a,xs,s1,s2,s3,_⟩:=rj R e0;refine⟨.ref a,s1,.inl ⟨rfl,xs,SqL.of s2⟩,F,ρ,H0,x,ρ1,R,e1,λp ys H1 H1' s R' hp h0 hb ap rs=>?_⟩;obtain⟨a',xs',t1,t2,t3,t4⟩:=rj R' e2;rw[s1]at t1;cases t1;refine⟨a,p,xs',ys,rfl,rfl,t2,hp,?_,k _ _ _ s (t4 _ _ (pU t3 rs)) sL⟩;rw[<-oj t3,<- oj rs];exact qC hl
    ·cases e
def Ui(i:Nat):FE:=λρ=>match qc ρ i with
 |some (d::ds)=>some (d,putAt ρ i ds)
 |_=>none
theorem Ao{i:Int}(r:og G H0 ds xs)(h:atI ds i=some d):∃v,atI xs i=some v/\Rep G H0 d v:=by
 unfold atI at h ⊢;rw[<-oj r];cases e:ixN ds.length i with
 |none=>rw[e]at h;cases h
 |some j=>rw[e]at h;exact rh r h
def cFz(i:Nat):FE:=λρ=>match ρ[i]? with
 |some (.ls ds)=>some (.lst ds,ρ.set i (.im (.lst ds)))
 |some (.dk ks ds)=>some (.dic ks ds,ρ.set i (.im (.dic ks ds)))
 |some (.im d)=>some (d,ρ)
 |_=>none
theorem oK.toIm{H:Hp}(R:oK G F σ ρ H0 H){s:Sl}{p:Addr}{o:HO}(hi:ρ[i]?=some s)(hs:(σ[i]?).join=some (.ref p))(so:s.own=true)(hp:H p=some o)(h0:H0 p=none)(hb:F.B p=none)(r:Rep G (upd H0 p o) d (.ref p)):
  oK G F σ (ρ.set i (.im d)) (upd H0 p o) H where
 sub:=λb u e=>by
  by_cases hb:b=p
  ·subst hb;rw[ox]at e;cases e;exact hp
  ·rw[oE hb]at e;exact R.sub _ _ e
 g0:=R.g0.trans (oO h0 o)
 keep:=R.keep
 fr:=λb u e=>by
  by_cases hb':b=p
  ·subst hb';exact .inr hb
  ·rw[oE hb']at e;exact R.fr _ _ e
 am:=R.am
 len:=by rw[cQ];exact R.len
 sl:=λj t e=>by
  rw[br]at e;by_cases h:i=j
  ·subst h;rw[ah rfl]at e;split at e
   ·cases e;exact⟨_,hs,r⟩
   ·cases e
  ·rw[ag h]at e;refine(R.sl j t e).grow (oO h0 o) (λa u _ _ q=>q) λa u z to q q0=>?_;rw[oE (λy=>by subst y;exact R.ap j i t s a (λy=>h y.symm) e hi to so z hs)];exact q0
 ap:=λj k t u b hjk ej ek tj tk vj vk=>by
  have gen:∀{m:Nat} {x:Sl},(ρ.set i (.im d))[m]?=some x->x.own=true->ρ[m]?=some x:=λ{m x} e xo=>by
   rw[br]at e;by_cases h:i=m
   ·subst h;rw[ah rfl]at e;split at e
    ·cases e;cases xo
    ·cases e
   ·rw[ag h]at e;exact e
  exact R.ap j k t u b hjk (gen ej tj) (gen ek tk) tj tk vj vk
theorem oK.toImD{H:Hp}(R:oK G F σ ρ H0 H){s:Sl}{p:Addr}{o:HO}(hi:ρ[i]?=some s)(hs:(σ[i]?).join=some (.ref p))(so:s.own=true)(h0:H0 p=none)(hb:F.B p=none)(r:Rep G (upd H0 p o) d (.ref p)):
  oK G F σ (ρ.set i (.im d)) (upd H0 p o) (upd H p o) where
 sub:=λb u e=>by
  by_cases hb:b=p
  ·subst hb;rw[ox]at e ⊢;exact e
  ·rw[oE hb]at e ⊢;exact R.sub _ _ e
 g0:=R.g0.trans (oO h0 o)
 keep:=λb u e n=>by rw[oE (λz=>by subst z;rw[hb]at e;cases e)];exact R.keep b u e n
 fr:=λb u e=>by
  by_cases hb':b=p
  ·subst hb';exact .inr hb
  ·rw[oE hb']at e;exact R.fr _ _ e
 am:=λb hm=>by
  by_cases hb':b=p
  ·subst hb';exact⟨o,ox⟩
  ·rw[oE hb'];exact R.am b hm
 len:=by rw[cQ];exact R.len
 sl:=λj t e=>by
  rw[br]at e;by_cases h:i=j
  ·subst h;rw[ah rfl]at e;split at e
   ·cases e;exact⟨_,hs,r⟩
   ·cases e
  ·rw[ag h]at e;refine(R.sl j t e).grow (oO h0 o) (λa u z to q=>?_) λa u z to q q0=>?_
   ·rw[oE (λy=>by subst y;exact R.ap j i t s a (λy=>h y.symm) e hi to so z hs)];exact q
   ·rw[oE (λy=>by subst y;exact R.ap j i t s a (λy=>h y.symm) e hi to so z hs)];exact q0
 ap:=λj k t u b hjk ej ek tj tk vj vk=>by
  have gen:∀{m:Nat} {x:Sl},(ρ.set i (.im d))[m]?=some x->x.own=true->ρ[m]?=some x:=λ{m x} e xo=>by
   rw[br]at e;by_cases h:i=m
   ·subst h;rw[ah rfl]at e;split at e
    ·cases e;cases xo
    ·cases e
   ·rw[ag h]at e;exact e
  exact R.ap j k t u b hjk (gen ej tj) (gen ek tk) tj tk vj vk
theorem Sx(h:PE X e (vm i)):PE X e (tF G (cFz i)):=PE.weak (PE.ghost h) λσ H Q hh=>by
 obtain⟨F,ρ,H0,d,ρ',R,e,k⟩:=hh;unfold cFz at e;split at e
 ·rename_i ds e0;cases e;obtain⟨a,xs,h1,h2,h3,h4,h5⟩:=R.sl i _ e0;have rr:Rep G (upd H0 a (.lst xs)) (.lst ds) (.ref a):=uj ox (og.mono (oO h3 _) _ _ h5);exact⟨_,qO h1,.inl (k _ _ _ (oO h3 _) (R.toIm e0 h1 rfl h2 h3 h4 rr) rr)⟩
 ·rename_i ks ds e0;cases e;obtain⟨a,xs,h1,h2,h3,h4,h5,h6⟩:=R.sl i _ e0;refine⟨_,qO h1,.inr ⟨a,_,h2,λo=>?_⟩⟩;have rr:Rep G (upd H0 a (.frz o (.dK (ks.zip xs)))) (.dic ks ds) (.ref a):=by unfold Rep;exact⟨a,o,xs,rfl,ox,h5,og.mono (oO h3 _) _ _ h6⟩
  exact k _ _ _ (oO h3 _) (R.toImD e0 h1 rfl h3 h4 rr) rr
 ·rename_i d' e0;cases e;obtain⟨v,e2,e3⟩:=R.sl i _ e0;exact⟨v,qO e2,.inl (k _ _ _ (oA.refl _) R e3)⟩
 ·cases e
def Jx(i:Nat):FA:=λρ=>match ρ[i]? with
 |some (.ls ds)=>some (ds,ρ.set i .un)
 |_=>none
theorem Mc(h:PE X e (vm i)):PE X e (tFN G (Jx i)):=PE.weak h λσ H Q hh=>by
 obtain⟨F,ρ,H0,d,ρ',R,e,k⟩:=hh;unfold Jx at e;split at e
 ·rename_i ds e0;cases e;obtain⟨a,xs,h1,h2,h3,h4,h5⟩:=R.sl i _ e0;have gen:∀{m:Nat} {x:Sl},(ρ.set i .un)[m]?=some x->x.own=true->m≠i/\ρ[m]?=some x:=λ{m x} e xo=>by
   rw[br]at e;by_cases h:i=m
   ·subst h;rw[ah rfl]at e;split at e
    ·cases e;cases xo
    ·cases e
   ·rw[ag h]at e;exact⟨λz=>h z.symm,e⟩
  have R':oK G F σ (ρ.set i .un) H0 H:={
   sub:=R.sub,g0:=R.g0,keep:=R.keep,fr:=R.fr,am:=R.am
   len:=by rw[cQ];exact R.len
   sl:=λj t e=>by
    rw[br]at e;by_cases h:i=j
    ·subst h;rw[ah rfl]at e;split at e
     ·cases e;trivial
     ·cases e
    ·rw[ag h]at e;exact R.sl j t e
   ap:=λj k t u b hjk ej ek tj tk vj vk=>R.ap j k t u b hjk (gen ej tj).2 (gen ek tk).2 tj tk vj vk }
  refine⟨_,qO h1,k a xs _ _ (oA.refl _) R' h2 h3 h4 (λj t ej to z=>?_) h5⟩;obtain⟨nj,ej'⟩:=gen ej to;exact R.ap j i t _ a nj ej' e0 to rfl z h1
 ·cases e
end
def spM(G:Bg)(g:List D->List D->Option (D×List D)):Sp:=λvs H Q _=>∃(a:Addr) (us xs:List V) (H0:Hp) (es ds:List D) (d:D) (es':List D),vs=.ref a::us/\H a=some (.lst xs)/\H0 a=none/\oA H0 H/\og G H0 es xs/\og G H0 ds us/\g es ds=some (d,es')/\
 ∀v xs' H0' H',oA H0 H0'->oA H0' H'->(∀b o,H b=some o->b≠a->H' b=some o)->(∀b o,H0' b=some o->H0 b=some o\/H b=none)->H0' a=none->H' a=some (.lst xs')->og G H0' es' xs'->Rep G H0' d v->Q v H'
def stM(n:Nat)(es ds:List D):List Sl:=.pm es::stE (n - 1) ds
def zc(ρ:List Sl):Option (List D):=match ρ with
 |.pm es::_=>some es
 |_=>none
def fnM(np n:Nat)(f:FS):List D->List D->Option (D×List D):=λes ds=>if ds.length=np then match f (stM n es ds)with
 |some (.rt d ρ)=>match zc ρ with
  |some es'=>some (d,es')
  |none=>none
 |some (.rn xs ρ)=>match zc ρ with
  |some es'=>some (.lst xs,es')
  |none=>none
 |_=>none
 else none
theorem Ap{es:List D}(h:zc ρ=some es):ρ[0]?=some (.pm es):=by
 unfold zc at h;split at h
 ·cases h;rfl
 ·cases h
variable{es':List D}
theorem D5{n:Nat}{f:FS}{es:List D}(h:fnM np n f es ds=some (d,es')):ds.length=np/\((∃ρ,f (stM n es ds)=some (.rt d ρ)/\ρ[0]?=some (.pm es'))\/∃xs ρ,f (stM n es ds)=some (.rn xs ρ)/\ρ[0]?=some (.pm es')/\d=.lst xs):=by
 unfold fnM at h;split at h
 ·rename_i hl;refine⟨hl,?_⟩;split at h
  ·rename_i x ρ e;cases e2:zc ρ with
   |none=>simp only[e2]at h;cases h
   |some q=>simp only[e2]at h;cases h;exact .inl ⟨ρ,e,Ap e2⟩
  ·rename_i x ρ e;cases e2:zc ρ with
   |none=>simp only[e2]at h;cases h
   |some q=>simp only[e2]at h;cases h;exact .inr ⟨x,ρ,e,Ap e2,rfl⟩
  ·cases h
 ·cases h
section
variable{X:Cx}{G:Bg}
theorem Me{f:FS}{H:Hp}{Q:VK}(hN:np+1<=N.length)(h:spM G (fnM np N.length f) vs H Q E):tFS G f { nx:=λ_ H'=>Q .non H',rt:=Q } (L2.start N vs) H:=by
 obtain⟨a,us,xs,H0,es,ds,d,es',rfl,ha,h0,s,r1,r,e,k⟩:=h;obtain⟨hl,e1⟩:=D5 e;have hul:us.length=np:=by rw[<-oj r];exact hl
 have gets:∀{i:Nat} {t:Sl},(stM N.length es ds)[i]?=some t->(i=0/\t=.pm es)\/t=.un\/∃(j:Nat) (d:D),i=j+1/\ds[j]?=some d/\t=.im d:=λ{i t} e=>by
  cases i with
  |zero=>cases e;exact .inl ⟨rfl,rfl⟩
  |succ j=>
   have e':(stE (N.length - 1) ds)[j]?=some t:=e;rcases zX e' with rfl|⟨d,e1,rfl⟩
   ·exact .inr (.inl rfl)
   ·exact .inr (.inr ⟨j,d,rfl,e1,rfl⟩)
 have R:oK G ⟨H0,H,[a]⟩ (L2.start N (.ref a::us)) (stM N.length es ds) H0 H:={
  sub:=s
  g0:=oA.refl _
  keep:=λb o e _=>e
  fr:=λb o e=>.inl e
  am:=λb hb=>by
   have eb:b=a:=by simpa using hb
   subst eb;exact⟨_,ha⟩
  len:=by unfold L2.start stM stE;simp only[aM,aw,bN,aI];have:=oj r;omega
  sl:=λi t e=>by
   rcases gets e with ⟨rfl,rfl⟩|rfl|⟨j,d,rfl,e1,rfl⟩
   ·exact⟨a,xs,tS rfl,ha,h0,by simp,r1⟩
   ·trivial
   ·obtain⟨v,e2,e3⟩:=rh r e1;exact⟨v,tS (by simpa using e2),e3⟩
  ap:=λi j t u b hij ei ej ht hu=>by
   rcases gets ei with ⟨rfl,rfl⟩|rfl|⟨_,_,_,_,rfl⟩
   ·rcases gets ej with ⟨rfl,rfl⟩|rfl|⟨_,_,_,_,rfl⟩
    ·exact ai rfl hij
    ·cases hu
    ·cases hu
   ·cases ht
   ·cases ht }
 have fin:∀{v:V} {σ':St} {ρ':List Sl} {H0' H':Hp},oA H0 H0'->oK G ⟨H0,H,[a]⟩ σ' ρ' H0' H'->ρ'[0]?=some (.pm es')->Rep G H0' d v->Q v H':=λs' R' e2 rv=>by
  obtain⟨a',ys,q1,q2,q3,q4,q5⟩:=R'.sl 0 _ e2;have ea:a'=a:=by simpa using q4
  subst ea;exact k _ ys _ _ s' R'.sub (λb o e n=>R'.keep b o e (by simpa using n)) R'.fr q3 q2 q5 rv
 rcases e1 with ⟨ρ,e1,e2⟩|⟨zs,ρ,e1,e2,rfl⟩
 ·exact⟨_,_,H0,_,R,e1,λv σ' H0' H' s' R' rv=>fin s' R' e2 rv,λ_=>rfl⟩
 ·refine⟨_,_,H0,_,R,e1,λp ys σ' H0' H' s' R' hp hp0 hb ap rs=>?_,λ_=>rfl⟩;exact fin (s'.trans (oO hp0 _)) (R'.freeze hp hp0 hb ap) e2 (uj ox (og.mono (oO hp0 _) _ _ rs))
theorem Sy{g:List D->List D->Option (D×List D)}(hg:∀es ds d,g es ds=some d->ds.length=np):∀vs H Q E,spM G g vs H Q E->vs.length=np+1:=λvs H Q E h=>by obtain⟨a,us,xs,H0,es,ds,d,es',rfl,_,_,_,_,r,e,_⟩:=h;rw[aI,<- oj r,hg _ _ _ e]
theorem Mg{n:Nat}{f:FS}:∀es ds d,fnM np n f es ds=some d->ds.length=np:=λ_ _ d h=>(D5 (d:=d.1) (es':=d.2) h).1
theorem oK.call1{H:Hp}(R:oK G F σ ρ H0 H){s:Sl}{es:List D}{b:Addr}{zs:List V}(hi:ρ[i]?=some s)(hs:s.L=some es)(hb:(σ[i]?).join=some (.ref b))
  (s1:oA H0 H0') (s2:oA H0' H') (s3:∀c o,H c=some o->c≠b->H' c=some o) (fr:∀c o,H0' c=some o->H0 c=some o\/H c=none) (h0:H0' b=none) (hz:H' b=some (.lst zs)) (r:og G H0' es' zs):
  oK G F σ (ρ.set i (s.putL es')) H0' H':=by
 have so:=Sl.L_own hs;obtain⟨b',u,e1,e2,e3,e4⟩:=(R.sl i s hi).at so;rw[hb]at e1;cases e1;exact {
  sub:=s2
  g0:=R.g0.trans s1
  keep:=λc o e n=>by
   refine s3 c o (R.keep c o e n) λz=>?_;subst z;rcases e4 with q|q
   ·rw[q]at e;cases e
   ·exact n q
  fr:=λc o e=>by
   rcases fr c o e with q|q
   ·exact R.fr c o q
   ·exact .inr (R.bNone q)
  am:=λc hc=>by
   by_cases z:c=b
   ·subst z;exact⟨_,hz⟩
   ·obtain⟨o,q⟩:=R.am c hc;exact⟨o,s3 c o q z⟩
  len:=by rw[cQ];exact R.len
  sl:=λj t e=>by
   rw[br]at e;by_cases h:i=j
   ·subst h;rw[ah rfl]at e;split at e
    ·cases e;rw[hb];have ok:=R.sl i s hi;rw[hb]at ok;cases s with
     |ls ds0=>obtain⟨c,xs,h1,h2,h3,h4,h5⟩:=ok;cases h1;exact⟨b,zs,rfl,hz,h0,h4,r⟩
     |pm ds0=>obtain⟨c,xs,h1,h2,h3,h4,h5⟩:=ok;cases h1;exact⟨b,zs,rfl,hz,h0,h4,r⟩
     |_=>cases hs
    ·cases e
   ·rw[ag h]at e;refine(R.sl j t e).grow s1 (λc w z to q=>s3 c w q λy=>?_) λc w z to q q0=>?_
    ·subst y;exact R.ap j i t s c (λy=>h y.symm) e hi to so z hb
    ·cases y:H0' c with
     |none=>rfl
     |some o=>
      rcases fr c o y with x|x
      ·rw[x]at q0;cases q0
      ·rw[x]at q;cases q
  ap:=λj k t u c hjk ej ek tj tk vj vk=>by
   have gen:∀{m:Nat} {x:Sl},(ρ.set i (s.putL es'))[m]?=some x->∃y,ρ[m]?=some y/\(x.own=true->y.own=true):=λ{m x} e=>by
    rw[br]at e;by_cases h:i=m
    ·subst h;exact⟨s,hi,λ_=>so⟩
    ·rw[ag h]at e;exact⟨x,e,λq=>q⟩
   obtain⟨y,ey,oy⟩:=gen ej;obtain⟨z,ez,oz⟩:=gen ek;exact R.ap j k y z c hjk ey ez (oy tj) (oz tk) vj vk }
def pL(g:List D->List D->Option (D×List D))(i:Nat)(a:FA):FE:=λρ=>match qc ρ i with
 |some _=>match a ρ with
  |some (ds,ρ1)=>match qc ρ1 i with
   |some es=>match g es ds with
    |some (d,es')=>some (d,putAt ρ1 i es')
    |none=>none
   |none=>none
  |none=>none
 |none=>none
theorem OO{g:List D->List D->Option (D×List D)}{a:FA}(h:PE X e (y9 (spM G g) [] E (wq (vm i) (tFA G a)))):PE X e (tF G (pL g i a)):=PE.weak h λσ H Q hh=>by
 obtain⟨F,ρ,H0,d,ρ',R,e,k⟩:=hh;unfold pL at e;cases e0:qc ρ i with
 |none=>simp only[e0]at e;cases e
 |some ds0=>
  simp only[e0]at e;rcases oN (f:=a) (ρ:=ρ)with e1|⟨ds,ρ1,e1⟩<;>simp only[e1]at e
  ·cases e
  ·cases e2:qc ρ1 i with
   |none=>simp only[e2]at e;cases e
   |some es=>
    simp only[e2]at e;cases e3:g es ds with
    |none=>simp only[e3]at e;cases e
    |some q=>
     obtain⟨d1,es'⟩:=q;simp only[e3]at e;cases e;obtain⟨b,xs,s1,s2,s3,_⟩:=rj R e0;refine⟨.ref b,s1,F,ρ,H0,ds,ρ1,R,e1,λys H1 H1' s R' rs=>?_⟩;obtain⟨s,es0,es1⟩:=q8 e2;obtain⟨b',xs',t1,t2,t3,t4⟩:=(R'.sl i s es0).lst es1;rw[qO t1]at s1;cases s1;refine⟨b,ys,xs',H1,es,ds,d,es',?_,t2,t3,R'.sub,t4,rs,e3,λv zs H2 H2' u1 u2 u3 fr w0 w1 w2 w3=>?_⟩
     ·show V.ref b::ys++[]=_;rw[bI]
     ·refine k _ _ _ (oA.trans ‹oA H0 H1› u1) ?_ w3;unfold putAt;rw[es0];exact R'.call1 es0 es1 t1 u1 u2 u3 fr w0 w1 w2
def Walk(G:Bg)(J:It)(ds:List D)(H0:Hp):Prop:=∀(i:Nat) (H1 H1':Hp),oA H0 H1->oA H1 H1'->
 (∀d,ds[i]?=some d->J.go i H1'/\∀x H2',J.yld i H1' x H2'->∃H2,oA H1 H2/\oA H2 H2'/\oA H1' H2'/\(∀b o,H2 b=some o->H1 b=some o\/H1' b=none)/\Rep G H2 d x)/\(i=ds.length->J.stop i H1')
def tFI(G:Bg)(f:FA):TI:=λσ H R=>∃F ρ H0 ds ρ',oK G F σ ρ H0 H/\f ρ=some (ds,ρ')/\∀J H0' H',oA H0 H0'->oK G F σ ρ' H0' H'->Walk G J ds H0'->R J H'
theorem PI.weak{t t':TI}(h:PI X tg e t)(w:∀σ H R,t' σ H R->t σ H R):PI X tg e t':=λpins s σ H R I hq=>h pins s σ H R I (w _ _ _ hq)
theorem Aq(h:SqL G.K H0 a xs)(r:og G H0 ds xs):Walk G (Itl G.K a) ds H0:=λi H1 H1' s s'=>by have h1:SqL G.K H1' a xs:=(s.trans s').seq h;refine⟨λd e=>?_,λhl=>⟨xs,h1,by rw[<-oj r,hl];exact ay _⟩⟩;obtain⟨v,e1,e2⟩:=rh r e;refine⟨⟨xs,v,h1,e1⟩,λx H2' y=>?_⟩;obtain⟨e3,e4⟩:=y;have e5:=e4 xs h1;rw[e1]at e5;cases e5;subst e3;exact⟨H1,oA.refl _,s',oA.refl _,λb o e=>.inl e,Rep.mono s _ _ e2⟩
theorem Jy(h:SqT G.K H0 a xs)(r:og G H0 ds xs):Walk G (Itt G.K a) ds H0:=λi H1 H1' s s'=>by have h1:SqT G.K H1' a xs:=SqT.mono (s.trans s') h;refine⟨λd e=>?_,λhl=>⟨xs,h1,by rw[<-oj r,hl];exact ay _⟩⟩;obtain⟨v,e1,e2⟩:=rh r e;refine⟨⟨xs,v,h1,e1⟩,λx H2' y=>?_⟩;obtain⟨e3,e4⟩:=y;have e5:=e4 xs h1;rw[e1]at e5;cases e5;subst e3;exact⟨H1,oA.refl _,s',oA.refl _,λb o e=>.inl e,Rep.mono s _ _ e2⟩
def iL(f:FE):FA:=λρ=>match f ρ with
 |some (.lst ds,ρ')=>some (ds,ρ')
 |some (.fzl ds,ρ')=>some (ds,ρ')
 |_=>none
def iT(f:FE):FA:=λρ=>match f ρ with
 |some (.tup ds,ρ')=>some (ds,ρ')
 |_=>none
theorem D6(h:PI X tg e (IF G.K (tF G f))):PI X tg e (tFI G (iL f)):=PI.weak h λσ H R hh=>by
 obtain⟨F,ρ,H0,ds,ρ',R,e,k⟩:=hh;unfold iL at e;split at e
 ·rename_i ds' ρ1 e1;cases e;refine⟨F,ρ,H0,_,_,R,e1,λv H1 H1' s R' r=>?_⟩;unfold Rep at r;obtain⟨a,xs,rfl,r1,r2⟩:=r;exact⟨a,rfl,⟨xs,R'.sub.seq (SqL.of r1)⟩,k _ _ _ s R' (Aq (SqL.of r1) r2)⟩
 ·rename_i ds' ρ1 e1;cases e;refine⟨F,ρ,H0,_,_,R,e1,λv H1 H1' s R' r=>?_⟩;unfold Rep at r;obtain⟨a,xs,rfl,r1,r2⟩:=r;exact⟨a,rfl,⟨xs,R'.sub.seq r1⟩,k _ _ _ s R' (Aq r1 r2)⟩
 ·cases e
theorem Mh(h:PI X tg e (N6 G.K (tF G f))):PI X tg e (tFI G (iT f)):=PI.weak h λσ H R hh=>by
 obtain⟨F,ρ,H0,ds,ρ',R,e,k⟩:=hh;unfold iT at e;split at e
 ·rename_i ds' ρ1 e1;cases e;refine⟨F,ρ,H0,_,_,R,e1,λv H1 H1' s R' r=>?_⟩;unfold Rep at r;obtain⟨a,xs,rfl,r1,r2⟩:=r;exact⟨a,rfl,⟨xs,SqT.mono R'.sub r1⟩,k _ _ _ s R' (Jy r1 r2)⟩
 ·cases e
def Bs(lo:Int)(n:Nat):List D:=(aL n).map λ(i:Nat)=>D.int (lo+(i:Int))
theorem D7{lo:Int}{n:Nat}:Walk G (Itr lo n) (Bs lo n) H0:=λi H1 H1' s s'=>by
 refine⟨λd e=>?_,λhl=>by show n<=i;rw[hl];simp[Bs]⟩;unfold Bs at e;rw[aV]at e;by_cases hi:i<n
 ·rw[ia hi]at e;cases e;refine⟨hi,λx H2' y=>?_⟩;obtain⟨e3,rfl⟩:=y;subst e3;exact⟨H1,oA.refl _,s',oA.refl _,λb o e=>.inl e,pY _⟩
 ·rw[dY (by simpa using hi)]at e;cases e
def iR1(f:FE):FA:=λρ=>match f ρ with
 |some (.int n,ρ')=>if -1000000<=n/\n<=1000000 then some (Bs 0 n.toNat,ρ')else none
 |_=>none
theorem Fd(h:PI X tg e (M9 (tFA G (aCons f oT)))):PI X tg e (tFI G (iR1 f)):=PI.weak h λσ H R hh=>by
 obtain⟨F,ρ,H0,ds,ρ',R,e,k⟩:=hh;unfold iR1 at e;split at e
 ·rename_i n ρ1 e1;split at e
  ·rename_i hn;cases e;refine⟨F,ρ,H0,[.int n],_,R,by unfold aCons;rw[e1];rfl,λxs H1 H1' s R' rs=>?_⟩;unfold og at rs;obtain⟨v,r0,rfl,rv,rn⟩:=rs;unfold og at rn;unfold Rep at rv;subst rn rv;exact⟨n,rfl,by omega,by omega,k _ _ _ s R' D7⟩
  ·cases e
 ·cases e
def forL(g:FG)(b:FS):List D->FS
 |[],ρ=>some (.nx ρ)
 |d::r,ρ=>match g d ρ with
  |none=>none
  |some ρ1=>match b ρ1 with
   |some (.nx ρ2)=>forL g b r ρ2
   |some (.ct ρ2)=>forL g b r ρ2
   |some (.bk ρ2)=>some (.nx ρ2)
   |some (.rt d ρ2)=>some (.rt d ρ2)
   |some (.rn d ρ2)=>some (.rn d ρ2)
   |none=>none
def qd(s:FA)(g:FG)(b:FS):FS:=λρ=>match s ρ with
 |some (ds,ρ')=>forL g b ds ρ'
 |none=>none
theorem Mi{st:Stmt}{n:Nat}{s:FA}{g:FG}{b:FS}(h:PS X st (N8 (tFI G s) (tFG G n g) (tFS G b))):PS X st (tFS G (qd s g b)):=PS.weak h λE σ H hh=>by
 obtain⟨F,ρ,H0,o,R,e,k,k2⟩:=hh;unfold qd at e;rcases oN (f:=s) (ρ:=ρ)with e1|⟨ds,ρ1,e1⟩<;>simp only[e1]at e
 ·cases e
 ·refine⟨F,ρ,H0,ds,ρ1,R,e1,λJ H1 H1' s1 R1 wk=>?_⟩;refine⟨λi m σ H=>m=ds.length - i/\i<=ds.length/\∃ρi Hi,oA H1 Hi/\oK G F σ ρi Hi H/\forL g b (ds.drop i) ρi=some o,⟨_,rfl,ba _,ρ1,H1,oA.refl _,R1,e⟩,?_⟩;rintro i m σi Hi' ⟨rfl,hi,ρi,Hi,si,Ri,ei⟩;by_cases hlt:i<ds.length
  ·have ed:ds.drop i=ds[i]::ds.drop (i+1):=gY hlt;rw[ed]at ei;unfold forL at ei;obtain⟨go,yl⟩:=(wk i Hi Hi' si Ri.sub).1 ds[i] (aJ hlt);refine .inr ⟨go,λσ' H'=>∃ρi Hi,oA H1 Hi/\oK G F σ' ρi Hi H'/\forL g b (ds.drop (i+1)) ρi=some o,λσ' H' q=>⟨ds.length - (i+1),by omega,rfl,hlt,q⟩,λx H' y=>?_⟩;obtain⟨H2,t1,t2,t3,t4,t5⟩:=yl x H' y;have R2:=Ri.grow t3 t1 t2 t4;cases e2:g ds[i] ρi with
   |none=>simp only[e2]at ei;cases ei
   |some ρ2=>
    simp only[e2]at ei;refine⟨F,ρi,H2,_,ρ2,R2,t5,e2,λσ3 _ R3=>?_⟩;have kk:=k.back (s1.trans (si.trans t1));cases e3:b ρ2 with
    |none=>simp only[e3]at ei;cases ei
    |some q=>
     refine⟨F,ρ2,H2,q,R3,e3,?_,λ_=>rfl⟩;cases q with
     |nx ρ3=>simp only[e3]at ei;exact λσ' H0' H' s' R'=>⟨ρ3,H0',si.trans (t1.trans s'),R',ei⟩
     |ct ρ3=>simp only[e3]at ei;exact λσ' H0' H' s' R'=>⟨ρ3,H0',si.trans (t1.trans s'),R',ei⟩
     |bk ρ3=>simp only[e3]at ei;cases ei;exact kk
     |rt d ρ3=>simp only[e3]at ei;cases ei;exact kk
     |rn d ρ3=>simp only[e3]at ei;cases ei;exact kk
  ·have ez:ds.drop i=[]:=jJ (by omega);rw[ez]at ei;unfold forL at ei;cases ei;exact .inl ⟨(wk i Hi Hi' si Ri.sub).2 (by omega),k _ _ _ (s1.trans si) Ri⟩
def whL(c:FT)(b:FS):Nat->FS
 |0,_=>none
 |n+1,ρ=>match c ρ with
  |some (false,ρ1)=>some (.nx ρ1)
  |some (true,ρ1)=>match b ρ1 with
   |some (.nx ρ2)=>whL c b n ρ2
   |some (.ct ρ2)=>whL c b n ρ2
   |some (.bk ρ2)=>some (.nx ρ2)
   |some (.rt d ρ2)=>some (.rt d ρ2)
   |some (.rn d ρ2)=>some (.rn d ρ2)
   |none=>none
  |none=>none
theorem HK{st:Stmt}{c:FT}{b:FS}(n:Nat)(h:PS X st (ID (tFT G c) (tFS G b))):PS X st (tFS G (whL c b n)):=PS.weak h λE σ H hh=>by
 obtain⟨F,ρ,H0,o,R,e,k,k2⟩:=hh;refine⟨λm σ H=>∃ρi Hi,oA H0 Hi/\oK G F σ ρi Hi H/\whL c b m ρi=some o,⟨n,ρ,H0,oA.refl _,R,e⟩,?_⟩;rintro m σi Hi' ⟨ρi,Hi,si,Ri,ei⟩;cases m with
 |zero=>cases ei
 |succ m=>
  unfold whL at ei;rcases oN (f:=c) (ρ:=ρi)with e1|⟨t,ρ1,e1⟩
  ·simp only[e1]at ei;cases ei
  ·refine⟨F,ρi,Hi,t,ρ1,Ri,e1,λH1 H1' s1 R1=>?_⟩;cases t with
   |false=>simp only[e1]at ei;cases ei;exact Da (k _ _ _ (si.trans s1) R1)
   |true=>
    simp only[e1]at ei;refine Dc ⟨λσ' H'=>∃ρi Hi,oA H0 Hi/\oK G F σ' ρi Hi H'/\whL c b m ρi=some o,λσ' H' q=>⟨m,bS m,q⟩,?_⟩;have kk:=k.back (si.trans s1);cases e3:b ρ1 with
    |none=>simp only[e3]at ei;cases ei
    |some q=>
     refine⟨F,ρ1,H1,q,R1,e3,?_,λ_=>rfl⟩;cases q with
     |nx ρ3=>simp only[e3]at ei;exact λσ' H0' H' s' R'=>⟨ρ3,H0',si.trans (s1.trans s'),R',ei⟩
     |ct ρ3=>simp only[e3]at ei;exact λσ' H0' H' s' R'=>⟨ρ3,H0',si.trans (s1.trans s'),R',ei⟩
     |bk ρ3=>simp only[e3]at ei;cases ei;exact kk
     |rt d ρ3=>simp only[e3]at ei;cases ei;exact kk
     |rn d ρ3=>simp only[e3]at ei;cases ei;exact kk
end
def Sl.cap:Sl->Sl
 |.im d=>.im d
 |.ls ds=>.pm ds
 |.pm ds=>.pm ds
 |_=>.un
def De(k:Nat)(cap:List Nat)(ρ:List Sl):List Sl:=eM k .un++cap.map λj=>((ρ[j]?).getD .un).cap
def sN:List Nat->List Sl->List Sl->Option (List Sl)
 |[],_,ρ=>some ρ
 |j::cap,t::ts,ρ=>match qc ρ j with
  |some _=>match t with
   |.pm ds=>sN cap ts (putAt ρ j ds)
   |_=>none
  |none=>sN cap ts ρ
 |_::_,[],_=>none
def tT(k:Nat)(cap:List Nat)(g:FG)(ft:FT)(fe:FE):List D->List Sl->Option (List D×List Sl)
 |[],ρ=>some ([],ρ)
 |d::r,ρ=>match g d (De k cap ρ)with
  |none=>none
  |some ρ1=>match ft ρ1 with
   |some (true,ρ2)=>match fe ρ2 with
    |some (x,ρ3)=>match sN cap (ρ3.drop k) ρ with
     |some ρ'=>match tT k cap g ft fe r ρ' with
      |some (xs,ρ'')=>some (x::xs,ρ'')
      |none=>none
     |none=>none
    |none=>none
   |some (false,ρ2)=>match sN cap (ρ2.drop k) ρ with
    |some ρ'=>tT k cap g ft fe r ρ'
    |none=>none
   |none=>none
def oS(k:Nat)(cap:List Nat)(s:FA)(g:FG)(ft:FT)(fe:FE):FA:=λρ=>match s ρ with
 |some (ds,ρ')=>if ds.length<=1000 then tT k cap g ft fe ds ρ' else none
 |none=>none
def pH:FT:=λρ=>some (true,ρ)
theorem uk:∀{cap:List Nat} {ts ρ ρ':List Sl},sN cap ts ρ=some ρ'->ρ'.length=ρ.length/\
  (∀(j:Nat) (s':Sl),ρ'[j]?=some s'->∃s,ρ[j]?=some s/\((s'=s/\(s.L≠none->j∉cap))\/∃(m:Nat) (ds ds0:List D),cap[m]?=some j/\ts[m]?=some (Sl.pm ds)/\s.L=some ds0/\s'=s.putL ds))
 |[],ts,ρ,ρ',h=>by cases h;exact⟨rfl,λj s' e=>⟨s',e,.inl ⟨rfl,λ_ z=>by cases z⟩⟩⟩
 |j0::cap,[],ρ,ρ',h=>by cases h
 |j0::cap,t::ts,ρ,ρ',h=>by
  unfold sN at h;cases e0:qc ρ j0 with
  |none=>
   simp only[e0]at h;obtain⟨h1,h2⟩:=uk h;refine⟨h1,λj s' e=>?_⟩;obtain⟨s,e1,q⟩:=h2 j s' e;refine⟨s,e1,?_⟩;rcases q with ⟨rfl,q⟩|⟨m,ds,ds0,q1,q2,q3,q4⟩
   ·refine .inl ⟨rfl,λz y=>?_⟩;rcases aF.mp y with y|y
    ·subst y;unfold qc at e0;rw[e1]at e0;exact z e0
    ·exact q z y
   ·exact .inr ⟨m+1,ds,ds0,q1,q2,q3,q4⟩
  |some ds1=>
   simp only[e0]at h;cases t with
   |pm ds=>
    simp only at h;obtain⟨s0,e1,e2⟩:=q8 e0;unfold putAt at h;rw[e1]at h;simp only at h;obtain⟨h1,h2⟩:=uk h;refine⟨by rw[h1,cQ],λj s' e=>?_⟩;obtain⟨s,e3,q⟩:=h2 j s' e;by_cases hj:j0=j
    ·subst hj;rw[br,ah rfl]at e3;split at e3
     ·cases e3;refine⟨s0,e1,.inr ?_⟩;rcases q with ⟨rfl,q⟩|⟨m,ds',ds0,q1,q2,q3,q4⟩
      ·exact⟨0,ds,ds1,rfl,rfl,e2,rfl⟩
      ·refine⟨m+1,ds',ds1,q1,q2,e2,?_⟩;rw[q4];cases s0<;>rfl
     ·cases e3
    ·rw[br,ag hj]at e3;refine⟨s,e3,?_⟩;rcases q with ⟨rfl,q⟩|⟨m,ds',ds0,q1,q2,q3,q4⟩
     ·refine .inl ⟨rfl,λz y=>?_⟩;rcases aF.mp y with y|y
      ·exact hj y.symm
      ·exact q z y
     ·exact .inr ⟨m+1,ds',ds0,q1,q2,q3,q4⟩
   |_=>cases h
def Bt(cap:List Nat)(σ:St)(ρ:List Sl):List Addr:=cap.filterMap λj=>match qc ρ j,(σ[j]?).join with
 |some _,some (.ref a)=>some a
 |_,_=>none
theorem vq{cap:List Nat}:a∈Bt cap σ ρ ↔ ∃j∈cap,(∃ds,qc ρ j=some ds)/\(σ[j]?).join=some (.ref a):=by
 unfold Bt;rw[fq];constructor
 ·rintro⟨j,hj,e⟩;refine⟨j,hj,?_⟩;split at e
  ·rename_i ds a' e1 e2;cases e;exact⟨⟨ds,e1⟩,e2⟩
  ·cases e
 ·rintro⟨j,hj,⟨ds,e1⟩,e2⟩;refine⟨j,hj,?_⟩;rw[e1,e2]
variable{H1':Hp}{ft:FT}{fe:FE}
section
variable{X:Cx}{G:Bg}{F:Fr}{σ:St}{ρ:List Sl}{H0 H:Hp}
theorem Ar{k:Nat}{cap:List Nat}{s:Sl}(h:(De k cap ρ)[i]?=some s):s=.un\/∃m j,i=k+m/\cap[m]?=some j/\s=((ρ[j]?).getD .un).cap:=by
 unfold De at h;by_cases hi:i<k
 ·rw[cG (by simpa using hi),fX,ah hi]at h;cases h;exact .inl rfl
 ·rw[cZ (by simpa using kK hi),bN,aV]at h;cases e:cap[i - k]? with
  |none=>rw[e]at h;cases h
  |some j=>rw[e]at h;cases h;exact .inr ⟨i - k,j,by omega,e,rfl⟩
theorem xy{k:Nat}{cap:List Nat}{m:Nat}(h:cap[m]?=some j):((qN k cap σ)[k+m]?).join=(σ[j]?).join:=by unfold qN;rw[cZ (by simp),bN,show k+m - k=m by omega,aV,h];rfl
theorem oK.cap(R:oK G F σ ρ H0 H)(k:Nat)(cap:List Nat)(nd:cap.Nodup):oK G ⟨H0,H,Bt cap σ ρ⟩ (qN k cap σ) (De k cap ρ) H0 H where
 sub:=R.sub
 g0:=oA.refl _
 keep:=λb o e _=>e
 fr:=λb o e=>.inl e
 am:=λa ha=>by obtain⟨j,hj,⟨ds,e1⟩,e2⟩:=vq.mp ha;obtain⟨s,e3,e4⟩:=q8 e1;obtain⟨a',xs,h1,h2,_⟩:=(R.sl j s e3).lst e4;rw[e2]at h1;cases h1;exact⟨_,h2⟩
 len:=by unfold qN De;rw[aM,aM,bN,bN,aw,aw]
 sl:=λi s e=>by
  rcases Ar e with rfl|⟨m,j,rfl,e1,rfl⟩
  ·trivial
  ·rw[xy e1];cases e2:ρ[j]? with
   |none=>trivial
   |some s=>
    have ok:=R.sl j s e2;have mem:∀{a:Addr} {ds:List D},s.L=some ds->(σ[j]?).join=some (.ref a)->a∈Bt cap σ ρ:=λh1 h2=>vq.mpr ⟨j,bg e1,⟨_,by unfold qc;rw[e2];exact h1⟩,h2⟩;cases s with
    |un=>trivial
    |im d=>exact ok
    |ls ds=>obtain⟨a,xs,h1,h2,h3,h4,h5⟩:=ok;exact⟨a,xs,h1,h2,h3,mem rfl h1,h5⟩
    |pm ds=>obtain⟨a,xs,h1,h2,h3,h4,h5⟩:=ok;exact⟨a,xs,h1,h2,h3,mem rfl h1,h5⟩
    |dk ks ds=>trivial
    |ob c ns ds=>trivial
 ap:=λi i' s t a hii e e' so to v v'=>by
  rcases Ar e with rfl|⟨m,j,rfl,e1,rfl⟩
  ·cases so
  rcases Ar e' with rfl|⟨m',j',rfl,e1',rfl⟩
  ·cases to
  rw[xy e1]at v;rw[xy e1']at v';have own:∀{j:Nat},(((ρ[j]?).getD Sl.un).cap).own=true->∃s,ρ[j]?=some s/\s.own=true:=λ{j} h=>by
   cases z:ρ[j]? with
   |none=>rw[z]at h;cases h
   |some s=>rw[z]at h;refine⟨s,rfl,?_⟩;cases s<;>first|rfl|cases h
  obtain⟨s,z,zo⟩:=own so;obtain⟨s',z',zo'⟩:=own to;by_cases hj:j=j'
  ·subst hj;have:m=m':=(List.getElem?_inj (bb.mp e1).1 nd).mp (e1.trans e1'.symm);exact hii (by rw[this])
  ·exact R.ap j j' s s' a hj z z' zo zo' v v'
theorem oK.uncap(R:oK G F σ ρ H0 H){k:Nat}{cap:List Nat}{σ4:St}{ρ4:List Sl}(R4:oK G ⟨H0,H,Bt cap σ ρ⟩ σ4 ρ4 H1 H1')(hd:σ4.drop k=(qN k cap σ).drop k)(hu:sN cap (ρ4.drop k) ρ=some ρ'):oK G F σ ρ' H1 H1':=by
 obtain⟨hl,hc⟩:=uk hu;have at4:∀{m j:Nat},cap[m]?=some j->(σ4[k+m]?).join=(σ[j]?).join:=λ{m j} e=>by
  have q:(σ4.drop k)[m]?=((qN k cap σ).drop k)[m]?:=by rw[hd]
  rw[cM,cM]at q;rw[q];exact xy e
 have nA:∀{j:Nat} {s:Sl} {a:Addr},ρ[j]?=some s->s.own=true->(σ[j]?).join=some (.ref a)->(s.L≠none->j∉cap)->a∉Bt cap σ ρ:=λ{j s a} e so z hn ha=>by
  obtain⟨i,hi,⟨ds,e1⟩,e2⟩:=vq.mp ha;obtain⟨t,e3,e4⟩:=q8 e1;by_cases hij:i=j
  ·subst hij;rw[e]at e3;cases e3;exact hn (by rw[e4];simp) hi
  ·exact R.ap i j t s a hij e3 e (Sl.L_own e4) so e2 z
 have hA:∀a∈Bt cap σ ρ,F.B a=none\/a∈F.A:=λa ha=>by obtain⟨i,hi,⟨ds,e1⟩,e2⟩:=vq.mp ha;obtain⟨t,e3,e4⟩:=q8 e1;obtain⟨a',u,h1,h2,h3,h4⟩:=(R.sl i t e3).at (Sl.L_own e4);rw[e2]at h1;cases h1;exact h4
 have own':∀{j:Nat} {s':Sl},ρ'[j]?=some s'->s'.own=true->∃s,ρ[j]?=some s/\s.own=true:=λ{j s'} e so=>by
  obtain⟨s,e1,q⟩:=hc j s' e;rcases q with ⟨rfl,q⟩|⟨m,ds,ds0,q1,q2,q3,q4⟩
  ·exact⟨s',e1,so⟩
  ·exact⟨s,e1,Sl.L_own q3⟩
 exact {
  sub:=R4.sub
  g0:=R.g0.trans R4.g0
  keep:=λb o e n=>by
   refine R4.keep b o (R.keep b o e n) λha=>?_;rcases hA b ha with q|q
   ·rw[q]at e;cases e
   ·exact n q
  fr:=λb o e=>by
   rcases R4.fr b o e with q|q
   ·exact R.fr b o q
   ·exact .inr (R.bNone q)
  am:=λa ha=>by
   obtain⟨o,q⟩:=R.am a ha;by_cases z:a∈Bt cap σ ρ
   ·exact R4.am a z
   ·exact⟨o,R4.keep a o q z⟩
  len:=by rw[hl];exact R.len
  sl:=λj s' e=>by
   obtain⟨s,e1,q⟩:=hc j s' e;rcases q with ⟨rfl,q⟩|⟨m,ds,ds0,q1,q2,q3,q4⟩
   ·refine(R.sl j s' e1).grow R4.g0 (λa u z so y=>R4.keep a u y (nA e1 so z q)) λa u z so y y0=>?_;cases w:H1 a with
    |none=>rfl
    |some o=>
     rcases R4.fr a o w with x|x
     ·have x':H0 a=some o:=x;rw[x']at y0;cases y0
     ·have x':H a=none:=x;rw[x']at y;cases y
   ·rw[cM]at q2;obtain⟨a,xs,h1,h2,h3,h4,h5⟩:=R4.sl _ _ q2;rw[at4 q1]at h1;have ok:=R.sl j s e1;subst q4;cases s with
    |ls ds1=>obtain⟨a',xs',g1,g2,g3,g4,g5⟩:=ok;rw[h1]at g1;cases g1;exact⟨a,xs,h1,h2,h3,g4,h5⟩
    |pm ds1=>obtain⟨a',xs',g1,g2,g3,g4,g5⟩:=ok;rw[h1]at g1;cases g1;exact⟨a,xs,h1,h2,h3,g4,h5⟩
    |_=>cases q3
  ap:=λi j s t a hij ei ej so to v v'=>by
   obtain⟨s0,z,zo⟩:=own' ei so;obtain⟨t0,y,yo⟩:=own' ej to;exact R.ap i j s0 t0 a hij z y zo yo v v' }
theorem vt{k:Nat}{cap:List Nat}{ts:List Sl}{p:Addr}(h:Apart σ ρ p)(hu:sN cap ts ρ=some ρ'):Apart σ ρ' p:=λi s' e so=>by
 obtain⟨s,e1,q⟩:=(uk hu).2 i s' e;rcases q with ⟨rfl,q⟩|⟨m,ds,ds0,q1,q2,q3,q4⟩
 ·exact h i s' e1 so
 ·exact h i s e1 (Sl.L_own q3)
theorem Gf{k:Nat}{cap:List Nat}{s:FA}{g:FG}(nd:cap.Nodup):∀σ H Q,tFN G (oS k cap s g ft fe) σ H Q->Ai (tFI G s) (tFG G k g) (tFT G ft) (tF G fe) k cap σ H Q:=λσ H Q hh=>by
 obtain⟨F,ρ,H0,es,ρ',R,e,kk⟩:=hh;unfold oS at e;rcases oN (f:=s) (ρ:=ρ)with e1|⟨ds,ρ1,e1⟩<;>simp only[e1]at e
 ·cases e
 ·split at e
  ·rename_i hlen;refine⟨F,ρ,H0,ds,ρ1,R,e1,λJ H1 H1' s1 R1 wk p hp=>?_⟩;refine⟨λi m acc H2=>m=ds.length - i/\i<=ds.length/\∃ρi Hi dn rest,oA H1 Hi/\oK G F σ ρi Hi H2/\H2 p=some (.lst acc)/\Hi p=none/\Apart σ ρi p/\og G Hi dn acc/\dn.length<=i/\tT k cap g ft fe (ds.drop i) ρi=some (rest,ρ')/\es=dn++rest,
    ⟨_,rfl,ba _,ρ1,H1,[],es,oA.refl _,R1.newOwn hp _,ox,R1.h0none hp,R1.apart hp,oV,ay _,e,rfl⟩,?_⟩
   rintro i m acc H2 ⟨rfl,hi,ρi,Hi,dn,rest,si,Ri,hp2,hp0,apt,rs,hdn,ei,rfl⟩;by_cases hlt:i<ds.length
   ·have ed:ds.drop i=ds[i]::ds.drop (i+1):=gY hlt;rw[ed]at ei;unfold tT at ei;obtain⟨go,yl⟩:=(wk i Hi H2 si Ri.sub).1 ds[i] (aJ hlt);refine .inr ⟨go,λx H3 y=>?_⟩;obtain⟨Hj,t1,t2,t3,t4,t5⟩:=yl x H3 y;have R2:=Ri.grow t3 t1 t2 t4;have hp3:H3 p=some (.lst acc):=t3 _ _ hp2;have hpj:Hj p=none:=by
     cases w:Hj p with
     |none=>rfl
     |some o=>
      rcases t4 p o w with z|z
      ·rw[hp0]at z;cases z
      ·rw[hp2]at z;cases z
    have RC:=R2.cap k cap nd;have npA:p∉Bt cap σ ρi:=λz=>by obtain⟨j,_,⟨ds',q1⟩,q2⟩:=vq.mp z;obtain⟨t,q3,q4⟩:=q8 q1;exact apt j t q3 (Sl.L_own q4) q2
    cases e2:g ds[i] (De k cap ρi)with
    |none=>simp only[e2]at ei;cases ei
    |some ρ2=>
     simp only[e2]at ei;refine⟨_,_,Hj,ds[i],ρ2,RC,t5,e2,λσ4 hd4 R4=>⟨hd4,?_⟩⟩;rcases oN (f:=ft) (ρ:=ρ2)with e3|⟨b,ρ3,e3⟩
     ·simp only[e3]at ei;cases ei
     ·refine⟨_,ρ2,Hj,b,ρ3,R4,e3,λH5 H5' s5 R5=>?_⟩;have keepP:∀{σ':St} {ρ'':List Sl} {Ha Ha':Hp},oK G ⟨Hj,H3,Bt cap σ ρi⟩ σ' ρ'' Ha Ha'->Ha' p=some (.lst acc)/\Ha p=none:=λRz=>by
       refine⟨Rz.keep p _ hp3 npA,?_⟩;refine Option.eq_none_iff_forall_ne_some.mpr λo w2=>?_;rcases Rz.fr p o w2 with z|z
       ·have z':Hj p=some o:=z;rw[hpj]at z';cases z'
       ·have z':H3 p=none:=z;rw[hp3]at z';cases z'
      cases b with
      |false=>
       simp only[e3]at ei;refine Da ?_;cases e4:sN cap (ρ3.drop k) ρi with
       |none=>simp only[e4]at ei;cases ei
       |some ρn=>simp only[e4]at ei;obtain⟨w1,w2⟩:=keepP R5;exact⟨ds.length - (i+1),by omega,rfl,hlt,ρn,H5,dn,rest,si.trans (t1.trans s5),R2.uncap R5 hd4 e4,w1,w2,vt (k:=k) apt e4,og.mono (t1.trans s5) _ _ rs,by omega,ei,rfl⟩
      |true=>
       simp only[e3]at ei;refine Dc ?_;rcases oN (f:=fe) (ρ:=ρ3)with e5|⟨x5,ρ5,e5⟩
       ·simp only[e5]at ei;cases ei
       ·simp only[e5]at ei;refine⟨_,ρ3,H5,x5,ρ5,R5,e5,λv H6 H6' s6 R6 rv=>?_⟩;obtain⟨w1,w2⟩:=keepP R6;cases e4:sN cap (ρ5.drop k) ρi with
        |none=>simp only[e4]at ei;cases ei
        |some ρn=>
         simp only[e4]at ei;cases e6:tT k cap g ft fe (ds.drop (i+1)) ρn with
         |none=>simp only[e6]at ei;cases ei
         |some q=>
          obtain⟨rest',ρz⟩:=q;simp only[e6]at ei;cases ei;have Rn:=R2.uncap R6 hd4 e4;have lacc:acc.length=dn.length:=(oj rs).symm;refine⟨acc,w1,v5 (by omega),ds.length - (i+1),by omega,rfl,hlt,ρn,H6,dn++[x5],rest',si.trans (t1.trans (s5.trans s6)),?_,ox,w2,vt (k:=k) apt e4,pU (og.mono (t1.trans (s5.trans s6)) _ _ rs) (oZ rv oV),by rw[aM,ck];omega,e6,by rw[cN];rfl⟩;exact {
           sub:=λb o e=>by rw[oE (λz=>by rw[z,w2]at e;cases e)];exact Rn.sub b o e
           g0:=Rn.g0
           keep:=λb o e n=>by rw[oE (λz=>by subst z;rw[R1.bNone hp]at e;cases e)];exact Rn.keep b o e n
           fr:=Rn.fr
           am:=λb hb=>by
            by_cases z:b=p
            ·subst z;exact⟨_,ox⟩
            ·rw[oE z];exact Rn.am b hb
           len:=Rn.len
           sl:=λj t ej=>(Rn.sl j t ej).grow (oA.refl _) (λb u z to q=>by rw[oE (λy=>vt (k:=k) apt e4 j t ej to (by rw[z,y]))];exact q) λb u _ _ _ q=>q
           ap:=Rn.ap }
   ·have ez:ds.drop i=[]:=jJ (by omega);rw[ez]at ei;unfold tT at ei;cases ei;rw[bI]at kk;exact .inl ⟨(wk i Hi H2 si Ri.sub).2 (by omega),kk p acc Hi H2 (s1.trans si) Ri hp2 hp0 (R1.bNone hp) apt rs⟩
  ·cases e
theorem Jz{k:Nat}{cap:List Nat}{s:FA}{g:FG}(nd:cap.Nodup)(h:PE X e (Ai (tFI G s) (tFG G k g) (tFT G ft) (tF G fe) k cap)):PE X e (tFN G (oS k cap s g ft fe)):=PE.weak h (Gf nd)
theorem JA:PIf X [] (tFT G pH):=λpins s σ H Q I h=>by obtain⟨F,ρ,H0,b,ρ',R,e,k⟩:=h;cases e;exact LB pins s σ H Q I (k _ _ (oA.refl _) R)
end
def qG:D->Bool
 |.non=>true|.bl _=>true|.int _=>true|.str _=>true|_=>false
def vD:D->V
 |.non=>.non|.bl b=>.bl b|.int i=>.int i|.str x=>.str x|_=>.non
variable{r':R2}{g':D->D->Option D}{neg:Bool}{r:List V->Hp->VK->Prop}
section
variable{X:Cx}{G:Bg}{H:Hp}
theorem rk{v:V}(h:Rep G H d v)(f:qG d=true):v=vD d:=by cases d<;>first|(unfold Rep at h;exact h)|cases f
theorem xA(f:qG d=true):∀H,Rep G H d (vD d):=λH=>by cases d<;>first|(unfold Rep;rfl)|cases f
theorem yF:∀{ds:List D} {xs:List V},og G H ds xs->ds.all qG=true->xs=ds.map vD
 |[],xs,h,f=>by unfold og at h;exact h
 |d::ds,xs,h,f=>by unfold og at h;obtain⟨v,r,rfl,h1,h2⟩:=h;rw[dc,aE]at f;rw[aW,rk h1 f.1,yF h2 f.2]
theorem D8(f:qG d=true):wt (vD d)=true:=by cases d<;>first|rfl|cases f
theorem BS:∀{ds:List D},ds.all qG=true->(ds.map vD).all wt=true
 |[],_=>rfl
 |d::ds,f=>by rw[dc,aE]at f;rw[aW,dc,D8 f.1,BS f.2];rfl
theorem OpR.or{f:aa->aa->Sem aa}{r:R2}(h:OpR X f r)(h':OpR X f r'):OpR X f (λx y H Q=>r x y H Q\/r' x y H Q):=λpins s σ H x y v u Q I rx ry q=>q.elim (h pins s σ H x y v u Q I rx ry) (h' pins s σ H x y v u Q I rx ry)
theorem OpD.or{r:R2}{g:D->D->Option D}(h:OpD G r g)(h':OpD G r' g'):OpD G (λx y H Q=>r x y H Q\/r' x y H Q) (λx y=>match g x y with|some z=>some z|none=>g' x y):=λx y z H0 H v u Q e s rx ry k=>by
 cases e1:g x y with
 |some w=>simp only[e1]at e;cases e;exact .inl (h x y _ H0 H v u Q e1 s rx ry k)
 |none=>simp only[e1]at e;exact .inr (h' x y z H0 H v u Q e s rx ry k)
def dI(C:Int->Int->Bool)(g:Int->Int->D):D->D->Option D
 |.int a,.int b=>if C a b=true then some (g a b)else none
 |_,_=>none
theorem Gg{C:Int->Int->Bool}{C':Int->Int->Prop}{g:Int->Int->D}{g':Int->Int->V}(hC:∀a b,C a b=true->C' a b)(hf:∀a b,qG (g a b)=true/\vD (g a b)=g' a b):OpD G (rI C' g') (dI C g):=λx y z H0 H v u Q e s rx ry k=>by
 unfold dI at e;split at e
 ·rename_i a b;split at e
  ·rename_i hc;cases e;unfold Rep at rx ry;exact⟨a,b,rx,ry,hC _ _ hc,by rw[<-(hf a b).2];exact k _ λH0' _=>xA (hf a b).1 H0'⟩
  ·cases e
 ·cases e
theorem yG{g:Int->Int->D}{g':Int->Int->V}(hf:∀a b,qG (g a b)=true/\vD (g a b)=g' a b):OpD G (rI0 g') (dI (λ_ _=>true) g):=λx y z H0 H v u Q e s rx ry k=>by
 unfold dI at e;split at e
 ·rename_i a b;split at e
  ·cases e;unfold Rep at rx ry;exact⟨a,b,rx,ry,by rw[<-(hf a b).2];exact k _ λH0' _=>xA (hf a b).1 H0'⟩
  ·cases e
 ·cases e
def rQ:=dI (λ_ _=>true) λa b=>.int (a+b)
def D9:=dI (λ_ _=>true) λa b=>.int (a - b)
def um(a:Int):Bool:=decide (-(2 ^ 64)<a)&&decide (a<2 ^ 64)
def tU:=dI (λa b=>um a||um b) λa b=>.int (a * b)
def rp:=dI (λ_ b=>decide (0<b)) λa b=>.int (a % b)
def wu:=dI (λ_ b=>decide (0<b)&&decide (b<1073741824)) λa b=>.int (a / b)
def JB:=dI (λa b=>decide (0<=b)&&decide (b<=1000000)&&decide (a.natAbs<2 ^ 64)) λa b=>.int (a ^ b.toNat)
def JC:=dI (λ_ _=>true) λa b=>.bl (decide (a<b))
def uo:=dI (λ_ _=>true) λa b=>.bl (decide (a<=b))
def JD:=dI (λ_ _=>true) λa b=>.bl (decide (b<a))
def OP:=dI (λ_ _=>true) λa b=>.bl (decide (b<=a))
theorem OQ:OpD G (rI0 λi j=>.int (i+j)) rQ:=yG λ_ _=>⟨rfl,rfl⟩
theorem OR:OpD G (rI0 λi j=>.int (i - j)) D9:=yG λ_ _=>⟨rfl,rfl⟩
theorem OS:OpD G (rI Lg λi j=>.int (i * j)) tU:=Gg (λa b h=>by
 unfold um at h;simp only[iJ,aE,aX]at h;exact h) λ_ _=>⟨rfl,rfl⟩
theorem OT:OpD G (rI (λ_ j=>0<j) λi j=>.int (i % j)) rp:=Gg (λa b h=>by simpa using h) λ_ _=>⟨rfl,rfl⟩
theorem OU:OpD G (rI Oa λi j=>.int (i / j)) wu:=Gg (λa b h=>by unfold Oa;simpa using h) λ_ _=>⟨rfl,rfl⟩
theorem OV:OpD G (rI RR λi j=>.int (i ^ j.toNat)) JB:=Gg (λa b h=>by
 simp only[aE,aX]at h;exact⟨h.1.1,h.1.2,h.2⟩) λ_ _=>⟨rfl,rfl⟩
theorem SA:OpD G (rI0 λi j=>.bl (decide (i<j))) JC:=yG λ_ _=>⟨rfl,rfl⟩
theorem SB:OpD G (rI0 λi j=>.bl (decide (i<=j))) uo:=yG λ_ _=>⟨rfl,rfl⟩
theorem SC:OpD G (rI0 λi j=>.bl (decide (j<i))) JD:=yG λ_ _=>⟨rfl,rfl⟩
theorem SD:OpD G (rI0 λi j=>.bl (decide (j<=i))) OP:=yG λ_ _=>⟨rfl,rfl⟩
def xB:D->D->Option D
 |.str a,.str b=>if a.length+b.length<=100000 then some (.str (a++b))else none
 |_,_=>none
theorem As{n:Nat}(h:n<=100000):n<=av:=bF h (by rw[aZ];decide)
theorem Mj:OpD G (λx y H Q=>∃i j,x=.str i/\y=.str j/\i.length+j.length<=av/\Q (.str (i++j)) H) xB:=λx y z H0 H v u Q e s rx ry k=>by
 unfold xB at e;split at e
 ·rename_i a b;split at e
  ·rename_i hl;cases e;unfold Rep at rx ry;exact⟨a,b,rx,ry,As hl,k _ λ_ _=>rR _⟩
  ·cases e
 ·cases e
def JE:D->D->Option D
 |.str a,.str b=>some (.bl (!decide (b.cps.toList<a.cps.toList)))
 |_,_=>none
theorem OW:OpD G (λx y H Q=>∃i j,x=.str i/\y=.str j/\Q (.bl (!decide (j.cps.toList<i.cps.toList))) H) JE:=λx y z H0 H v u Q e s rx ry k=>by
 unfold JE at e;split at e
 ·rename_i a b;cases e;unfold Rep at rx ry;exact⟨a,b,rx,ry,k _ λ_ _=>pZ _⟩
 ·cases e
def tV:D->D->Option D
 |.non,.non=>some (.bl true)
 |_,.non=>some (.bl false)
 |_,_=>none
def qP:D->D->Option D
 |.non,.non=>some (.bl false)
 |_,.non=>some (.bl true)
 |_,_=>none
theorem Gh{v:V}(h:Rep G H d v):decide (v=.non)=(match d with|.non=>true|_=>false):=by
 cases d<;>unfold Rep at h
 ·subst h;rfl
 ·subst h;rfl
 ·subst h;rfl
 ·subst h;rfl
 ·obtain⟨a,xs,rfl,_⟩:=h;rfl
 ·obtain⟨a,xs,rfl,_⟩:=h;rfl
 ·obtain⟨a,xs,rfl,_⟩:=h;rfl
 ·obtain⟨a,dx,xs,rfl,_⟩:=h;rfl
 ·obtain⟨a,ob,xs,rfl,_⟩:=h;rfl
theorem OX:OpD G (λx y H Q=>y=.non/\Q (.bl (decide (x=.non))) H) tV:=λx y z H0 H v u Q e s rx ry k=>by
 have e0:=Gh rx;cases y<;>first|(cases x<;>cases e)|skip
 all_goals (unfold Rep at ry;refine⟨ry,?_⟩;rw[e0];exact k _ λ_ _=>pZ _)
theorem Ml:OpD G (λx y H Q=>y=.non/\Q (.bl (!decide (x=.non))) H) qP:=λx y z H0 H v u Q e s rx ry k=>by
 have e0:=Gh rx;cases y<;>first|(cases x<;>cases e)|skip
 all_goals (unfold Rep at ry;refine⟨ry,?_⟩;rw[e0];exact k _ λ_ _=>pZ _)
def TX:D->D->Option D
 |.bl a,.bl b=>some (.bl (a != b))
 |_,_=>none
mutual
def toD:D->Option L3.Dq
 |.non=>some .non
 |.bl b=>some (.bl b)
 |.int i=>some (.int i)
 |.str x=>some (.str x)
 |.tup ds=>match Au ds with
  |some l=>some (.tup l)
  |none=>none
 |.lst ds=>match Au ds with
  |some l=>some (.lst l)
  |none=>none
 |.fzl _=>none
 |.obj _ _ _=>none
 |.dic _ _=>none
def Au:List D->Option (List L3.Dq)
 |[]=>some []
 |d::ds=>match toD d with
  |some x=>match Au ds with
   |some l=>some (x::l)
   |none=>none
  |none=>none
end
mutual
theorem zY:∀(d:D) (v:V) (x:L3.Dq),Rep G H d v->toD d=some x->L3.Rep G.K H x v
 |.non,v,x,h,e=>by unfold toD at e;cases e;unfold Rep at h;unfold L3.Rep;exact h
 |.bl b,v,x,h,e=>by unfold toD at e;cases e;unfold Rep at h;unfold L3.Rep;exact h
 |.int b,v,x,h,e=>by unfold toD at e;cases e;unfold Rep at h;unfold L3.Rep;exact h
 |.str b,v,x,h,e=>by unfold toD at e;cases e;unfold Rep at h;unfold L3.Rep;exact h
 |.tup ds,v,x,h,e=>by
  unfold toD at e;cases e1:Au ds with
  |none=>simp only[e1]at e;cases e
  |some l=>simp only[e1]at e;cases e;unfold Rep at h;obtain⟨a,xs,rfl,h1,h2⟩:=h;unfold L3.Rep;exact⟨a,xs,rfl,h1,xC ds xs l h2 e1⟩
 |.lst ds,v,x,h,e=>by
  unfold toD at e;cases e1:Au ds with
  |none=>simp only[e1]at e;cases e
  |some l=>simp only[e1]at e;cases e;unfold Rep at h;obtain⟨a,xs,rfl,h1,h2⟩:=h;unfold L3.Rep;exact⟨a,xs,rfl,SqL.of h1,xC ds xs l h2 e1⟩
 |.fzl _,v,x,h,e=>by unfold toD at e;cases e
 |.obj _ _ _,v,x,h,e=>by unfold toD at e;cases e
 |.dic _ _,v,x,h,e=>by unfold toD at e;cases e
theorem xC:∀(ds:List D) (xs:List V) (l:List L3.Dq),og G H ds xs->Au ds=some l->L3.og G.K H l xs
 |[],xs,l,h,e=>by unfold Au at e;cases e;unfold og at h;unfold L3.og;exact h
 |d::ds,xs,l,h,e=>by
  unfold Au at e;cases e1:toD d with
  |none=>simp only[e1]at e;cases e
  |some x=>
   simp only[e1]at e;cases e2:Au ds with
   |none=>simp only[e2]at e;cases e
   |some l'=>simp only[e2]at e;cases e;unfold og at h;obtain⟨v,r,rfl,h1,h2⟩:=h;unfold L3.og;exact⟨v,r,rfl,zY d v x h1 e1,xC ds r l' h2 e2⟩
end
def Fe(neg:Bool):D->D->Option D:=λx y=>match qG x&&qG y&&II (vD x) (vD y)with
 |true=>some (.bl (if neg then !decide (vD x=vD y)else decide (vD x=vD y)))
 |false=>none
def Mn(neg:Bool):D->D->Option D:=λx y=>match toD x,toD y with
 |some a,some b=>if Jg a b&&decide (dpt a<=20)&&decide (dpt b<=20)then some (.bl (if neg then !eqD a b else eqD a b))else none
 |_,_=>none
def dEq(neg:Bool):D->D->Option D:=λx y=>match Fe neg x y with
 |some z=>some z
 |none=>Mn neg x y
theorem OY:OpD G rEq (Fe false):=λx y z H0 H v u Q e s rx ry k=>by
 unfold Fe at e;cases e1:qG x&&qG y&&II (vD x) (vD y)with
 |false=>simp only[e1]at e;cases e
 |true=>simp only[e1]at e;cases e;simp only[aE]at e1;rw[rk rx e1.1.1,rk ry e1.1.2];exact⟨e1.2,k _ λ_ _=>pZ _⟩
theorem OZ:OpD G rNe (Fe true):=λx y z H0 H v u Q e s rx ry k=>by
 unfold Fe at e;cases e1:qG x&&qG y&&II (vD x) (vD y)with
 |false=>simp only[e1]at e;cases e
 |true=>simp only[e1]at e;cases e;simp only[aE]at e1;rw[rk rx e1.1.1,rk ry e1.1.2];exact⟨e1.2,k _ λ_ _=>pZ _⟩
theorem JF:OpD G (E8 G.K neg) (Mn neg):=λx y z H0 H v u Q e s rx ry k=>by
 unfold Mn at e;cases e1:toD x with
 |none=>simp only[e1]at e;cases e
 |some a=>
  cases e2:toD y with
  |none=>simp only[e1,e2]at e;cases e
  |some b=>
   simp only[e1,e2]at e;split at e
   ·rename_i hc;cases e;simp only[aE,aX]at hc;exact⟨a,b,zY x v a (Rep.mono s _ _ rx) e1,zY y u b (Rep.mono s _ _ ry) e2,hc.1.1,hc.1.2,hc.2,k _ λ_ _=>pZ _⟩
   ·cases e
theorem O0(hu:X.A.units+64<cLine)(hK:X.K=G.K:=by rfl):OpR X (aO .Eq) (λx y H Q=>rEq x y H Q\/E8 G.K false x y H Q):=by rw[<-hK];exact OpR.or RT (OA hu)
theorem O1(hu:X.A.units+64<cLine)(hK:X.K=G.K:=by rfl):OpR X (aO .NotEq) (λx y H Q=>rNe x y H Q\/E8 G.K true x y H Q):=by rw[<-hK];exact OpR.or RU (OB hu)
theorem SE:OpD G (λx y H Q=>rEq x y H Q\/E8 G.K false x y H Q) (dEq false):=OpD.or OY JF
theorem SF:OpD G (λx y H Q=>rNe x y H Q\/E8 G.K true x y H Q) (dEq true):=OpD.or OZ JF
def JG:D->Option (List D)
 |.tup ds=>some ds
 |.lst ds=>some ds
 |.fzl ds=>some ds
 |_=>none
theorem Gi{v:V}(h:Rep G H d v)(e:JG d=some ds):∃p xs,v=.ref p/\(SqL G.K H p xs\/SqT G.K H p xs)/\og G H ds xs:=by
 cases d with
 |tup l=>cases e;unfold Rep at h;obtain⟨a,xs,rfl,h1,h2⟩:=h;exact⟨a,xs,rfl,.inr h1,h2⟩
 |lst l=>cases e;unfold Rep at h;obtain⟨a,xs,rfl,h1,h2⟩:=h;exact⟨a,xs,rfl,.inl (SqL.of h1),h2⟩
 |fzl l=>cases e;unfold Rep at h;obtain⟨a,xs,rfl,h1,h2⟩:=h;exact⟨a,xs,rfl,.inl h1,h2⟩
 |_=>cases e
def dIn(neg:Bool):D->D->Option D:=λx y=>match JG y with
 |some ds=>if qG x&&ds.all qG then some (.bl (if neg then !inV (vD x) (ds.map vD)else inV (vD x) (ds.map vD)))else none
 |none=>none
theorem Gj{K:ak}{H:Hp}{p:Addr}(s:oA H H')(h:SqL K H p xs\/SqT K H p xs):SqL K H' p xs\/SqT K H' p xs:=h.imp s.seq (SqT.mono s)
theorem Nk:OpD G (rIn G.K neg) (dIn neg):=λx y z H0 H v u Q e s rx ry k=>by
 unfold dIn at e;cases e1:JG y with
 |none=>simp only[e1]at e;cases e
 |some ds=>
  simp only[e1]at e;split at e
  ·rename_i hc;cases e;simp only[aE]at hc;obtain⟨p,xs,rfl,h1,h2⟩:=Gi ry e1;refine⟨p,xs,rfl,Gj s h1,?_,?_,?_⟩
   ·rw[rk rx hc.1];exact D8 hc.1
   ·rw[yF h2 hc.2];exact BS hc.2
   ·rw[rk rx hc.1,yF h2 hc.2];exact k _ λ_ _=>pZ _
  ·cases e
theorem O2(hK:X.K=G.K:=by rfl):OpR X (aO .In) (rIn G.K false):=by rw[<-hK];exact Hs
theorem HL(hK:X.K=G.K:=by rfl):OpR X (aO .NotIn) (rIn G.K true):=by rw[<-hK];exact CS
def dIx:D->D->Option D
 |.tup ds,.int i=>atI ds i
 |.lst ds,.int i=>atI ds i
 |.fzl ds,.int i=>atI ds i
 |.str x,.int i=>if x.length<=100000 then (atI x.cps.toList i).map λc=>.str ⟨#[c]⟩else none
 |_,_=>none
theorem SG:OpD G (rIx G.K) dIx:=λx y z H0 H v u Q e s rx ry k=>by
 cases y with
 |int i=>
  unfold Rep at ry;subst ry;cases x with
  |tup ds=>unfold Rep at rx;obtain⟨a,xs,rfl,h1,h2⟩:=rx;obtain⟨w,w1,w2⟩:=Ao h2 (show atI ds i=some z from e);exact .inr (.inl ⟨a,xs,i,w,rfl,rfl,SqT.mono s h1,w1,k _ λH0' s'=>Rep.mono s' _ _ w2⟩)
  |lst ds=>unfold Rep at rx;obtain⟨a,xs,rfl,h1,h2⟩:=rx;obtain⟨w,w1,w2⟩:=Ao h2 (show atI ds i=some z from e);exact .inl ⟨a,xs,i,w,rfl,rfl,s.seq (SqL.of h1),w1,k _ λH0' s'=>Rep.mono s' _ _ w2⟩
  |fzl ds=>unfold Rep at rx;obtain⟨a,xs,rfl,h1,h2⟩:=rx;obtain⟨w,w1,w2⟩:=Ao h2 (show atI ds i=some z from e);exact .inl ⟨a,xs,i,w,rfl,rfl,s.seq h1,w1,k _ λH0' s'=>Rep.mono s' _ _ w2⟩
  |str t=>
   unfold Rep at rx;subst rx;unfold dIx at e;simp only at e;split at e
   ·rename_i hl;cases e1:atI t.cps.toList i with
    |none=>rw[e1]at e;cases e
    |some c=>rw[e1]at e;cases e;exact .inr (.inr ⟨t,i,c,rfl,rfl,As hl,e1,k _ λ_ _=>rR _⟩)
   ·cases e
  |_=>cases e
 |_=>cases x<;>cases e
theorem Ua(hK:X.K=G.K:=by rfl):IxR X (rIx G.K):=by rw[<-hK];exact On
def Av(G:Bg)(r:List V->Hp->VK->Prop)(g:D->Option D):Prop:=∀x z H0 H v (Q:VK),g x=some z->oA H0 H->Rep G H0 x v->(∀w,(∀H0',oA H0 H0'->Rep G H0' z w)->Q w H)->r [v] H Q
theorem JH{g:D->Option D}(hr:Av G r g)(h:PE X e (tCB r (tFA G (aCons f oT)))):PE X e (tF G (c1 g f)):=PE.weak h λσ H Q hh=>by obtain⟨F,ρ,H0,d,ρ',R,e,k⟩:=hh;obtain⟨x,e1,e2⟩:=xw e;refine⟨F,ρ,H0,[x],ρ',R,by unfold aCons;rw[e1];rfl,λys H1 H1' s R' rs=>?_⟩;unfold og at rs;obtain⟨v,r0,rfl,rv,rn⟩:=rs;unfold og at rn;subst rn;exact hr x d H1 H1' v Q e2 R'.sub rv λw hw=>k _ _ _ s R' (hw _ (oA.refl _))
theorem pK.or{f:aa}{r':List V->Hp->VK->Prop}(h:pK X f r)(h':pK X f r'):pK X f (λx H Q=>r x H Q\/r' x H Q):=λpins s σ H xs us Q I rv q=>q.elim (h pins s σ H xs us Q I rv) (h' pins s σ H xs us Q I rv)
def uq:D->Option D
 |.tup ds=>some (.int ds.length)
 |.lst ds=>some (.int ds.length)
 |.fzl ds=>some (.int ds.length)
 |.str x=>if x.length<=100000 then some (.int x.length)else none
 |.dic ks ds=>some (.int ks.length)
 |_=>none
theorem HM:pK X (.builtin "len") (λxs H Q=>∃a kvs,xs=[V.ref a]/\Rd H a (.dK kvs)/\Q (.int kvs.length) H):=by intro pins s σ H xs us Q I r h;obtain⟨a,kvs,rfl,ha,q⟩:=h;obtain⟨u,rfl,ru⟩:=vals1 r;cases ru;exact Si I ha λt s' I'=>⟨.int kvs.length,H,I',⟨t,rfl⟩,q⟩
def Nl(K:ak):List V->Hp->VK->Prop:=λxs H Q=>(∃p ys,xs=[.ref p]/\(SqL K H p ys\/SqT K H p ys)/\Q (.int ys.length) H)\/((∃z,xs=[.str z]/\z.length<=av/\Q (.int z.length) H)\/(∃a kvs,xs=[V.ref a]/\Rd H a (.dK kvs)/\Q (.int kvs.length) H))
theorem HN(hK:X.K=G.K:=by rfl):pK X (.builtin "len") (Nl G.K):=by rw[<-hK];exact pK.or CT (pK.or CU HM)
theorem O3:Av G (Nl G.K) uq:=λx z H0 H v Q e s rx k=>by
 cases x with
 |tup ds=>cases e;unfold Rep at rx;obtain⟨a,xs,rfl,h1,h2⟩:=rx;refine .inl ⟨a,xs,rfl,.inr (SqT.mono s h1),?_⟩;rw[<-oj h2];exact k _ λ_ _=>pY _
 |lst ds=>cases e;unfold Rep at rx;obtain⟨a,xs,rfl,h1,h2⟩:=rx;refine .inl ⟨a,xs,rfl,.inl (s.seq (SqL.of h1)),?_⟩;rw[<-oj h2];exact k _ λ_ _=>pY _
 |fzl ds=>cases e;unfold Rep at rx;obtain⟨a,xs,rfl,h1,h2⟩:=rx;refine .inl ⟨a,xs,rfl,.inl (s.seq h1),?_⟩;rw[<-oj h2];exact k _ λ_ _=>pY _
 |str t=>
  unfold uq at e;simp only at e;split at e
  ·rename_i hl;cases e;unfold Rep at rx;exact .inr (.inl ⟨t,by rw[rx],As hl,k _ λ_ _=>pY _⟩)
  ·cases e
 |dic ks ds=>cases e;unfold Rep at rx;obtain⟨a,o,xs,rfl,h1,h2,h3⟩:=rx;refine .inr (.inr ⟨a,_,rfl,.inr ⟨o,s _ _ h1⟩,?_⟩);rw[fI,<- h2,fL];exact k _ λ_ _=>pY _
 |_=>cases e
def JI:D->Option D
 |.int i=>some (.int i)
 |.bl b=>some (.int (if b then 1 else 0))
 |_=>none
theorem O4:Av G (λxs H Q=>(∃i,xs=[.int i]/\Q (.int i) H)\/∃k,xs=[.bl k]/\Q (.int (if k then 1 else 0)) H) JI:=λx z H0 H v Q e s rx k=>by
 cases x with
 |int i=>cases e;unfold Rep at rx;subst rx;exact .inl ⟨i,rfl,k _ λ_ _=>pY _⟩
 |bl b=>cases e;unfold Rep at rx;subst rx;exact .inr ⟨b,rfl,k _ λ_ _=>pY _⟩
 |_=>cases e
def Bu:List D->Option (List Bool)
 |[]=>some []
 |.bl b::r=>(Bu r).map (b::·)
 |_=>none
theorem Aw:∀{ds:List D} {xs:List V} {bs:List Bool},og G H ds xs->Bu ds=some bs->xs=bs.map V.bl
 |[],xs,bs,h,e=>by cases e;unfold og at h;exact h
 |.bl b::r,xs,bs,h,e=>by
  unfold og at h;obtain⟨v,q,rfl,h1,h2⟩:=h;unfold Bu at e;cases e1:Bu r with
  |none=>rw[e1]at e;cases e
  |some l=>rw[e1]at e;cases e;unfold Rep at h1;subst h1;rw[Aw h2 e1];rfl
 |.non::r,xs,bs,h,e=>by cases e
 |.int _::r,xs,bs,h,e=>by cases e
 |.str _::r,xs,bs,h,e=>by cases e
 |.tup _::r,xs,bs,h,e=>by cases e
 |.lst _::r,xs,bs,h,e=>by cases e
 |.fzl _::r,xs,bs,h,e=>by cases e
 |.obj _ _ _::r,xs,bs,h,e=>by cases e
 |.dic _ _::r,xs,bs,h,e=>by cases e
def rJ:D->Option D
 |.lst ds=>(Bu ds).map λbs=>.bl (bs.all id)
 |_=>none
theorem O5:Av G (λxs H Q=>∃(p:Addr) (bs:List Bool),xs=[.ref p]/\SqL G.K H p (bs.map V.bl)/\Q (.bl (bs.all id)) H) rJ:=λx z H0 H v Q e s rx k=>by
 cases x with
 |lst ds=>
  unfold rJ at e;simp only at e;cases e1:Bu ds with
  |none=>rw[e1]at e;cases e
  |some bs=>rw[e1]at e;cases e;unfold Rep at rx;obtain⟨a,xs,rfl,h1,h2⟩:=rx;rw[Aw h2 e1]at h1;exact⟨a,bs,rfl,s.seq (SqL.of h1),k _ λ_ _=>pZ _⟩
 |_=>cases e
theorem HP(hc:X.calm=true)(hK:X.K=G.K:=by rfl):pK X (.builtin "all") (λxs H Q=>∃(p:Addr) (bs:List Bool),xs=[.ref p]/\SqL G.K H p (bs.map V.bl)/\Q (.bl (bs.all id)) H):=by rw[<-hK];exact Je hc
inductive Ty where
 |b (n:String)|c (k:Nat)
def Ty.val(G:Bg):Ty->aa
 |.b n=>.type n
 |.c k=>.ref (G.ca k)
def Ty.v(G:Bg):Ty->V
 |.b n=>.ty n
 |.c k=>.ref (G.ca k)
def tyD:D->Ty
 |.non=>.b "NoneType" |.bl _=>.b "bool" |.int _=>.b "int" |.str _=>.b "str" |.tup _=>.b "tuple" |.lst _=>.b "list" |.fzl _=>.b "list" |.dic _ _=>.b "dict" |.obj c _ _=>.c c
structure Ea(K:ak)(C:Addr):Prop where
 cl:Cls K C
 ha:bV K (.ref C) "__class__" = some (some (.builtin "object.__class__"))
 hn:l9 K (.builtin "object.__class__") "__get__" = some (some (.builtin "getset_descriptor.__get__"))
 htk:W.takesIn K (.builtin "object.__class__")=some true
 hm:W.mroIn K C (.type "object")=some true
theorem JJ{pins:List (Addr×Obj)}{s:ab}{A:ar}{E:aa->ab->Prop}{Q:aa->ab->Prop}{c:aa}{b:Bool}{v:V}{u:aa}(I:Inv X pins σ H s)(hK:X.K=G.K)(hd:Rep G H d v)(rv:RelV v u)(hc:∀k ns ds,d=.obj k ns ds->Ea X.K (G.ca k))
  (e:bW X.K ((tyD d).val G) c=some b) (h:∀tk,Q (.bool b) { s with toks:=tk }):ae (model X.prog X.w) A (call (.builtin "isinstance") [u,c]) Q E s:=by
 cases d with
 |non=>unfold Rep at hd;subst hd;exact rY I rv .non e h
 |bl x=>unfold Rep at hd;subst hd;exact rY I rv (.bl x) e h
 |int x=>unfold Rep at hd;subst hd;exact rY I rv (.int x) e h
 |str x=>unfold Rep at hd;subst hd;exact rY I rv (.str x) e h
 |tup ds=>unfold Rep at hd;obtain⟨a,xs,rfl,h1,h2⟩:=hd;cases rv;rw[<-hK]at h1;obtain⟨its,_,p,_⟩:=I.tuple h1;obtain⟨o,q1,q2,_⟩:=p;exact bL i4 I.kIn ⟨o,q1,q2⟩ e (λz=>nomatch z) h
 |lst ds=>unfold Rep at hd;obtain⟨a,xs,rfl,h1,h2⟩:=hd;exact rY I rv (.lst h1) e h
 |fzl ds=>unfold Rep at hd;obtain⟨a,xs,rfl,h1,h2⟩:=hd;cases rv;rw[<-hK]at h1;obtain⟨its,_,p,_⟩:=I.list h1;obtain⟨o,n,q1,q2,_⟩:=p;exact bL fN I.kIn ⟨o,q1,q2⟩ e (λz=>nomatch z) h
 |dic ks ds=>unfold Rep at hd;obtain⟨a,o,xs,rfl,h1,h2,h3⟩:=hd;cases rv;obtain⟨q0,_,_,vs,_,ob,es,ep,q1,q2,_⟩:=(show pD X.prog X.w H s.heap a (.frz o (.dK (ks.zip xs))) from I.hok a _ h1);exact bL gE I.kIn ⟨ob,q1,q2.1⟩ e (λz=>nomatch z) h
 |obj k ns ds=>have ci:=hc k ns ds rfl;unfold Rep at hd;obtain⟨a,dx,xs,rfl,h1,h2,h3⟩:=hd;exact rY I rv (.ins h1 ci.cl ci.ha ci.hn ci.htk ci.hm) e h
def pj(t:Ty->Option Bool):D->Option D:=λd=>(t (tyD d)).map .bl
theorem BU(c:Ty){t:Ty->Option Bool}(ht:∀y b,t y=some b->bW X.K (y.val G) (c.val G)=some b)(hc:∀k b,t (.c k)=some b->Ea X.K (G.ca k))(hK:X.K=G.K:=by rfl):
  pK X (.builtin "isinstance") (λxs H Q=>∃d x b,xs=[x,c.v G]/\Rep G H d x/\t (tyD d)=some b/\Q (.bl b) H):=by
 intro pins s σ H xs us Q I r h;obtain⟨d,x,b,rfl,hd,e,q⟩:=h;obtain⟨u,w',rfl,ru,rw'⟩:=vals2 r;have ew:w'=c.val G:=by cases c<;>exact rw'
 subst ew;exact JJ I hK hd ru (λk ns ds z=>by subst z;exact hc k b e) (ht _ _ e) λtk=>⟨.bl b,H,I.tok _,rfl,q⟩
theorem Gk{c:Ty}{t:Ty->Option Bool}(h:PE X e (tCB (λxs H Q=>∃d x b,xs=[x,c.v G]/\Rep G H d x/\t (tyD d)=some b/\Q (.bl b) H) (wq (tF G f) (wq (tC (c.v G)) Bm)))):PE X e (tF G (c1 (pj t) f)):=PE.weak h λσ H Q hh=>by
 obtain⟨F,ρ,H0,d,ρ',R,e,k⟩:=hh;obtain⟨x,e1,e2⟩:=xw e;unfold pj at e2;cases e3:t (tyD x)with
 |none=>rw[e3]at e2;cases e2
 |some b=>rw[e3]at e2;cases e2;exact⟨F,ρ,H0,x,ρ',R,e1,λv H1 H1' s R' r=>⟨x,v,b,rfl,Rep.mono R'.sub _ _ r,e3,k _ _ _ s R' (pZ b)⟩⟩
def qQ(f g:FE):FA:=λρ=>match f ρ with
 |some (.lst xs,ρ1)=>match g ρ1 with
  |some (.lst ys,ρ2)=>if xs.length+ys.length<=1000 then some (xs++ys,ρ2)else none
  |_=>none
 |_=>none
theorem Mo{a:Expr}{g:FE}(ha:PE X a (tF G f))(hb:PE X b (tF G g)):PE X (.BinOp a .Add b pos) (tFN G (qQ f g)):=PE.weak (IH Os ha hb) λσ H Q hh=>by
 obtain⟨F,ρ,H0,d,ρ',R,e,k⟩:=hh;unfold qQ at e;split at e
 ·rename_i xs ρ1 e1;split at e
  ·rename_i ys ρ2 e2;split at e
   ·rename_i hl;cases e;refine⟨F,ρ,H0,_,ρ1,R,e1,λv H1 H1' s R' r=>⟨F,ρ1,H1,_,_,R',e2,λu H2 H2' s2 R2 r2=>?_⟩⟩;have r':=Rep.mono s2 _ _ r;unfold Rep at r' r2;obtain⟨a1,xs1,rfl,h1,h2⟩:=r';obtain⟨a2,xs2,rfl,h3,h4⟩:=r2;refine⟨a1,a2,xs1,xs2,rfl,rfl,R2.sub _ _ h1,R2.sub _ _ h3,by rw[<-oj h2,<- oj h4];exact qC hl,λp hp=>?_⟩;exact k p _ _ _ (s.trans s2) (R2.newOwn hp _) ox (R2.h0none hp) (R2.bNone hp) (R2.apart hp) (pU h2 h4)
   ·cases e
  ·cases e
 ·cases e
def sO(f:FE):FA:=λρ=>match f ρ with
 |some (d,ρ1)=>match JG d with
  |some ds=>some (ds,ρ1)
  |none=>none
 |none=>none
theorem JK(h:PE X e (tCB (λxs H Q=>∃p ys,xs=[.ref p]/\(SqL G.K H p ys\/SqT G.K H p ys)/\∀l,H l=none->Q (.ref l) (upd H l (.lst ys))) (tFA G (aCons f oT)))):PE X e (tFN G (sO f)):=PE.weak h λσ H Q hh=>by
 obtain⟨F,ρ,H0,ds,ρ',R,e,k⟩:=hh;unfold sO at e;rcases oN (f:=f) (ρ:=ρ)with e1|⟨d,ρ1,e1⟩<;>simp only[e1]at e
 ·cases e
 ·cases e2:JG d with
  |none=>simp only[e2]at e;cases e
  |some ds'=>simp only[e2]at e;cases e;refine⟨F,ρ,H0,[d],_,R,by unfold aCons;rw[e1];rfl,λys H1 H1' s R' rs=>?_⟩;unfold og at rs;obtain⟨v,r0,rfl,rv,rn⟩:=rs;unfold og at rn;subst rn;obtain⟨p,xs,rfl,h1,h2⟩:=Gi rv e2;exact⟨p,xs,rfl,Gj R'.sub h1,λl hl=>k l _ _ _ s (R'.newOwn hl _) ox (R'.h0none hl) (R'.bNone hl) (R'.apart hl) h2⟩
theorem Fg(hK:X.K=G.K:=by rfl):pK X (.type "list") (λxs H Q=>∃p ys,xs=[.ref p]/\(SqL G.K H p ys\/SqT G.K H p ys)/\∀l,H l=none->Q (.ref l) (upd H l (.lst ys))):=by rw[<-hK];exact CV
def Ax(f:FE):FE:=λρ=>match f ρ with
 |some (.lst ds,ρ1)=>some (.tup ds,ρ1)
 |some (.tup ds,ρ1)=>some (.tup ds,ρ1)
 |_=>none
theorem JL(h:PE X e (tCB (λxs H Q=>∃p ys,xs=[.ref p]/\((SqL G.K H p ys/\∀l,H l=none->Q (.ref l) (upd H l (.tup ys)))\/(SqT G.K H p ys/\Q (.ref p) H))) (tFA G (aCons f oT)))):PE X e (tF G (Ax f)):=PE.weak h λσ H Q hh=>by
 obtain⟨F,ρ,H0,ds,ρ',R,e,k⟩:=hh;unfold Ax at e;split at e
 ·rename_i xs ρ1 e1;cases e;refine⟨F,ρ,H0,[_],_,R,by unfold aCons;rw[e1];rfl,λys H1 H1' s R' rs=>?_⟩;unfold og at rs;obtain⟨v,r0,rfl,rv,rn⟩:=rs;unfold og at rn;subst rn;unfold Rep at rv;obtain⟨p,zs,rfl,h1,h2⟩:=rv;refine⟨p,zs,rfl,.inl ⟨SqL.of (R'.sub _ _ h1),λl hl=>?_⟩⟩;exact k _ _ _ (s.trans (oO (R'.h0none hl) _)) (R'.newIm hl _) (zW (SqT.of ox) (og.mono (oO (R'.h0none hl) _) _ _ h2))
 ·rename_i xs ρ1 e1;cases e;refine⟨F,ρ,H0,[_],_,R,by unfold aCons;rw[e1];rfl,λys H1 H1' s R' rs=>?_⟩;unfold og at rs;obtain⟨v,r0,rfl,rv,rn⟩:=rs;unfold og at rn;subst rn;have rv0:=rv;unfold Rep at rv;obtain⟨p,zs,rfl,h1,h2⟩:=rv;exact⟨p,zs,rfl,.inr ⟨SqT.mono R'.sub h1,k _ _ _ s R' rv0⟩⟩
 ·cases e
theorem HQ(hK:X.K=G.K:=by rfl):pK X (.type "tuple") (λxs H Q=>∃p ys,xs=[.ref p]/\((SqL G.K H p ys/\∀l,H l=none->Q (.ref l) (upd H l (.tup ys)))\/(SqT G.K H p ys/\Q (.ref p) H))):=by rw[<-hK];exact Bo
def cutD(xs:List D)(lo hi:Option Int):List D:=(xs.drop (HT.sIx xs.length 0 lo)).take (HT.sIx xs.length xs.length hi - HT.sIx xs.length 0 lo)
theorem Eb{lo hi:Option Int}(r:og G H0 ds xs):og G H0 (cutD ds lo hi) (Ho xs lo hi):=by unfold cutD Ho;rw[<-oj r];exact BP _ (BO _ r)
def cSl(f:FE)(lo hi:Option Int):FA:=λρ=>match f ρ with
 |some (.lst ds,ρ1)=>some (cutD ds lo hi,ρ1)
 |some (.fzl ds,ρ1)=>some (cutD ds lo hi,ρ1)
 |_=>none
def tO(o:Option Int):TO:=λ_ H Q=>Q o H
theorem HR{lo hi:Option Int}(h:PE X e (tSl (Hr G.K) (tF G f) (tO lo) (tO hi))):PE X e (tFN G (cSl f lo hi)):=PE.weak h λσ H Q hh=>by
 obtain⟨F,ρ,H0,ds,ρ',R,e,k⟩:=hh;have gen:∀{a:Addr} {xs:List V} {ds':List D} {H1 H1':Hp},oA H0 H1->oK G F σ ρ' H1 H1'->SqL G.K H1 a xs->og G H1 ds' xs->ds=cutD ds' lo hi->Hr G.K (.ref a) lo hi H1' Q:=λ{a xs ds' H1 H1'} s R' h1 h2 e=>by subst e;exact⟨a,xs,rfl,R'.sub.seq h1,λp hp=>k p _ _ _ s (R'.newOwn hp _) ox (R'.h0none hp) (R'.bNone hp) (R'.apart hp) (Eb h2)⟩
 unfold cSl at e;split at e
 ·rename_i xs ρ1 e1;cases e;refine⟨F,ρ,H0,_,_,R,e1,λv H1 H1' s R' r=>?_⟩;unfold Rep at r;obtain⟨a,ys,rfl,h1,h2⟩:=r;exact gen s R' (SqL.of h1) h2 rfl
 ·rename_i xs ρ1 e1;cases e;refine⟨F,ρ,H0,_,_,R,e1,λv H1 H1' s R' r=>?_⟩;unfold Rep at r;obtain⟨a,ys,rfl,h1,h2⟩:=r;exact gen s R' h1 h2 rfl
 ·cases e
theorem JM{n:Int}{j pos}:PO X (some (.Constant (.int n) j pos)) (tO (some n)):=λpins s σ H Q I h=>F5 ES pins s σ H Q I ⟨n,rfl,h⟩
theorem SI:PO X none (tO none):=F4
theorem SJ(hK:X.K=G.K:=by rfl):SlR X (Hr G.K):=by rw[<-hK];exact Lu
end
def Sl.bor:Sl->Sl
 |.un=>.un
 |.im d=>.im d
 |.ls ds=>.im (.lst ds)
 |.pm ds=>.im (.lst ds)
 |.dk _ _=>.un
 |.ob c ns ds=>.im (.obj c ns ds)
variable{fa fb:FE}{op':dU}
section
variable{X:Cx}{G:Bg}
theorem oK.bor{H:Hp}(R:oK G F σ ρ H0 H):oK G ⟨H,H,[]⟩ σ (ρ.map Sl.bor) H H where
 sub:=oA.refl _
 g0:=oA.refl _
 keep:=λb o e _=>e
 fr:=λb o e=>.inl e
 am:=λa h=>by cases h
 len:=by rw[aw];exact R.len
 sl:=λi s e=>by
  rw[aV]at e;cases e1:ρ[i]? with
  |none=>rw[e1]at e;cases e
  |some t=>
   rw[e1]at e;cases e;have ok:=R.sl i t e1;cases t with
   |un=>trivial
   |im d=>obtain⟨v,h1,h2⟩:=ok;exact⟨v,h1,Rep.mono R.sub _ _ h2⟩
   |ls ds=>obtain⟨a,xs,h1,h2,h3,h4,h5⟩:=ok;exact⟨_,h1,uj h2 (og.mono R.sub _ _ h5)⟩
   |pm ds=>obtain⟨a,xs,h1,h2,h3,h4,h5⟩:=ok;exact⟨_,h1,uj h2 (og.mono R.sub _ _ h5)⟩
   |dk ks ds=>trivial
   |ob c ns ds=>obtain⟨a,dx,xs,h1,h2,h3,h4,h5,h6⟩:=ok;exact⟨_,h1,by unfold Rep;exact⟨a,dx,xs,rfl,h2,h5,og.mono R.sub _ _ h6⟩⟩
 ap:=λi j s t a _ e _ so=>by
  rw[aV]at e;cases e1:ρ[i]? with
  |none=>rw[e1]at e;cases e
  |some t=>rw[e1]at e;cases e;cases t<;>cases so
theorem oK.unbor{σ':St}{H:Hp}(R:oK G F σ ρ H0 H)(R':oK G ⟨H,H,[]⟩ σ' ρ' H1 H1'):oK G F σ ρ H0 H1':=
 R.grow (λb o e=>R'.keep b o e (by simp)) (oA.refl _) (λb o e=>R'.keep b o (R.sub _ _ e) (by simp)) λb o e=>.inl e
def xD(f:FE):FE:=λρ=>match f (ρ.map Sl.bor)with
 |some (d,_)=>if qG d=true then some (d,ρ)else none
 |none=>none
def Ay(f:FT):FT:=λρ=>match f (ρ.map Sl.bor)with
 |some (d,_)=>some (d,ρ)
 |none=>none
theorem O6(h:PE X e (tF G f)):PE X e (tF G (xD f)):=PE.weak h λσ H Q hh=>by
 obtain⟨F,ρ,H0,d,ρ',R,e,k⟩:=hh;unfold xD at e;rcases oN (f:=f) (ρ:=ρ.map Sl.bor)with e1|⟨x,ρ1,e1⟩<;>simp only[e1]at e
 ·cases e
 ·split at e
  ·rename_i hf;cases e;refine⟨_,_,H,d,ρ1,R.bor,e1,λv H1 H1' s R' r=>?_⟩;rw[rk r hf];exact k _ _ _ (oA.refl _) (R.unbor R') (xA hf _)
  ·cases e
theorem Mp{f:FT}(h:PT X e (tFT G f)):PT X e (tFT G (Ay f)):=PT.weak h λσ H Q hh=>by
 obtain⟨F,ρ,H0,d,ρ',R,e,k⟩:=hh;unfold Ay at e;rcases oN (f:=f) (ρ:=ρ.map Sl.bor)with e1|⟨x,ρ1,e1⟩<;>simp only[e1]at e
 ·cases e
 ·cases e;exact⟨_,_,H,d,ρ1,R.bor,e1,λH1 H1' s R'=>k _ _ (oA.refl _) (R.unbor R')⟩
def q9(g g':D->D->Option D)(fa fb fc:FE):FE:=λρ=>match fa ρ with
 |some (x,ρ1)=>match fb ρ1 with
  |some (y,ρ2)=>match g x y with
   |some (.bl true)=>match fc ρ2 with
    |some (z,ρ3)=>match g' y z with
     |some w=>some (w,ρ3)
     |none=>none
    |none=>none
   |some (.bl false)=>some (.bl false,ρ2)
   |_=>none
  |none=>none
 |none=>none
theorem Ec{r:R2}{g:D->D->Option D}{fc:FE}(ho:OpD G r g)(ho':OpD G r' g'):∀σ H Q,tF G (q9 g g' fa fb fc) σ H Q->EW r r' (tF G fa) (tF G fb) (tF G fc) σ H Q:=λσ H Q hh=>by
 obtain⟨F,ρ,H0,d,ρ',R,e,k⟩:=hh;unfold q9 at e;rcases oN (f:=fa) (ρ:=ρ)with e1|⟨x,ρ1,e1⟩<;>simp only[e1]at e
 ·cases e
 rcases oN (f:=fb) (ρ:=ρ1)with e2|⟨y,ρ2,e2⟩<;>simp only[e2]at e
 ·cases e
 refine⟨F,ρ,H0,x,ρ1,R,e1,λv H1 H1' s1 R1 r1=>⟨F,ρ1,H1,y,ρ2,R1,e2,λu H2 H2' s2 R2 r2=>?_⟩⟩;split at e
 ·rename_i e3;refine ho x y _ H2 H2' v u _ e3 R2.sub (Rep.mono s2 _ _ r1) r2 λw hw=>?_;have hw':=hw H2 (oA.refl _);unfold Rep at hw';refine⟨true,hw',Dc ?_⟩;rcases oN (f:=fc) (ρ:=ρ2)with e4|⟨z,ρ3,e4⟩<;>simp only[e4]at e
  ·cases e
  cases e5:g' y z with
  |none=>simp only[e5]at e;cases e
  |some q=>simp only[e5]at e;cases e;refine⟨F,ρ2,H2,z,_,R2,e4,λt H3 H3' s3 R3 r3=>?_⟩;exact ho' y z _ H3 H3' u t Q e5 R3.sub (Rep.mono s3 _ _ r2) r3 λw hw=>k w H3 H3' (s1.trans (s2.trans s3)) R3 (hw _ (oA.refl _))
 ·rename_i e3;cases e;refine ho x y _ H2 H2' v u _ e3 R2.sub (Rep.mono s2 _ _ r1) r2 λw hw=>?_;have hw':=hw H2 (oA.refl _);unfold Rep at hw';exact⟨false,hw',Da (k _ _ _ (s1.trans s2) R2 (pZ false))⟩
 ·cases e
theorem JN{a c:Expr}{r:R2}{g:D->D->Option D}{fc:FE}(hr:OpR X (aO op) r)(hr':OpR X (aO op') r')(ho:OpD G r g)(ho':OpD G r' g')(ha:PE X a (tF G fa))(hb:PE X b (tF G fb))(hc:PE X c (tF G fc))
  (hm:lastMarks [op,op'] [b,c]=false:=by with_unfolding_all rfl):PE X (.Compare a [op,op'] [b,c] pos) (tF G (q9 g g' fa fb fc)):=PE.weak (IL hr hr' ha hb hc hm) (Ec ho ho')
theorem HS{a c:Expr}{r:R2}{g:D->D->Option D}{fc:FE}(hr:OpR X (aO op) r)(hr':OpR X (aO op') r')(ho:OpD G r g)(ho':OpD G r' g')(ha:PE X a (tF G fa))(hb:PE X b (tF G fb))(hc:PE X c (tF G fc))
  (hm:lastMarks [op,op'] [b,c]=false:=by with_unfolding_all rfl):PT X (.Compare a [op,op'] [b,c] pos) (tFT G (cT (q9 g g' fa fb fc))):=PT.weak (IM hr hr' ha hb hc hm) λσ H Q hh=>by
 obtain⟨F,ρ,H0,d,ρ',R,e,k⟩:=Gb σ H Q hh;exact Ec ho ho' σ H _ ⟨F,ρ,H0,d,ρ',R,e,k⟩
end
def wx(P:aq)(w:aj)(K:ak)(mg:Str->Option aa)(base:Heap)(k:Nat)(x:Str)(ps:List Str)(sp:Sp):Prop:=
 ∃(f:Addr) (fd:bq),mg x=some (.ref f)/\cA K (.ref f)=true/\Binds K fd ps []/\qZ P w K mg base CX0 k f fd ps sp
def Dg(G:Bg)(P:aq)(w:aj)(mg:Str->Option aa)(base:Heap)(k:Nat)(x:Str)(c:Nat)(ps:List Str)(dvs:List V)(g:List D->Option (List Str×List D)):Prop:=
 ∃(f:Addr) (fd:bq) (ds:List aa),Mk G.K (G.ca c) f/\mg x=some (.ref (G.ca c))/\Binds G.K fd ps ds/\Vals dvs ds/\qZ P w G.K mg base CX0 k f fd ps (spI G c g)
def ur(G:Bg)(P:aq)(w:aj)(mg:Str->Option aa)(base:Heap)(k:Nat)(m:Str)(c:Nat)(h:List D->Option D):Prop:=
 ∃(f:Addr) (fd:bq) (ps:List Str),Cls G.K (G.ca c)/\Meth G.K (G.ca c) m f/\Binds G.K fd ps []/\qZ P w G.K mg base CX0 k f fd ps (spF G h)
section
variable{X:Cx}{G:Bg}{k:Nat}{x m:Str}{p pos apos:Pos}{e o:Expr}{es:List Expr}{a:FA}{ps:List Str}
theorem zd{α:Type}(g:List D->α):(λds=>g (ds++[]))=g:=funext λds=>by rw[bI]
theorem O7{g:List D->Option D}(D:wx X.prog X.w X.K X.mg X.base k x ps (spF G g))(hr:pT k X.A)(ha:PA X (e::es) (tFA G a))(hg:Gl X x:=by rfl)(hdb:(x==("__debug__" : Str))=false:=by decide)(he:au (e::es) X.env=(false,eval e X.env)::au es X.env:=by rfl)(hpl:(aT pos (au es X.env)).any (·.1)=false:=by rfl):
  PE X (.Call (.Name x p) (e::es) [] pos) (tF G (oa g a)):=by
 obtain⟨f,fd,h1,h2,h3,h4⟩:=D;have q:=L7 (dvs:=[]) (dds:=[]) (λ_=>oV) (CO (p:=p) (pos:=pos) h4 hr hg h1 h2 h3 .nil BK ha hdb he hpl);rw[zd]at q;exact q
theorem Mq{g:List D->Option (List D)}(D:wx X.prog X.w X.K X.mg X.base k x ps (spN G g))(hr:pT k X.A)(ha:PA X (e::es) (tFA G a))(hg:Gl X x:=by rfl)(hdb:(x==("__debug__" : Str))=false:=by decide)(he:au (e::es) X.env=(false,eval e X.env)::au es X.env:=by rfl)(hpl:(aT pos (au es X.env)).any (·.1)=false:=by rfl):
  PE X (.Call (.Name x p) (e::es) [] pos) (tFN G (pF g a)):=by
 obtain⟨f,fd,h1,h2,h3,h4⟩:=D;have q:=Jt (dvs:=[]) (dds:=[]) (λ_=>oV) (CO (p:=p) (pos:=pos) h4 hr hg h1 h2 h3 .nil BK ha hdb he hpl);rw[zd]at q;exact q
theorem JO{g:List D->Option (List D)}(D:wx X.prog X.w X.K X.mg X.base k x ps (spN G g))(hr:pT k X.A)(hg:Gl X x:=by rfl)(hdb:(x==("__debug__" : Str))=false:=by decide):PE X (.Call (.Name x p) [] [] pos) (tFN G (pF g oT)):=by obtain⟨f,fd,h1,h2,h3,h4⟩:=D;exact HE (IT h4 hr hg h1 h2 h3 .nil BK hdb)
theorem Mr{g:List D->List D->Option (D×List D)}(D:wx X.prog X.w X.K X.mg X.base k x ps (spM G g))(hr:pT k X.A)(hv:PE X e (vm i))(ha:PA X es (tFA G a))(hg:Gl X x:=by rfl)(hdb:(x==("__debug__" : Str))=false:=by decide)(he:au (e::es) X.env=(false,eval e X.env)::au es X.env:=by rfl)(hpl:(aT pos (au es X.env)).any (·.1)=false:=by rfl):
  PE X (.Call (.Name x p) (e::es) [] pos) (tF G (pL g i a)):=by
 obtain⟨f,fd,h1,h2,h3,h4⟩:=D;exact OO (CO (p:=p) (pos:=pos) h4 hr hg h1 h2 h3 .nil BK (pW hv ha he) hdb he hpl)
theorem Ms{g:List D->Option (List Str×List D)}(M:Dg G X.prog X.w X.mg X.base k x c ps dvs g)(hd:∀H,og G H dds dvs)(hr:pT (k+1) X.A)(ha:PA X (e::es) (tFA G a))(hK:X.K=G.K:=by rfl)(hg:Gl X x:=by rfl)(hdb:(x==("__debug__" : Str))=false:=by decide)
  (he:au (e::es) X.env=(false,eval e X.env)::au es X.env:=by rfl) (hpl:(aT pos (au es X.env)).any (·.1)=false:=by rfl):
  PE X (.Call (.Name x p) (e::es) [] pos) (tF G (oG c (λds=>g (ds++dds)) a)):=by
 obtain⟨f,fd,ds,h1,h2,h3,h4,h5⟩:=M;rw[<-hK]at h1 h3 h5;exact L9 hd (Ln (p:=p) (pos:=pos) h1 h5 hr hg h2 h3 h4 BK ha hdb he hpl)
theorem Nm{g:Nat->Option (List D->Option D)}(M:∀c h,g c=some h->ur G X.prog X.w X.mg X.base k m c h)(hr:pT k X.A)(hK:X.K=G.K):∀C sp,MT G g C sp->MOk X C m sp [] E0:=λC sp h=>by obtain⟨c,h,e,rfl,rfl⟩:=h;obtain⟨f,fd,ps,q1,q2,q3,q4⟩:=M c h e;rw[<-hK]at q1 q2 q3 q4;exact⟨k,f,fd,ps,[],q1,q2,q4,hr,q3,.nil,BK⟩
theorem HU{g:Nat->Option (List D->Option D)}(M:∀c h,g c=some h->ur G X.prog X.w X.mg X.base k m c h)(hr:pT k X.A)(ho:PE X o (tF G f))(ha:PA X (e::es) (tFA G a))(hK:X.K=G.K:=by rfl)
  (hst:au (e::es) X.env=(false,eval e X.env)::au es X.env:=by rfl) (hpl:(aT pos (au es X.env)).any (·.1)=false:=by rfl)
  (ht:eval (.Call (.Attribute o m apos) (e::es) [] pos) X.env=(do
   let ov<-eval o X.env
   standAt apos.atName
   let (f,first)<-holding [ov] (getMethod ov m pl)
   callWith pos f first (aT pos (au (e::es) X.env)) (backToKw pos (cy [] X.env))):=by rfl):
  PE X (.Call (.Attribute o m apos) (e::es) [] pos) (tF G (oU g m f a)):=L8 (E:=E0) (Jv (dvs:=[]) (MT G g) (Nm M hr hK) ho ha hst hpl ht)
theorem Fh{g:Nat->Option (List D->Option D)}(M:∀c h,g c=some h->ur G X.prog X.w X.mg X.base k m c h)(hr:pT k X.A)(ho:PE X o (tF G f))(hK:X.K=G.K:=by rfl)
  (ht:eval (.Call (.Attribute o m apos) [] [] pos) X.env=(do
   let ov<-eval o X.env
   standAt apos.atName
   let (f,first)<-holding [ov] (getMethod ov m pl)
   callWith pos f first (aT pos (au [] X.env)) (backToKw pos (cy [] X.env))):=by rfl):
  PE X (.Call (.Attribute o m apos) [] [] pos) (tF G (oU g m f oT)):=Jw (E:=E0) (HG (dvs:=[]) (MT G g) (Nm M hr hK) ho ht)
end
section
variable{P:aq}{w:aj}{K:ak}{mg:Str->Option aa}{base:Heap}{x qual:Str}{st:Stmt}{f T:Addr}{fd:bq}{N ps:List Str}{k:Nat}{G:Bg}
abbrev ze(P:aq)(w:aj)(K:ak)(mg:Str->Option aa)(base:Heap)(N:List Str)(qual:Str)(st:Stmt)(f:Addr)(cdv:aa)(A:ar)(outer:List Env)(s:ab)(H:Hp)(E:XK):Cx:=(DJ CX0 P w K mg base N qual (oH st) f cdv A outer s H E).nox
theorem JP{n:Nat}{g:List D->Option D}{b:FS}(hg:g=fnD np n b)(hp:ps.length=np)(hN:N.length=n)(F:Fun K x qual st f fd)(S:pX N ps (oH st))(body:∀(cdv:aa) (A:ar) (outer:List Env) (s:ab) (H:Hp) (E:XK),pT k (A.deeper (envOfC qual (oH st) s.heap.objs.size f cdv))->PSs (ze P w K mg base N qual st f cdv A outer s H E) (oY st) (tFS G b)):
  qZ P w K mg base CX0 (k+1) f fd ps (spF G g):=by
 subst hg hp hN;exact F.ok S (Sv LZ) λcdv A outer s H vs Q E hr h=>⟨_,body cdv A outer s H E hr,LX (by have:=bf eS S.pre;rw[b9]at this;omega) h⟩
theorem SK{n:Nat}{g:List D->Option (List D)}{b:FS}(hg:g=fnN np n b)(hp:ps.length=np)(hN:N.length=n)(F:Fun K x qual st f fd)(S:pX N ps (oH st))(body:∀(cdv:aa) (A:ar) (outer:List Env) (s:ab) (H:Hp) (E:XK),pT k (A.deeper (envOfC qual (oH st) s.heap.objs.size f cdv))->PSs (ze P w K mg base N qual st f cdv A outer s H E) (oY st) (tFS G b)):
  qZ P w K mg base CX0 (k+1) f fd ps (spN G g):=by
 subst hg hp hN;exact F.ok S (Sw L0) λcdv A outer s H vs Q E hr h=>⟨_,body cdv A outer s H E hr,LY (by have:=bf eS S.pre;rw[b9]at this;omega) h⟩
theorem SL{n:Nat}{g:List D->List D->Option (D×List D)}{b:FS}{p:Str}{ps:List Str}(hg:g=fnM np n b)(hp:ps.length=np)(hN:N.length=n)(F:Fun K x qual st f fd)(S:pX N (p::ps) (oH st))(body:∀(cdv:aa) (A:ar) (outer:List Env) (s:ab) (H:Hp) (E:XK),pT k (A.deeper (envOfC qual (oH st) s.heap.objs.size f cdv))->PSs (ze P w K mg base N qual st f cdv A outer s H E) (oY st) (tFS G b)):
  qZ P w K mg base CX0 (k+1) f fd (p::ps) (spM G g):=by
 subst hg hp hN;exact F.ok S (Sy Mg) λcdv A outer s H vs Q E hr h=>⟨_,body cdv A outer s H E hr,Me (by have:=bf eS S.pre;rw[b9,aI]at this;omega) h⟩
theorem Np{g:List D->Option (List Str×List D)}(hg:∀ds q,g ds=some q->ds.length=np):∀vs H Q E,spI G c g vs H Q E->vs.length=np+1:=λvs H Q E h=>by obtain⟨p,dx,us,H0,ds,ns,es,rfl,_,_,_,r,e,_⟩:=h;rw[aI,<- oj r,hg _ _ e]
theorem SM{n:Nat}{g:List D->Option (List Str×List D)}{b:FS}{p:Str}{ps:List Str}(hg:g=fnI c np n b)(hp:ps.length=np)(hN:N.length=n)(F:Fun K x qual st f fd)(S:pX N (p::ps) (oH st))(body:∀(cdv:aa) (A:ar) (outer:List Env) (s:ab) (H:Hp) (E:XK),pT k (A.deeper (envOfC qual (oH st) s.heap.objs.size f cdv))->PSs (ze P w K mg base N qual st f cdv A outer s H E) (oY st) (tFS G b)):
  qZ P w K mg base CX0 (k+1) f fd (p::ps) (spI G c g):=by
 subst hg hp hN;exact F.ok S (Np λds q h=>(An h).1) λcdv A outer s H vs Q E hr h=>⟨_,body cdv A outer s H E hr,Ge (by have:=bf eS S.pre;rw[b9,aI]at this;omega) h⟩
theorem O8{n:Nat}{g:List D->Option (List Str×List D)}{b:FS}{p:Str}{ps:List Str}(hg:g=fnI c np n b)(hp:ps.length=np)(hN:N.length=n)(F:HB K x qual st f fd T)(S:pX N (p::ps) (oH st))(body:∀(cdv:aa) (A:ar) (outer:List Env) (s:ab) (H:Hp) (E:XK),pT k (A.deeper (envOfC qual (oH st) s.heap.objs.size f cdv))->PSs (ze P w K mg base N qual st f cdv A outer s H E) (oY st) (tFS G b)):
  qZ P w K mg base CX0 (k+1) f fd (p::ps) (spI G c g):=by
 subst hg hp hN;exact F.ok S (Np λds q h=>(An h).1) λcdv A outer s H vs Q E hr h=>⟨_,body cdv A outer s H E hr,Ge (by have:=bf eS S.pre;rw[b9,aI]at this;omega) h⟩
end
section
variable{X:Cx}{G:Bg}
def sP(G:Bg)(mg:Str->Option aa)(x:Str)(d:D):Prop:=∃(v:V) (u:aa),mg x=some u/\RelV v u/\∀H,Rep G H d v
theorem JQ{x:Str}(h:sP G X.mg x d)(hg:Gl X x:=by rfl)(hd:(x==("__debug__" : Str))=false:=by decide):PE X (.Name x pos) (tF G (cC d)):=by obtain⟨v,u,h1,h2,h3⟩:=h;exact LI (zV hg h1 h2 hd) h3
def Mt:FS:=λ_=>none
def tG(i:Nat)(j:Int)(f:FE):FS:=λρ=>match f ρ with
 |some (d,ρ1)=>match qc ρ1 i with
  |some ds=>match ixN ds.length j with
   |some k=>some (.nx (putAt ρ1 i (ds.set k d)))
   |none=>none
  |none=>none
 |none=>none
theorem HV{st:Stmt}{j:Int}(h:PS X st (xp (tF G f) (RP (vm i) (tC (.int j)) Nf))):PS X st (tFS G (tG i j f)):=PS.weak h λE σ H hh=>by
 obtain⟨F,ρ,H0,o,R,e,k,k2⟩:=hh;unfold tG at e;rcases oN (f:=f) (ρ:=ρ)with e1|⟨d,ρ1,e1⟩<;>simp only[e1]at e
 ·cases e
 cases e2:qc ρ1 i with
 |none=>simp only[e2]at e;cases e
 |some ds=>
  simp only[e2]at e;cases e3:ixN ds.length j with
  |none=>simp only[e3]at e;cases e
  |some m=>simp only[e3]at e;cases e;refine⟨F,ρ,H0,d,ρ1,R,e1,λv H1 H1' s R' r=>?_⟩;obtain⟨a,xs,s1,s2,s3,s4⟩:=rj R' e2;exact⟨.ref a,s1,a,xs,j,m,rfl,rfl,s2,by rw[<-oj s3];exact e3,k _ _ _ s (s4 _ _ (DV m s3 r))⟩
def pI(T:String):Ty->Option Bool
 |.b n=>if n="NoneType" then some false else if n="bool" then some (T=="bool" ||T=="int")else if n="int" then some (T=="int")else if n="str" then some (T=="str")else if n="tuple" then some (T=="tuple")else if n="list" then some (T=="list")else if n="dict" then some (T=="dict")else none
 |.c _=>none
theorem JR{T:String}:∀k b,pI T (.c k)=some b->Ea X.K (G.ca k):=λk b h=>by cases h
theorem JS:∀y b,pI "list" y=some b->bW X.K (y.val G) (.type "list")=some b:=λy b h=>by
 cases y with
 |c k=>cases h
 |b n=>
  unfold pI at h;simp only at h
  iterate 7 (split at h;· rename_i e;subst e;cases h;first|rfl|kernel_rfl)
  cases h
theorem Mu:∀y b,pI "str" y=some b->bW X.K (y.val G) (.type "str")=some b:=λy b h=>by
 cases y with
 |c k=>cases h
 |b n=>
  unfold pI at h;simp only at h
  iterate 7 (split at h;· rename_i e;subst e;cases h;first|rfl|kernel_rfl)
  cases h
end
end L4
namespace L3
open PySem PySem.Spec PyProof.Rows L2
theorem Mv{X:Cx}{i:Nat}{y:Str}{py spos:Pos}{elt iter tg:Expr}{ifs:List Expr}{scope:bQ}{pos:Pos}{N':List Str}{k:Nat}{cap:List Nat}{wi:TI}{g:TG}{tt:TT}{te:TE}
  (hc:X.calm=true) (hN:X.N.Nodup) (hy:X.N[i]?=some y) (hyl:Loc X.env.scope y) (hi:PI X tg iter wi)
  (body:∀(cl:List (Str×Addr)) (C:Addr) (fp:List Addr) (s:ab) (H:Hp),PG (pO X N' scope cl C fp s H) tg g/\PIf (pO X N' scope cl C fp s H) ifs tt/\PE (pO X N' scope cl C fp s H) elt te)
  (hkind:scope.kind=.function:=by rfl) (hcell:(scope.names.all λy=>y.2 != .cell)=true:=by rfl)
  (hloc:(scope.names.all λy=>y.2 != .local||scope.names.lookup y.1==some .local)=true:=by rfl)
  (hfree:(scope.names.all λy=>y.2 != .free||(X.env.kindOf y.1==some .cell||X.env.kindOf y.1==some .free))=true:=by rfl)
  (hlen:N'.length=k+cap.length:=by rfl) (hcap:(N'.drop k).map some=cap.map λj=>X.N[j]?:=by rfl)
  (hcf:((N'.drop k).all λx=>scope.names.lookup x==some .free)=true:=by rfl)
  (hs:∀x,fA iter X.env x=pure x:=by intro _;rfl)
  (hsw:cz (.ListComp elt [⟨tg,iter,ifs,0⟩] scope pos) (some (.Name y py)) spos.line X.env=pure true:=by rfl)
  (hfy:X.fn y=true\/X.env.scope.names.lookup y=some .local:=by first|exact .inl rfl|exact .inr rfl|assumption):
  PS X (.Assign [.Name y py] (.ListComp elt [⟨tg,iter,ifs,0⟩] scope pos) spos) (xp (Ai wi g tt te k cap) (tN i)):=by
 intro pins s σ H D I h;rw[exec_Assign_Name_used _ _ _ _ hsw];refine af (iU (af ?_));show ae _ X.A (do let _<-comprehension (.ListComp elt [⟨tg,iter,ifs,0⟩] scope pos) scope X.env _ (newList []) false (eval iter X.env) (some (assign (.Name y py) X.env))) _ _ s;refine af (bt (BN (P:=λ_ s'=>SP X pins D .next s') hc hi body hkind hcell hloc hfree hlen hcap hcf hs I h λa C m u s4 H3 hn back fpC qn=>?_) (λ_ s' hq=>ao (ao hq)) λ_ _ e=>e);obtain⟨oC,esC,nC,gC,dC,rC⟩:=id hn;have I7:=back.pinned (fp:=[C]) (λb hb=>aU.mp hb▸fpC) (λb hb=>aU.mp hb▸⟨oC,gC,λv z=>by rw[dC]at z;cases z⟩);show ae _ X.A (assign (.Name y py) X.env (.ref a)) _ _ s4;refine thn (FZ (pos:=py) hN hy hyl hfy _ s4 σ H3 (.ref a) (.ref a) (λσ' H'=>D.nx σ' H') I7 rfl qn) λ_ s6 zz=>?_;obtain⟨σ6,H6,I8,q6⟩:=zz;obtain⟨p1,p2,_⟩:=I8.pin (C,oC) (bM _ (bM _ (sg (by simp) gC)));exact⟨m,⟨oC,esC,nC,p1,dC,rC⟩,λh' hs'=>⟨σ6,H6,I8.unpinned.turned (t':=s6.toks) (λb o hb e=>(hs'.2 b hb).trans e) p2 fpC.2.1 fpC.2.2.2.1 fpC.2.2.2.2.1 fpC.2.2.2.2.2,q6⟩⟩
end L3
namespace L4
open PySem PySem.Spec PyProof.Rows L2 L3
variable{te:TE}{i:Nat}{ft:FT}{fe:FE}
section
variable{X:Cx}{G:Bg}
theorem Ed{st:Stmt}{te':TE}{g:TG}(h:PS X st (xp te g))(w:∀σ H Q,te' σ H Q->te σ H Q):PS X st (xp te' g):=PS.weak h λE σ H hh=>w _ _ _ hh
theorem JT{st:Stmt}{k:Nat}{cap:List Nat}{s:FA}{g:FG}(nd:cap.Nodup)(h:PS X st (xp (Ai (tFI G s) (tFG G k g) (tFT G ft) (tF G fe) k cap) (tN i))):PS X st (tFS G (oP i (cL (oS k cap s g ft fe)))):=Gd (Ed (Ed h (Gf nd)) Su)
end
variable{es0 es':List D}{np:Nat}
section
variable{f g h:FS}{c:FT}{e e' e2:FE}{a a':FA}{ρ ρ' ρ1 ρ2 ρ3:List Sl}{d x y z:D}{o:Out}{ds xs ys:List D}
theorem om(h:f ρ=some (.nx ρ')):oe f g ρ=g ρ':=by unfold oe;rw[h]
theorem qm(h:f ρ=some (.rt d ρ')):oe f g ρ=some (.rt d ρ'):=by unfold oe;rw[h]
theorem qp(h:c ρ=some (true,ρ')):sIf c f g ρ=f ρ':=by unfold sIf;rw[h]
theorem pM(h:c ρ=some (false,ρ')):sIf c f g ρ=g ρ':=by unfold sIf;rw[h]
theorem pQ(h:e ρ=some (d,ρ')):oP i e ρ=some (.nx (ρ'.set i (.im d))):=by unfold oP;rw[h]
theorem Mw(h:a ρ=some (ds,ρ')):uQ i a ρ=some (.nx (ρ'.set i (.ls ds))):=by unfold uQ;rw[h]
theorem sk(h:e ρ=some (d,ρ')):oo e ρ=some (.rt d ρ'):=by unfold oo;rw[h]
theorem Mx(h:a ρ=some (ds,ρ')):qb a ρ=some (.rn ds ρ'):=by unfold qb;rw[h]
theorem zZ(h:e ρ=some (d,ρ')):o4 e ρ=some (.nx ρ'):=by unfold o4;rw[h]
theorem Ee{k:Nat}{j:Int}(h:e ρ=some (d,ρ1))(h1:qc ρ1 i=some ds)(h2:ixN ds.length j=some k):tG i j e ρ=some (.nx (putAt ρ1 i (ds.set k d))):=by unfold tG;rw[h];simp only[h1,h2]
theorem oW{g:D->D->Option D}(h1:e ρ=some (x,ρ1))(h2:e' ρ1=some (y,ρ2))(h3:g x y=some z):c2 g e e' ρ=some (z,ρ2):=by unfold c2;rw[h1];simp only[h2,h3]
theorem tW{g:D->Option D}(h1:e ρ=some (x,ρ1))(h3:g x=some z):c1 g e ρ=some (z,ρ1):=by unfold c1;rw[h1];simp only[h3]
theorem Fi(h1:e (ρ.map Sl.bor)=some (d,ρ1))(hf:qG d=true):xD e ρ=some (d,ρ):=by unfold xD;rw[h1];simp only[hf,if_true]
theorem AA{b:Bool}(h1:e ρ=some (.bl b,ρ1)):cT e ρ=some (b,ρ1):=by unfold cT;rw[h1]
theorem z4{b:Bool}(h1:c ρ=some (b,ρ1)):pN c ρ=some (!b,ρ1):=by unfold pN;rw[h1]
theorem Fj{b:Bool}{c':FT}(h1:c ρ=some (false,ρ1))(h2:c' ρ1=some (b,ρ2)):rH c c' ρ=some (b,ρ2):=by unfold rH;rw[h1];exact h2
theorem oJ(h1:e ρ=some (d,ρ1))(h2:a ρ1=some (ds,ρ2)):aCons e a ρ=some (d::ds,ρ2):=by unfold aCons;rw[h1];simp only[h2]
theorem pb{α:Type}{g:List D->Option α}{r:α}(h1:a ρ=some (ds,ρ1))(h2:g ds=some r):yE g a ρ=some (r,ρ1):=by unfold yE;rw[h1];simp only[h2]
theorem yH(h1:a ρ=some (ds,ρ1)):cL a ρ=some (.lst ds,ρ1):=by unfold cL;rw[h1]
theorem JU(h1:a ρ=some (ds,ρ1))(hl:ds.length<=1000):oM a ρ=some (ds,ρ1):=by unfold oM;rw[h1];simp only[hl,if_true]
theorem AB(h1:a ρ=some (ds,ρ1))(hl:ds.length<=1000):oQ a ρ=some (.tup ds,ρ1):=by unfold oQ;rw[h1];simp only[hl,if_true]
theorem Fk(h1:e ρ=some (.lst xs,ρ1))(h2:e' ρ1=some (.lst ys,ρ2))(hl:xs.length+ys.length<=1000):qQ e e' ρ=some (xs++ys,ρ2):=by unfold qQ;rw[h1];simp only[h2,hl,if_true]
theorem Fl{g:List D->List D->Option (D×List D)}{es:List D}(h0:qc ρ i=some es0)(h1:a ρ=some (ds,ρ1))(h2:qc ρ1 i=some es)(h3:g es ds=some (d,es')):pL g i a ρ=some (d,putAt ρ1 i es'):=by unfold pL;rw[h0];simp only[h1,h2,h3]
theorem Fm{es:List D}(h0:qc ρ i=some es0)(h1:e ρ=some (d,ρ1))(h2:qc ρ1 i=some es)(hl:es.length<1000):xx i e ρ=some (.non,putAt ρ1 i (es++[d])):=by unfold xx;rw[h0];simp only[h1,h2,hl,if_true]
theorem vv{s:FA}{g:FG}(h1:s ρ=some (ds,ρ1)):qd s g f ρ=forL g f ds ρ1:=by unfold qd;rw[h1]
theorem sQ{k:Nat}{cap:List Nat}{s:FA}{g:FG}(h1:s ρ=some (ds,ρ1))(hl:ds.length<=1000):oS k cap s g ft fe ρ=tT k cap g ft fe ds ρ1:=by unfold oS;rw[h1];simp only[hl,if_true]
theorem yI{n:Nat}{b:FS}{es:List D}(hl:ds.length=np)(h:b (L4.stM n es ds)=some (.rt d ρ))(h0:zc ρ=some es'):fnM np n b es ds=some (d,es'):=by unfold fnM;rw[ah hl,h];simp only[h0]
theorem p6{n:Nat}{b:FS}(hl:ds.length=np)(h:b (L4.stE n ds)=some (.rt d ρ)):fnD np n b ds=some d:=by unfold fnD;rw[ah hl,h]
end
def vw(es:List D):Prop:=(∃c,es=[.int c])\/∃q r n,es=[.int q,.int r,.int n]
theorem tX{a b:Int}(h:um a=true\/um b=true):tU (.int a) (.int b)=some (.int (a * b)):=by unfold tU dI;simp only;rw[ah (by simpa using h)]
theorem v8{a b:Int}(h:0<b):rp (.int a) (.int b)=some (.int (a % b)):=by unfold rp dI;simp only;rw[ah (by simpa using h)]
theorem div_pos{a b:Int}(h:0<b)(h':b<1073741824):wu (.int a) (.int b)=some (.int (a / b)):=by unfold wu dI;simp only;rw[ah (by simp[h,h'])]
theorem Ef{a:Int}(h:0<=a)(h':a<2147483647):um a=true:=by unfold um;simp only[aE,aX];omega
def uu:D->Option Key
 |.int i=>some (.inl i)
 |.str x=>some (.inr x)
 |_=>none
def vx:List Key->List D->Key->Option D
 |k::ks,d::ds,j=>if k=j then some d else vx ks ds j
 |_,_,_=>none
def My(ks:List Key)(ds:List D)(k:Key)(d:D):List D:=dR (λk' d'=>if k'=k then d else d') ks ds
def Bv(ks:List Key)(k:Key):Bool:=ks.any λk'=>decide (k'=k)
variable{d:D}{a:Addr}{kvs:List (Key×V)}{b tg e:Expr}{f f' fk:FE}{pos apos cpos:Pos}
section
variable{X:Cx}{G:Bg}{H:Hp}
theorem uv{v:V}{k:Key}(h:Rep G H d v)(e:uu d=some k):v=kV k:=by
 cases d<;>first|cases e|skip
 all_goals (unfold Rep at h;exact h)
theorem vy:∀{ks:List Key} {ds:List D} {xs:List V} (j:Key),og G H ds xs->ks.length=xs.length->match vx ks ds j with
  |some d=>∃v,qL (ks.zip xs) j=some v/\Rep G H d v
  |none=>qL (ks.zip xs) j=none
 |[],ds,xs,j,r,l=>by cases ds<;>rfl
 |k::ks,ds,[],j,r,l=>by cases l
 |k::ks,[],x::xs,j,r,l=>by unfold og at r;cases r
 |k::ks,d::ds,x::xs,j,r,l=>by
  unfold og at r;obtain⟨v,q,e,h1,h2⟩:=r;cases e;unfold vx;by_cases hk:k=j
  ·rw[ah hk];exact⟨x,xt (p:=(k,x)) hk,h1⟩
  ·rw[ag hk];have ih:=vy (ks:=ks) (ds:=ds) (xs:=xs) j h2 (by simpa using l);have e1:qL ((k::ks).zip (x::xs)) j=qL (ks.zip xs) j:=xu (p:=(k,x)) hk;rw[e1];exact ih
theorem Dh{k:Key}:∀{ks:List Key} {xs:List V},ks.length=xs.length->((ks.zip xs).any λkv=>decide (kv.1=k))=Bv ks k
 |[],xs,_=>by cases xs<;>rfl
 |k'::ks,[],l=>by cases l
 |k'::ks,x::xs,l=>by unfold Bv;rw[dv,dM,dM,Dh (by simpa using l)];rfl
theorem Gm{k:Key}{v:V}:∀{ks:List Key} {xs:List V},ks.length=xs.length->(ks.zip xs).map (λkv=>if kv.1=k then (kv.1,v)else kv)=ks.zip (dR (λk' x=>if k'=k then v else x) ks xs)
 |[],xs,_=>by cases xs<;>rfl
 |k'::ks,[],l=>by cases l
 |k'::ks,x::xs,l=>by
  rw[dv,aW,Gm (by simpa using l),fj,dv];congr 1;by_cases hk:k'=k
  ·rw[ah hk,ah hk]
  ·rw[ag hk,ag hk]
theorem Eg{k:Key}{d:D}{v:V}(hd:Rep G H d v):∀{ks:List Key} {ds:List D} {xs:List V},og G H ds xs->ks.length=xs.length->og G H (My ks ds k d) (dR (λk' x=>if k'=k then v else x) ks xs)
 |[],ds,xs,r,l=>by unfold My;cases ds<;>cases xs<;>exact oV
 |k'::ks,ds,[],r,l=>by cases l
 |k'::ks,[],x::xs,r,l=>by unfold og at r;cases r
 |k'::ks,d'::ds,x::xs,r,l=>by
  unfold og at r;obtain⟨w,q,e,h1,h2⟩:=r;cases e;unfold My;rw[fj,fj];refine oZ ?_ (Eg hd h2 (by simpa using l));by_cases hk:k'=k
  ·rw[ah hk,ah hk];exact hd
  ·rw[ag hk,ag hk];exact h1
theorem _root_.L2.DGet.kf{H:Hp}{o:Obj}{k:Key}(e:H a=some (.frz o (.dK kvs))):DGet H a (kV k) (qL kvs k):=.inl ⟨kvs,k,.inr ⟨o,e⟩,rfl,rfl⟩
def BV:D->D->Option D:=λx y=>match x,uu y with
 |.dic ks ds,some k=>vx ks ds k
 |_,_=>none
theorem Mz{a:Expr}(hu:X.A.units+1<cLine)(ha:PE X a (tF G f))(hb:PE X b (tF G f'))(hs:Ot b:=by exact λ_ _=>rfl):PE X (.Subscript a b pos) (tF G (c2 BV f f')):=PE.weak (Lx hu ha hb hs) λσ H Q hh=>by
 obtain⟨F,ρ,H0,d,ρ',R,e,k⟩:=hh;obtain⟨x,y,ρ1,e1,e2,e3⟩:=v7 e;refine⟨F,ρ,H0,x,ρ1,R,e1,λv H1 H1' s1 R1 r1=>⟨F,ρ1,H1,y,ρ',R1,e2,λu H2 H2' s2 R2 r2=>?_⟩⟩;have r1':=Rep.mono s2 _ _ r1;cases x with
 |dic ks ds=>
  unfold BV at e3;cases ek:uu y with
  |none=>simp only[ek]at e3;cases e3
  |some j=>simp only[ek]at e3;unfold Rep at r1';obtain⟨p,ob,xs,rfl,h1,h2,h3⟩:=r1';have lv:=vy (ks:=ks) j h3 h2;rw[e3]at lv;obtain⟨w,w1,w2⟩:=lv;refine⟨p,w,rfl,?_,k w H2 H2' (s1.trans s2) R2 w2⟩;rw[uv r2 ek,<- w1];exact DGet.kf (R2.sub _ _ h1)
 |_=>unfold BV at e3;cases e3
def wz:D->D->Option D:=λx y=>match x,uu y with
 |.dic ks ds,some k=>some ((vx ks ds k).getD .non)
 |_,_=>none
theorem JV{a:Expr}(hu:X.A.units+1<cLine)(ha:PE X a (tF G f))(hb:PE X b (tF G f'))(m:M1 X a "get" apos b cpos):PE X (.Call (.Attribute a "get" apos) [b] [] cpos) (tF G (c2 wz f f')):=PE.weak (Jb hu ha hb m) λσ H Q hh=>by
 obtain⟨F,ρ,H0,d,ρ',R,e,k⟩:=hh;obtain⟨x,y,ρ1,e1,e2,e3⟩:=v7 e;cases x with
 |dic ks ds=>
  refine⟨F,ρ,H0,_,ρ1,R,e1,λv H1 H1' s1 R1 r1=>?_⟩;have r1':=r1;unfold Rep at r1';obtain⟨p,ob,xs,rfl,h1,h2,h3⟩:=r1';refine⟨p,rfl,.inl ⟨_,.inr ⟨_,R1.sub _ _ h1⟩⟩,F,ρ1,H1,y,ρ',R1,e2,λu H2 H2' s2 R2 r2=>?_⟩;unfold wz at e3;cases ek:uu y with
  |none=>simp only[ek]at e3;cases e3
  |some j=>
   simp only[ek]at e3;cases e3;have lv:=vy (ks:=ks) j (og.mono s2 _ _ h3) h2;refine⟨qL (ks.zip xs) j,?_,?_⟩
   ·rw[uv r2 ek];exact DGet.kf (R2.sub _ _ (s2 _ _ h1))
   ·cases el:vx ks ds j with
    |none=>rw[el]at lv k;rw[lv];exact k _ H2 H2' (s1.trans s2) R2 sL
    |some z=>rw[el]at lv k;obtain⟨w,w1,w2⟩:=lv;rw[w1];exact k _ H2 H2' (s1.trans s2) R2 w2
 |_=>unfold wz at e3;cases e3
def AC(i:Nat):FS:=λρ=>some (.nx (ρ.set i (.dk [] [])))
theorem JW{st:Stmt}(h:PS X st (xp E6 (tN i))):PS X st (tFS G (AC i)):=PS.weak h λE σ H hh=>by obtain⟨F,ρ,H0,o,R,e,k,k2⟩:=hh;cases e;intro p hp;have R1:=R.newOwn hp (.dK []);refine k _ _ _ (oA.refl _) (R1.set (s:=.dk [] []) ⟨p,[],rfl,ox,R.h0none hp,R.bNone hp,rfl,oV⟩ λ_ a ea j t _ ej to=>?_);cases ea;exact R.apart hp j t ej to
def uw(i:Nat)(fk fv:FE):FS:=λρ=>match fv ρ with
 |some (d,ρ1)=>match ρ1[i]? with
  |some (.dk _ _)=>match fk ρ1 with
   |some (y,ρ2)=>match uu y with
    |some k=>match ρ2[i]? with
     |some (.dk ks ds)=>if ks.length<1000 then if ds.length=ks.length then some (.nx (ρ2.set i (if Bv ks k=true then .dk ks (My ks ds k d)else .dk (ks++[k]) (ds++[d]))))else none else none
     |_=>none
    |none=>none
   |none=>none
  |_=>none
 |none=>none
theorem JX{st:Stmt}{fv:FE}(h:PS X st (Ni (vm i) (tF G fk) (tF G fv))):PS X st (tFS G (uw i fk fv)):=PS.weak h λE σ H hh=>by
 obtain⟨F,ρ,H0,o,R,e,k,k2⟩:=hh;unfold uw at e;rcases oN (f:=fv) (ρ:=ρ)with e1|⟨d,ρ1,e1⟩<;>simp only[e1]at e
 ·cases e
 split at e
 ·rename_i ks0 ds0 ei;rcases oN (f:=fk) (ρ:=ρ1)with e2|⟨y,ρ2,e2⟩<;>simp only[e2]at e
  ·cases e
  cases ek:uu y with
  |none=>simp only[ek]at e;cases e
  |some j=>
   simp only[ek]at e;split at e
   ·rename_i ks ds ei2;split at e
    ·rename_i hl;split at e
     ·rename_i hl2;cases e;refine⟨F,ρ,H0,d,ρ1,R,e1,λv H1 H1' s1 R1 r1=>?_⟩;obtain⟨a0,xs0,a1,_⟩:=R1.sl i _ ei;refine⟨_,qO a1,F,ρ1,H1,y,ρ2,R1,e2,λu H2 H2' s2 R2 r2=>?_⟩;obtain⟨a,xs,b1,b2,b3,b4,b5,b6⟩:=R2.sl i _ ei2;rw[a1]at b1;cases b1;refine⟨a0,upd H2' a0 (.dK (putK (ks.zip xs) j v)),rfl,?_,?_⟩
      ·rw[uv r2 ek];exact IY.k b2 (by rw[fI];exact il (Nat.min_le_left _ _) (v5 (by omega)))
      ·have rv:=Rep.mono s2 _ _ r1;refine k _ _ _ (s1.trans s2) (R2.mut ei2 rfl a1 (λH' hH=>?_) ?_)
       ·by_cases hk:Bv ks j=true
        ·rw[ah hk];refine⟨a0,dR (λk' x=>if k'=j then v else x) ks xs,rfl,?_,b3,b4,by rw[ib,b5,fL],Eg rv b6 b5⟩;rw[hH];unfold putK;rw[Dh b5,ah hk,Gm b5]
        ·rw[ag hk];refine⟨a0,xs++[v],rfl,?_,b3,b4,by rw[aM,aM,b5];rfl,pU b6 (oZ rv oV)⟩;rw[hH];unfold putK;rw[Dh b5,ag hk,kR b5];rfl
       ·split<;>rfl
     ·cases e
    ·cases e
   ·cases e
 ·cases e
def HW:D->Option D
 |.lst ds=>(Bu ds).map λbs=>.bl (bs.any id)
 |_=>none
theorem HX(hc:X.calm=true)(hK:X.K=G.K:=by rfl):pK X (.builtin "any") (λxs H Q=>∃(p:Addr) (bs:List Bool),xs=[.ref p]/\SqL G.K H p (bs.map V.bl)/\Q (.bl (bs.any id)) H):=by
 rw[<-hK];intro pins s σ H xs us Q I r h;obtain⟨p,bs,rfl,hq,q⟩:=h;obtain⟨u,rfl,ru⟩:=vals1 r;cases ru;obtain⟨its,rv,pl,hz⟩:=I.list hq;have hlt:p<s.heap.objs.size:=by obtain⟨o,ho,_⟩:=pl.isList;exact aA ho
 have hl:bs.length=its.length:=by have:=rv.length;rw[aw]at this;exact this
 refine call_any_walk (d0 pl.isList ⟨s.heap.objs.size,_,_,_,_,_,λi=>(bs[i]?).getD false,rfl,fP (show X.A.in1.handled=none from I.ok.hd hc) _ p (aD hlt) its.toArray,⟨⟨_,aQ _ rfl,rfl,rfl⟩,?_⟩,?_,λh' tk hk=>?_⟩)
 ·exact pl.isList.at λo e=>az _ e
 ·intro i v s' Q' E' hv hQ';have hv':its[i]?=some v:=by simpa using hv
  have hi:i<its.length:=(bb.mp hv').1;have hb:(bs.map V.bl)[i]?=some (.bl (bs[i]'(by omega))):=by simp[show i<bs.length by omega]
  obtain⟨u,hu,ru⟩:=rv.get hb;rw[hv']at hu;cases hu;cases ru;refine b0 ?_;have e:(bs[i]?).getD false=bs[i]'(by omega):=by simp[show i<bs.length by omega]
  rw[<-e];exact hQ'
 ·refine⟨.bl (bs.any id),H,?_,?_,q⟩
  ·exact I.kept (t':=tk) λb o e=>hk b o (by simp;exact aD (aA e)) (az _ e)
  ·show Value.bool _=Value.bool _;congr 1;rw[aK,<- hl];rw[cp];simp only[gv,bh,id];constructor
   ·rintro⟨i,hi,h⟩;exact⟨bs[i],iB hi,by simpa [hi]using h⟩
   ·rintro⟨b,hb,h⟩;obtain⟨i,hi,rfl⟩:=c5.mp hb;exact⟨i,hi,by simpa [hi]using h⟩
theorem O9:Av G (λxs H Q=>∃(p:Addr) (bs:List Bool),xs=[.ref p]/\SqL G.K H p (bs.map V.bl)/\Q (.bl (bs.any id)) H) HW:=λx z H0 H v Q e s rx k=>by
 cases x with
 |lst ds=>
  unfold HW at e;simp only at e;cases e1:Bu ds with
  |none=>rw[e1]at e;cases e
  |some bs=>rw[e1]at e;cases e;unfold Rep at rx;obtain⟨a,xs,rfl,h1,h2⟩:=rx;rw[Aw h2 e1]at h1;exact⟨a,bs,rfl,s.seq (SqL.of h1),k _ λ_ _=>pZ _⟩
 |_=>cases e
def iS(f:FE):FA:=λρ=>match f ρ with
 |some (.str x,ρ')=>some (x.cps.toList.map λc=>D.str ⟨#[c]⟩,ρ')
 |_=>none
theorem MA(h:PI X tg e (Sk (tF G f))):PI X tg e (tFI G (iS f)):=PI.weak h λσ H R hh=>by
 obtain⟨F,ρ,H0,ds,ρ',R,e,k⟩:=hh;unfold iS at e;split at e
 ·rename_i x ρ1 e1;cases e;refine⟨F,ρ,H0,_,_,R,e1,λv H1 H1' s R' r=>?_⟩;unfold Rep at r;refine⟨x,r,k _ _ _ s R' λi H2 H2' t t'=>⟨λd ed=>?_,λhl=>?_⟩⟩
  ·rw[aV]at ed;cases ec:x.cps.toList[i]? with
   |none=>rw[ec]at ed;cases ed
   |some c=>
    rw[ec]at ed;cases ed;have ec':x.cps[i]?=some c:=by simpa using ec
    refine⟨(fW.mp ec').1,λz H3 y=>?_⟩;obtain⟨e3,c',hc',rfl⟩:=y;rw[ec']at hc';cases hc';subst e3;exact⟨H2,oA.refl _,t',oA.refl _,λb o e=>.inl e,rR _⟩
  ·show i=x.cps.size;rw[hl,aw];simp
 ·cases e
def Ei(f g:FE):FE:=λρ=>match f ρ with
 |some (.tup (x::xs),ρ1)=>match g ρ1 with
  |some (.tup ys,ρ2)=>if xs.length+ys.length<=900 then some (.tup (x::xs++ys),ρ2)else none
  |_=>none
 |_=>none
theorem MB{a:Expr}{g:FE}(ha:PE X a (tF G f))(hb:PE X b (tF G g))(hK:X.K=G.K:=by rfl):PE X (.BinOp a .Add b pos) (tF G (Ei f g)):=PE.weak (IH Lq ha hb) λσ H Q hh=>by
 rw[hK];obtain⟨F,ρ,H0,d,ρ',R,e,k⟩:=hh;unfold Ei at e;split at e
 ·rename_i x xs ρ1 e1;split at e
  ·rename_i ys ρ2 e2;split at e
   ·rename_i hl;cases e;refine⟨F,ρ,H0,_,ρ1,R,e1,λv H1 H1' s R' r=>⟨F,ρ1,H1,_,_,R',e2,λu H2 H2' s2 R2 r2=>?_⟩⟩;have r':=Rep.mono s2 _ _ r;have r0:=r';unfold Rep at r' r2;obtain⟨a1,xs1,rfl,h1,h2⟩:=r';obtain⟨a2,xs2,rfl,h3,h4⟩:=r2;have l1:=oj h2;have l2:=oj h4;rw[aI]at l1;refine⟨a1,a2,xs1,xs2,rfl,rfl,SqT.mono R2.sub h1,SqT.mono R2.sub h3,(λz=>by rw[z]at l1;cases l1),by rw[<-l1,<- l2];exact qC (by omega),λz=>?_,λ_ p hp=>?_⟩
    ·have ey:ys=[]:=by rw[z]at l2;exact fY.mp l2
     subst ey;rw[bI]at k;exact k _ _ _ (s.trans s2) R2 r0
    ·exact k _ _ _ ((s.trans s2).trans (oO (R2.h0none hp) _)) (R2.newIm hp _) (zW (SqT.of ox) (og.mono (oO (R2.h0none hp) _) _ _ (pU h2 h4)))
   ·cases e
  ·cases e
 ·cases e
end
section
variable{X:Cx}{G:Bg}
abbrev FO:=List Sl->Option (Option Int×List Sl)
def tFO(G:Bg)(f:FO):TO:=λσ H Q=>∃F ρ H0 d ρ',oK G F σ ρ H0 H/\f ρ=some (d,ρ')/\∀H0' H',oA H0 H0'->oK G F σ ρ' H0' H'->Q d H'
def oNo:FO:=λρ=>some (none,ρ)
def oAt(f:FE):FO:=λρ=>match f ρ with
 |some (.int i,ρ')=>some (some i,ρ')
 |_=>none
theorem PO.weak{e:Option Expr}{t t':TO}(h:PO X e t)(w:∀σ H Q,t' σ H Q->t σ H Q):PO X e t':=λpins s σ H Q I hq=>h pins s σ H Q I (w _ _ _ hq)
theorem Pa:PO X none (tFO G oNo):=PO.weak F4 λσ H Q hh=>by obtain⟨F,ρ,H0,d,ρ',R,e,k⟩:=hh;cases e;exact k _ _ (oA.refl _) R
theorem Pb(h:PE X e (tF G f)):PO X (some e) (tFO G (oAt f)):=PO.weak (F5 h) λσ H Q hh=>by
 obtain⟨F,ρ,H0,d,ρ',R,e,k⟩:=hh;unfold oAt at e;split at e
 ·rename_i i ρ1 e1;cases e;refine⟨F,ρ,H0,_,_,R,e1,λv H1 H1' s R' r=>?_⟩;unfold Rep at r;exact⟨i,r,k _ _ s R'⟩
 ·cases e
def Fn(f:FE)(lo hi:FO):FA:=λρ=>match f ρ with
 |some (d,ρ1)=>match d with
  |.lst ds=>match lo ρ1 with
   |some (l,ρ2)=>match hi ρ2 with
    |some (h,ρ3)=>some (cutD ds l h,ρ3)
    |none=>none
   |none=>none
  |.fzl ds=>match lo ρ1 with
   |some (l,ρ2)=>match hi ρ2 with
    |some (h,ρ3)=>some (cutD ds l h,ρ3)
    |none=>none
   |none=>none
  |_=>none
 |none=>none
theorem Fo{lo hi:FO}(h:PE X e (tSl (Hr G.K) (tF G f) (tFO G lo) (tFO G hi))):PE X e (tFN G (Fn f lo hi)):=PE.weak h λσ H Q hh=>by
 obtain⟨F,ρ,H0,ds,ρ',R,e,k⟩:=hh;unfold Fn at e;rcases oN (f:=f) (ρ:=ρ)with e1|⟨d,ρ1,e1⟩<;>simp only[e1]at e
 ·cases e
 have gen:∀(xs:List D),(∀{H1:Hp} {v:V},Rep G H1 d v->∃a ys,v=.ref a/\SqL G.K H1 a ys/\og G H1 xs ys)->(match lo ρ1 with
   |some (l,ρ2)=>match hi ρ2 with
    |some (h,ρ3)=>some (cutD xs l h,ρ3)
    |none=>none
   |none=>none)=some (ds,ρ')->tSl (Hr G.K) (tF G f) (tFO G lo) (tFO G hi) σ H Q:=λxs rd e=>by
  rcases oN (f:=lo) (ρ:=ρ1)with e2|⟨l,ρ2,e2⟩<;>simp only[e2]at e
  ·cases e
  rcases oN (f:=hi) (ρ:=ρ2)with e3|⟨u,ρ3,e3⟩<;>simp only[e3]at e
  ·cases e
  cases e;refine⟨F,ρ,H0,d,ρ1,R,e1,λv H1 H1' s1 R1 r1=>⟨F,ρ1,H1,l,ρ2,R1,e2,λH2 H2' s2 R2=>⟨F,ρ2,H2,u,_,R2,e3,λH3 H3' s3 R3=>?_⟩⟩⟩;obtain⟨a,ys,rfl,q1,q2⟩:=rd (Rep.mono (s2.trans s3) _ _ r1);exact⟨a,ys,rfl,R3.sub.seq q1,λp hp=>k p _ _ _ (s1.trans (s2.trans s3)) (R3.newOwn hp _) ox (R3.h0none hp) (R3.bNone hp) (R3.apart hp) (Eb q2)⟩
 cases d with
 |lst xs=>exact gen xs (λr=>by unfold Rep at r;obtain⟨a,ys,rfl,q1,q2⟩:=r;exact⟨a,ys,rfl,SqL.of q1,q2⟩) e
 |fzl xs=>exact gen xs (λr=>by unfold Rep at r;exact r) e
 |_=>cases e
end
variable{t:Ty->Option Bool}
section
variable{X:Cx}{G:Bg}
def xb:FE:=λ_=>none
theorem JY:PE X e (tF G xb):=λpins s σ H Q I h=>by obtain⟨F,ρ,H0,d,ρ',R,e,_⟩:=h;cases e
def AD(f f' f2:FE):FE:=λρ=>match f ρ with
 |some (.dic ks ds,ρ1)=>match f' ρ1 with
  |some (y,ρ2)=>match f2 ρ2 with
   |some (x,ρ3)=>match uu y with
    |some k=>some ((vx ks ds k).getD x,ρ3)
    |none=>none
   |none=>none
  |none=>none
 |_=>none
theorem JZ{a c:Expr}{f2:FE}(hu:X.A.units+1<cLine)(ha:PE X a (tF G f))(hb:PE X b (tF G f'))(hc:PE X c (tF G f2))(m:M2 X a "get" apos b c cpos):PE X (.Call (.Attribute a "get" apos) [b,c] [] cpos) (tF G (AD f f' f2)):=PE.weak (Jc hu ha hb hc m) λσ H Q hh=>by
 obtain⟨F,ρ,H0,d,ρ',R,e,k⟩:=hh;unfold AD at e;split at e
 ·rename_i ks ds ρ1 e1;rcases oN (f:=f') (ρ:=ρ1)with e2|⟨y,ρ2,e2⟩<;>simp only[e2]at e
  ·cases e
  rcases oN (f:=f2) (ρ:=ρ2)with e3|⟨x,ρ3,e3⟩<;>simp only[e3]at e
  ·cases e
  cases ek:uu y with
  |none=>simp only[ek]at e;cases e
  |some j=>
   simp only[ek]at e;cases e;refine⟨F,ρ,H0,_,ρ1,R,e1,λv H1 H1' s1 R1 r1=>?_⟩;unfold Rep at r1;obtain⟨p,ob,xs,rfl,h1,h2,h3⟩:=r1;refine⟨p,rfl,.inl ⟨_,.inr ⟨_,R1.sub _ _ h1⟩⟩,F,ρ1,H1,y,ρ2,R1,e2,λu H2 H2' s2 R2 r2=>⟨F,ρ2,H2,x,_,R2,e3,λz H3 H3' s3 R3 r3=>?_⟩⟩;have lv:=vy (ks:=ks) j (og.mono (s2.trans s3) _ _ h3) h2;refine⟨qL (ks.zip xs) j,?_,?_⟩
   ·rw[uv r2 ek];exact DGet.kf (R3.sub _ _ (s3 _ _ (s2 _ _ h1)))
   ·cases el:vx ks ds j with
    |none=>rw[el]at lv k;rw[lv];exact k _ H3 H3' (s1.trans (s2.trans s3)) R3 r3
    |some w=>rw[el]at lv k;obtain⟨w',w1,w2⟩:=lv;rw[w1];exact k _ H3 H3' (s1.trans (s2.trans s3)) R3 w2
 ·cases e
def AE(G:Bg)(c:Nat)(t:Ty->Option Bool):Prop:=(∀y b,t y=some b->bW G.K (y.val G) (.ref (G.ca c))=some b)/\∀j b,t (.c j)=some b->Ea G.K (G.ca j)
theorem Fp{c:Nat}(h:AE G c t)(hK:X.K=G.K:=by rfl):pK X (.builtin "isinstance") (λxs H Q=>∃d x b,xs=[x,(Ty.c c).v G]/\Rep G H d x/\t (tyD d)=some b/\Q (.bl b) H):=
 BU (X:=X) (.c c) (by rw[hK];exact h.1) (by rw[hK];exact h.2) hK
end
def ddp(acc:List Key)(k:Key):List Key:=if acc.any (λz=>decide (z=k))then acc else acc++[k]
def tH(ks:List Key):List Key:=ks.foldl ddp []
theorem MC(acc:List Key)(k j:Key):(ddp acc k).any (λz=>decide (z=j))=(acc.any (λz=>decide (z=j))||decide (j=k)):=by
 unfold ddp;by_cases h:acc.any (λz=>decide (z=k))=true
 ·rw[ah h];by_cases e:j=k
  ·subst e;rw[h];simp
  ·simp[e]
 ·rw[ag h,List.any_append];by_cases e:j=k
  ·subst e;simp
  ·have hb:¬k=j:=λz=>e z.symm;simp[hb,e]
theorem Gp(acc:List Key)(k:Key):(ddp acc k).length=if acc.any (λz=>decide (z=k))=true then acc.length else acc.length+1:=by unfold ddp;split<;>simp
theorem BW(ks:List Key)(i:Nat)(h:i<ks.length):tH (ks.take (i+1))=ddp (tH (ks.take i)) ks[i]:=by unfold tH;rw[kx,aJ h,iu];rfl
theorem J0(ks:List Key):(tH ks).length<=ks.length:=by
 have gen:∀(l:List Key) (acc:List Key),(l.foldl ddp acc).length<=acc.length+l.length:=by
  intro l
  induction l with
  |nil=>intro acc;simp
  |cons k l ih=>
   intro acc;rw[eL,aI];have h1:=ih (ddp acc k);have h2:(ddp acc k).length<=acc.length+1:=by rw[Gp];split<;>omega
   omega
 have:=gen ks [];simpa [tH]using this
theorem set_same{prog:aq}{w:aj}{h:Heap}{S S':Key->Bool}{n n':Nat}(hS:h.SetOf (oF prog w) a S n)(e:∀k,S k=S' k)(en:n=n'):h.SetOf (oF prog w) a S' n':=by obtain rfl:S=S':=funext e;subst en;exact hS
section
variable{prog:aq}{w:aj}{A:ar}{R:cE->ab->Prop}{I:Addr}{fp wr:List Addr}{GG:Array dS->Array dS->Prop}{n:Nat}{PP:Nat->aa->Prop}{SS:Nat->ab->Prop}
theorem J1(W:WalksS prog w A.in1 I fp wr GG n PP SS)(S:Addr)(hSf:S∉fp)(ks:List Key)(hn:ks.length=n)
  (hval:∀i v (h:i<ks.length),PP i v->(oF prog w).is ks[i] v=true/\v.scannable=true) (hb:n+1<scanBound):∀(k i:Nat) (s:ab),n - i=k->i<=n->SS i s->
   s.heap.SetOf (oF prog w) S (λj=>(tH (ks.take i)).any (λz=>decide (z=j))) (tH (ks.take i)).length->
   (∀s',Moved (S::wr) GG s s'->s'.heap.SetOf (oF prog w) S (λj=>(tH ks).any (λz=>decide (z=j))) (tH ks).length->R (.ok (.ret .none)) s')->
   bH (model prog w) A (.builtin "set.update.loop" ⟨[.ref S,.ref I],[]⟩) R s:=by
 have hSw:S∉wr:=λz=>hSf (W.sub _ z);have up:∀b∈wr,b∈S::wr:=λb z=>aG _ z;intro k
 induction k with
 |zero=>
  intro i s hk hi hst hS hR;obtain rfl:i=n:=by omega
  refine cu dW ?_;rw[cI cg _];show ae _ A.in1 (pyNext (.ref I)>>=_) _ _ s;refine af (W.done s _ _ hst λs' hm=>?_);show ae _ A.in1 (ret Value.none) _ _ s';rw[hG (by omega)]at hS;refine ao (hR s' (hm.mono up) ?_);obtain⟨o,es,ep,t,ho,more⟩:=hS;exact⟨o,es,ep,t,hm.heap S _ hSw ho,more⟩
 |succ k ih=>
  intro i s hk hi hst hS hR;have hlt:i<n:=by omega
  have hlk:i<ks.length:=by omega
  refine cu dW ?_;rw[cI cg _];show ae _ A.in1 (pyNext (.ref I)>>=_) _ _ s;refine af (W.item i s _ _ hlt hst λv s' hP hst' hm=>?_);obtain⟨kv,sc⟩:=hval i v hlk hP;have hS':s'.heap.SetOf (oF prog w) S (λj=>(tH (ks.take i)).any (λz=>decide (z=j))) (tH (ks.take i)).length:=by obtain⟨o,es,ep,t,ho,more⟩:=hS;exact⟨o,es,ep,t,hm.heap S _ hSw ho,more⟩
  show ae _ A.in1 (holding [v] (setAdd S v)>>=_) _ _ s';refine af (bz ?_);unfold setAdd;refine bz ?_;refine af ((oF prog w).pyHash (k:=ks[i]) kv ?_);have room:(tH (ks.take i)).length+1<scanBound:=by have:=J0 (ks.take i);rw[b9]at this;omega
  refine wpAny_setAddHashed_of (knd:=oF prog w) (s:={ s' with toks:=s'.toks+1 }) kv sc hS' room λh' hsb hS2=>?_;have hSi:h'.SetOf (oF prog w) S (λj=>(tH (ks.take (i+1))).any (λz=>decide (z=j))) (tH (ks.take (i+1))).length:=
   set_same hS2 (λj=>by rw[BW ks i hlk,MC]) (by rw[BW ks i hlk,Gp])
  refine ao ⟨dN cg _,ih (i+1) _ (by omega) hlt (W.frame _ s' _ _ hst' (eR _) λb z o e=>?_) hSi λs'' hm'' hS''=>?_⟩
  ·rw[hsb.2 b (λy:b=S=>hSf (by rw[<-y];exact z))];exact e
  ·refine hR s'' (gG W.gtrans ((hm.mono up).then_heap (eR _) λb o z e=>?_) hm'') hS'';rw[hsb.2 b (λy:b=S=>z (by rw[y];exact aH))];exact e
end
theorem MD(l:Addr)(us:Array aa)(m:Nat)(b:Addr)(o:Obj)(ws:Array aa)(m2:Nat)(hc:o.cls=.type "tuple")(hd:o.data=.seq ws m2)(z0:¬(!us.isEmpty&&eY (us.size+ws.size))=true)(z1:us.size<=av)(z2:us.size+ws.size<=av+1):
  Meets (cf.«list.extend» ⟨[.ref l,.ref b],[]⟩) (λ_ R s=>s.heap.get? l=some { cls:=.type "list", data:=.seq us m }/\s.heap.get? b=some o/\R (.ok (.ret Value.none)) { s with heap:=s.heap.update l (bK λx=>x++ws),toks:=s.toks }):=by
 obtain⟨c,dd,data,sl⟩:=o;cases hc;cases hd;refine .of_wp λprog w A R s h=>?_;obtain⟨hp,g,d,tk,os⟩:=s;obtain⟨hl,hb,h⟩:=h;have f2:=AutoSeq1.sub_tuple_tuple;have f3:=AutoSeq1.sub_list_list;have f4:=AutoSeq1.sub_tuple_list;have f5:=AutoSeq1.sub_list_tuple;have z3:(us++ws).size<=av+1:=Array.size_append (xs:=us) (ys:=ws)▸z2
 wp_walk using (iK hl rfl (hz:=z1) (_hz':=z3)),jE hl,jE hb
 exact⟨_,rfl,h⟩
section
variable{X:Cx}{G:Bg}
def Ej(K:ak):V->List V->Hp->VK->Prop:=λx vs H Q=>∃l b xs zs,x=.ref l/\vs=[.ref b]/\H l=some (.lst xs)/\SqT K H b zs/\xs.length+zs.length<=av/\Q .non (upd H l (.lst (xs++zs)))
theorem Fq:MtM X "list.extend" (Ej X.K):=by
 intro pins s σ H x vs v us Q I rx rv h;obtain⟨l,b,xs,zs,rfl,rfl,hH,hB,hz,q⟩:=h;cases rx;obtain⟨u,rfl,ru⟩:=rv.one;cases ru;obtain⟨z,its,n,r,hl,e⟩:=I.lstM hH;obtain⟨its2,r2,⟨o,e2,hc,n2,hd⟩,hz2⟩:=I.tuple hB;have hl2:=r2.length;have hsz:its.toArray.size+its2.toArray.size<=av:=by rw[aK,aK];omega
 have hlong:¬(!its.toArray.isEmpty&&eY (its.toArray.size+its2.toArray.size))=true:=by rw[DN hsz,lg];exact aN
 refine jo gf ⟨_,e,rfl⟩ j5 (jV _ _)
  (MD l its.toArray n b o its2.toArray n2 hc hd hlong (by rw[aK];omega) (by omega)) ⟨e,e2,?_⟩
 refine⟨.non,_,I.lset (its':=its++its2) hH e (by simp) (r.append r2) ?_,rfl,q⟩;rw[aM];omega
def Ek(i:Nat)(f:FE):FE:=λρ=>match qc ρ i with
 |some _=>match f ρ with
  |some (.tup es,ρ1)=>match qc ρ1 i with
   |some ds=>if ds.length+es.length<=1000 then some (.non,putAt ρ1 i (ds++es))else none
   |none=>none
  |_=>none
 |none=>none
theorem Fs(h:PE X e (tBM G.K "list" (Ej G.K) (vm i) (wq (tF G f) Bm))):PE X e (tF G (Ek i f)):=PE.weak h λσ H Q hh=>by
 obtain⟨F,ρ,H0,d,ρ',R,e,k⟩:=hh;unfold Ek at e;cases e0:qc ρ i with
 |none=>simp only[e0]at e;cases e
 |some ds0=>
  simp only[e0]at e;rcases oN (f:=f) (ρ:=ρ)with e1|⟨x,ρ1,e1⟩<;>simp only[e1]at e
  ·cases e
  ·cases x with
   |tup es=>
    cases e2:qc ρ1 i with
    |none=>simp only[e2]at e;cases e
    |some ds=>
     simp only[e2]at e;split at e
     ·rename_i hl;cases e;obtain⟨a,xs,s1,s2,s3,_⟩:=rj R e0;refine⟨.ref a,s1,.inl ⟨rfl,xs,SqL.of s2⟩,F,ρ,H0,_,ρ1,R,e1,λv H1 H1' s R' rs=>?_⟩;unfold Rep at rs;obtain⟨p,ys,rfl,hp,rs⟩:=rs;obtain⟨a',xs',t1,t2,t3,t4⟩:=rj R' e2;rw[s1]at t1;cases t1;refine⟨a,p,xs',ys,rfl,rfl,t2,SqT.mono R'.sub hp,?_,k _ _ _ s (t4 _ _ (pU t3 rs)) sL⟩;rw[<-oj t3,<- oj rs];exact qC hl
     ·cases e
   |_=>cases e
end
variable{σ:St}{u:aa}{its:List aa}
section
variable{X:Cx}{G:Bg}{H:Hp}
theorem Pc{pins:List (Addr×Obj)}{s:ab}{v:V}(I:Inv X pins σ H s)(hK:X.K=G.K)(hd:Rep G H d v)(rv:RelV v u)(hc:∀k ns ds,d=.obj k ns ds->Ea X.K (G.ca k)):
  ∃HH:Heap->Prop,W.KitX X.K u ((tyD d).val G) HH/\HH s.heap/\u≠.builtin "__main__.__loader__#opaque" := by
 cases d with
 |non=>unfold Rep at hd;subst hd;cases (show u=Value.none from rv);exact⟨_,md,True.intro,λz=>nomatch z⟩
 |bl x=>unfold Rep at hd;subst hd;cases (show u=Value.bool x from rv);exact⟨_,me,True.intro,λz=>nomatch z⟩
 |int x=>unfold Rep at hd;subst hd;obtain⟨t,q⟩:=(show ∃t,u=Value.int x t from rv);cases q;exact⟨_,W.kitx_int,True.intro,λz=>nomatch z⟩
 |str x=>unfold Rep at hd;subst hd;obtain⟨t,q⟩:=(show ∃t,u=Value.str x t from rv);cases q;exact⟨_,W.kitx_str,True.intro,λz=>nomatch z⟩
 |tup ds=>unfold Rep at hd;obtain⟨a,xs,rfl,h1,h2⟩:=hd;cases rv;rw[<-hK]at h1;obtain⟨its,_,⟨o,q1,q2,_⟩,_⟩:=I.tuple h1;exact⟨_,i4,⟨o,q1,q2⟩,λz=>nomatch z⟩
 |lst ds=>unfold Rep at hd;obtain⟨a,xs,rfl,h1,h2⟩:=hd;cases rv;obtain⟨_,_,n,_,q⟩:=(show pD X.prog X.w H s.heap a (.lst xs) from I.hok a _ h1);exact⟨_,fN,⟨_,q,rfl⟩,λz=>nomatch z⟩
 |fzl ds=>unfold Rep at hd;obtain⟨a,xs,rfl,h1,h2⟩:=hd;cases rv;rw[<-hK]at h1;obtain⟨its,_,⟨o,n,q1,q2,_⟩,_⟩:=I.list h1;exact⟨_,fN,⟨o,q1,q2⟩,λz=>nomatch z⟩
 |dic ks ds=>unfold Rep at hd;obtain⟨a,ob,xs,rfl,h1,h2,h3⟩:=hd;cases rv;obtain⟨_,_,_,vs,_,o,es,ep,q1,q2,_⟩:=(show pD X.prog X.w H s.heap a (.frz ob (.dK (ks.zip xs))) from I.hok a _ h1);exact⟨_,gE,⟨o,q1,q2.1⟩,λz=>nomatch z⟩
 |obj k ns ds=>have ci:=hc k ns ds rfl;unfold Rep at hd;obtain⟨a,dx,xs,rfl,h1,h2,h3⟩:=hd;cases rv;obtain⟨mA,O,_⟩:=sI I.hok h1;obtain⟨od,J,_⟩:=O.look;exact⟨_,W.kitx_own (ci.cl.get _) ci.cl.hd ci.ha ci.hn ci.htk ci.hm,J,λz=>nomatch z⟩
def HY(G:Bg)(cs:List Nat):List V:=cs.map λc=>.ref (G.ca c)
def J2(G:Bg)(cs:List Nat):List aa:=cs.map λc=>.ref (G.ca c)
theorem J3(cs:List Nat)(r:Vals (HY G cs) its):its=J2 G cs:=by
 induction cs generalizing its with
 |nil=>cases r;rfl
 |cons c cs ih=>
  cases r with
  |cons r rr=>cases r;exact bf _ (ih rr)
def Gq(G:Bg)(cs:List Nat)(t:Ty->Option Bool):Prop:=(∀y b,t y=some b->W.kitAny G.K (y.val G) (J2 G cs)=some b)/\∀j b,t (.c j)=some b->Ea G.K (G.ca j)
theorem Ft{cs:List Nat}(ht:Gq G cs t)(hK:X.K=G.K:=by rfl):pK X (.builtin "isinstance") (λxs H Q=>∃d x b tp,xs=[x,.ref tp]/\H tp=some (.tup (HY G cs))/\Rep G H d x/\t (tyD d)=some b/\Q (.bl b) H):=by
 intro pins s σ H xs us Q I r h;obtain⟨d,x,b,tp,rfl,h1,hd,e,q⟩:=h;obtain⟨u,w',rfl,ru,rw'⟩:=vals2 r;cases rw';obtain⟨HH,Z,z,ne⟩:=Pc I hK hd ru λk ns ds y=>by subst y;rw[hK];exact ht.2 k b e
 obtain⟨_,its,rv,⟨⟨c,dd,da,sl⟩,q1,q2,n,q3⟩⟩:=(show pD X.prog X.w H s.heap tp (.tup (HY G cs)) from I.hok tp _ h1);cases q2;cases q3;have ei:=J3 cs rv;subst ei;exact W.kia_tup Z I.kIn z q1 (by rw[hK];exact ht.1 _ _ e) ne λtk=>⟨.bl b,H,I.tok _,rfl,q⟩
def Pd(G:Bg):List Nat->TA
 |[]=>Bm
 |c::r=>wq (tC (.ref (G.ca c))) (Pd G r)
theorem Gr:∀(cs:List Nat) (σ:St) (H:Hp) (Q:List V->Hp->Prop),Q (HY G cs) H->Pd G cs σ H Q
 |[],_,_,_,h=>h
 |c::r,σ,H,Q,h=>Gr r σ H (λxs H2=>Q (.ref (G.ca c)::xs) H2) h
theorem J4{cs:List Nat}(h:PE X e (tCB (λxs H Q=>∃d x b tp,xs=[x,.ref tp]/\H tp=some (.tup (HY G cs))/\Rep G H d x/\t (tyD d)=some b/\Q (.bl b) H) (wq (tF G f) (wq (R0 (Pd G cs)) Bm))))(hl:cs.length<=1000:=by decide):PE X e (tF G (c1 (pj t) f)):=PE.weak h λσ H Q hh=>by
 obtain⟨F,ρ,H0,d,ρ',R,e,k⟩:=hh;obtain⟨x,e1,e2⟩:=xw e;unfold pj at e2;cases e3:t (tyD x)with
 |none=>rw[e3]at e2;cases e2
 |some b=>
  rw[e3]at e2;cases e2;refine⟨F,ρ,H0,x,ρ',R,e1,λv H1 H1' s R' r=>Gr cs _ _ _ ⟨?_,λp hp=>?_⟩⟩
  ·unfold HY;rw[aw];exact qC hl
  ·exact⟨x,v,b,p,rfl,ox,Rep.mono (R'.sub.trans (oO hp _)) _ _ r,e3,k _ _ _ (s.trans (oO (R'.h0none hp) _)) (R'.newIm hp _) (pZ b)⟩
end
abbrev one(j:Nat)(led pl:Bool):aP:=⟨7,#[j],#[],0,led,0,pl⟩
variable{ks:List Key}
section
variable{prog:aq}{w:aj}{A:ar}{E:aa->ab->Prop}{s:ab}
abbrev TK(prog:aq)(w:aj):=IsTupleKey (oF prog w)
theorem cls_val(n:Nat){v:aa}(h:iO v=true):fC n v=pure false:=by
 cases v with
 |ref a=>simp[iO]at h
 |_=>first|rfl|simp[fC]|(unfold fC;rfl)
theorem Gs{Q:Bool->ab->Prop}(hk:TK prog w s.heap ks a)(h:Q false s):ae (model prog w) A (fC 8 (.ref a)) Q E s:=by
 have hT:=hk.typeIs;obtain⟨o,items,n,ho,_,hd,hi⟩:=hk;unfold fC;refine af (i9 hT ?_);show ae _ _ (pure true>>=_) _ _ s;refine af (ao ?_);simp only[Bool.not_true,dZ,if_false];refine af (iP ho hd ?_);refine af ?_;show ae _ _ (forIn items _ _) _ _ s;rw[<-kh];refine iE _ (λrest r s'=>r.1=none/\s'=s/\∀v∈rest,iO v=true) _ ?_ ?_ _ _ ⟨rfl,rfl,hi.byValue⟩
 ·rintro v rest r s' ⟨hr,rfl,hall⟩;rw[cls_val _ (hall v aH)];refine af (ao ?_);simp only[dZ,if_false];exact ao ⟨rfl,rfl,λu hu'=>hall u (aG _ hu')⟩
 ·rintro⟨r1,r2⟩ s' ⟨hr,rfl,_⟩;simp only at hr;subst hr;exact ao h
end
section
variable{j i q:Nat}{led pl:Bool}{h h1:Int}
theorem J5(i:Nat):(lj 0 0 led).put i=(one i led true,0):=by simp[SetTable.put,lj,aR,dy,ja,bE]
end
variable{ep:Nat}
section
variable{prog:aq}{w:aj}{A:ar}{E:aa->ab->Prop}{s:ab}
theorem Fu{hp:Heap}{S:Addr}{o:Obj}{es es':Array (Int×aa)}{t t':aP}(ho:hp.get? S=some o)(hd:o.data=.set es ep t):(hp.update S (jr es' t')).get? S=some { o with data:=.set es' (ep+1) t' }:=by have:=c4 (jr es' t') ho (by rw[putSet_of es' t' hd];rfl);rw[putSet_of es' t' hd]at this;exact this
end
section
variable{prog:aq}{w:aj}{A:ar}{R:cE->ab->Prop}{I:Addr}{fp wr:List Addr}{GG:Array dS->Array dS->Prop}{PP:Nat->aa->Prop}{SS:Nat->ab->Prop}
theorem TK.kept{h h':Heap}(t:TK prog w h ks a)(e:∀o,h.get? a=some o->h'.get? a=some o):TK prog w h' ks a:=by obtain⟨o,its,n,ho,m⟩:=t;exact⟨o,its,n,e o ho,m⟩
def SN(h:Heap)(S:Addr)(n:Nat):Prop:=∃o es ep t,h.get? S=some o/\o.ExactSet/\o.data=.set es ep t/\es.size<scanBound/\t.fits es.size=true/\es.size=n
end
theorem sub_tuple_set:isSubtype (.type "tuple") (.type "set")=pure false:=by rw[gx];kernel_rfl
theorem sub_tuple_frozenset:isSubtype (.type "tuple") (.type "frozenset")=pure false:=by rw[gx];kernel_rfl
variable{ax:Addr}{itO:Obj}
section
variable{prog:aq}{w:aj}{A:ar}{E:aa->ab->Prop}{s:ab}{Q:aa->ab->Prop}
abbrev rS(led:Bool):Obj:={ cls:=.type "set", dict:=none,data:=.set #[] 0 (.fresh 0 0 led) }
abbrev inK(ks:List Key):Key->Bool:=λj=>(tH ks).any (λz=>decide (z=j))
structure SO(prog:aq)(w:aj)(h:Heap)(a:Addr)(items:Array aa)(ks:List Key):Prop where
 len:ks.length=items.size
 key:∀i v (hi:i<ks.length),items[i]?=some v->(oF prog w).is ks[i] v=true/\v.scannable=true
 bnd:items.size+1<scanBound
def ME(s:ab)(PS:Heap->Prop)(E:aa->ab->Prop):cE->ab->Prop:=
 wants (λr s2=>r=.none/\∃h2 k2,s2={ s with heap:=h2,toks:=k2 }/\PS h2/\∀b o,b<s.heap.objs.size->s.heap.get? b=some o->h2.get? b=some o) E
theorem El{items:Array aa}{led:Bool}{SS:Nat->Heap->Prop}(K:SO prog w s.heap ax items ks)(hlt:ax<s.heap.objs.size)
  (W:Walks prog w A.in1 (s.heap.objs.size+1) [s.heap.objs.size+1,ax] [s.heap.objs.size+1] items.size (λi v=>items[i]?=some v) SS) (st:SS 0 ((s.heap.push (rS led)).push itO)) {R:cE->ab->Prop}
  (hR:∀h2 k2,h2.SetOf (oF prog w) s.heap.objs.size (inK ks) (tH ks).length->(∀b o,b<s.heap.objs.size->s.heap.get? b=some o->h2.get? b=some o)->R (.ok (.ret .none)) { s with heap:=h2,toks:=k2 }) (tk:Nat):
  bH (model prog w) A (.builtin "set.update.loop" ⟨[.ref s.heap.objs.size,.ref (s.heap.objs.size+1)],[]⟩) R { s with heap:=(s.heap.push (rS led)).push itO,toks:=tk }:=by
 have notin:s.heap.objs.size∉[s.heap.objs.size+1,ax]:=by
  intro z;rcases aF.mp z with z|z
  ·exact ai z (aD (bS _))
  ·exact ai (aU.mp z) (dQ hlt)
 have e0:((s.heap.push (rS led)).push itO).get? s.heap.objs.size=some (rS led):=az _ (aQ _ rfl);refine J1 W.toS s.heap.objs.size notin ks K.len (λi v hi hv=>K.key i v hi hv) K.bnd (items.size - 0) 0 _ (by omega) (ba _) st ?_ λs2 mv S2=>?_
 ·exact⟨_,#[],0,_,e0,⟨rfl,rfl,rfl⟩,rfl,λe he=>by simp at he,λk=>by simp[tH],by unfold scanBound;decide,by rfl,rfl⟩
 ·obtain⟨h2,g2,d2,k2,o2⟩:=s2;have eg:g2=s.gens:=mv.gens;have ed:d2=s.drawn:=mv.drawn;have eo:o2=s.os:=mv.os;subst eg ed eo;refine hR h2 k2 S2 λb o hb e=>mv.heap b o (λz=>?_) (az _ (az _ e));rcases aF.mp z with z|z
  ·exact ai z (aD hb)
  ·exact ai (aU.mp z) (aD (cn hb))
theorem Fv(a:aa){Q₁:aa->ab->Prop}(h:Q₁ (.ref s.heap.objs.size) { s with heap:=s.heap.push (rS (!w.params.followText "set-order")) }):
  bH (model prog w) A (.call (.builtin "set.__new__") ⟨[.type "set", a],[]⟩) (wants Q₁ E) s:=by
 refine kS ?_;show ae _ A.in1 (do checkBuiltinCall "set.__new__" ⟨[.type "set", a],[]⟩;again (.builtin "set.__new__" ⟨[.type "set", a],[]⟩)) _ _ s;refine af (jf (F.newCall_set_1 a) (ao ⟨dN kT _,cu F.entry_set_new ?_⟩));rw[cI kT _];unfold cf.«set.__new__» mD;have hsub:=sub_set_self;obtain⟨hp,g,d,tk,os⟩:=s;dsimp only
 wp_walk
 refine iF (ao ?_);dsimp only;simp only[newObj];refine af (wpAny_alloc (ao ?_));exact ao h
theorem vz{o:Obj}{T:String}{PS:Heap->Prop}(ho:s.heap.get? ax=some o)(hc:o.cls=.type T)
  (u1:isSubtype (.type T) (.type "set")=pure false) (u2:isSubtype (.type T) (.type "frozenset")=pure false) (u3:(Value.type T==Value.type "dict")=false)
  (itr:∀(A:ar) (Q:aa->ab->Prop) (E:aa->ab->Prop) (s1:ab),s1.heap.get? ax=some o->Q (.ref s1.heap.objs.size) { s1 with heap:=s1.heap.push itO }->ae (model prog w) A (pyIter (.ref ax)) Q E s1)
  (fil:∀tk (R:cE->ab->Prop),(∀h2 k2,PS h2->(∀b o,b<s.heap.objs.size->s.heap.get? b=some o->h2.get? b=some o)->R (.ok (.ret .none)) { s with heap:=h2,toks:=k2 })->
   bH (model prog w) A.in1.in1 (.builtin "set.update.loop" ⟨[.ref s.heap.objs.size,.ref (s.heap.objs.size+1)],[]⟩) R { s with heap:=(s.heap.push (rS (!w.params.followText "set-order"))).push itO,toks:=tk })
  (h:∀h2 k2,PS h2->(∀b o,b<s.heap.objs.size->s.heap.get? b=some o->h2.get? b=some o)->Q (.ref s.heap.objs.size) { s with heap:=h2,toks:=k2 }):
  ae (model prog w) A (call (.type "set") [.ref ax]) Q E s:=by
 have hlt:ax<s.heap.objs.size:=aA ho;obtain⟨c,tl,hmro⟩:=df.mro;have made:=df.made;have subs:=df.sub;refine ji (kS ?_);show ae _ _ (callAny (.type "set") _) _ _ _;refine ao ⟨Code.quiet_builtin _ (by decide +kernel),cu F.entry_type_call ?_⟩;rw[Around.under_plain (weight_type_call_type "set" [.ref ax] []) rfl];have n1:=df.notType;have n2:=df.canCreate;have n3:=F.typeCall_set_1 (.ref ax)
 repeat (any_goals (first|assumption|wp_step))
 let led:Bool:=!w.params.followText "set-order";refine eP (Fv (.ref ax) (E:=E) (Q₁:=λv s1=>v=.ref s.heap.objs.size/\s1={ s with heap:=s.heap.push (rS led) }) ⟨rfl,rfl⟩) λr s1 hr=>?_;cases r with
 |error e=>exact hr
 |ok fl=>
  cases fl with
  |ret v=>
   obtain⟨rfl,rfl⟩:=hr;have e0:(s.heap.push (rS led)).get? s.heap.objs.size=some (rS led):=aQ _ rfl;have ty0:iW { s with heap:=s.heap.push (rS led) } (.ref s.heap.objs.size) "set" := ⟨_,e0,rfl⟩;have l1:=df.init.lookup;have l2:=df.init.bind (.ref s.heap.objs.size)
   repeat (any_goals (first|assumption|wp_step))
   refine eP (codeAny_call_builtin (R:=ME s PS E) df.init.plain F.entry_set_init (check_set_init_1 ty0 ?_)) λr2 s2 hr2=>?_
   ·obtain⟨oc,od,oda,osl⟩:=o;cases hc;have e1:(s.heap.push (rS led)).get? ax=some { cls:=.type T,dict:=od,data:=oda,slots:=osl }:=az _ ho;unfold cf.«set.__init__» noKeywords mB;generalize gP:pyIter=PP
    wp_walk
    subst gP;refine itr _ _ _ _ e1 ?_;refine af (lp ?_);have ez:(s.heap.push (rS led)).objs.size=s.heap.objs.size+1:=bT _ _;show bH _ _ (.builtin "set.update.loop" ⟨[.ref s.heap.objs.size,.ref (s.heap.push (rS led)).objs.size],[]⟩) _ _;rw[ez];refine fil _ _ λh2 k2 S2 kk=>?_;show ae _ _ _ _ _ _;refine ao ?_;show ae _ _ (ret Value.none) _ _ _;exact ao ⟨rfl,h2,k2,rfl,S2,kk⟩
   ·cases r2 with
    |error e=>exact hr2
    |ok fl2=>
     cases fl2 with
     |ret r=>
      obtain⟨rfl,h2,k2,rfl,S2,kk⟩:=hr2
      repeat (any_goals (first|assumption|wp_step))
      exact h _ _ S2 kk
     |_=>exact hr2.elim
  |_=>exact hr.elim
end
variable{S:ak->Hp->Addr->Nat->Prop}
section
variable{X:Cx}{G:Bg}{H:Hp}{pins:List (Addr×Obj)}{σ:St}{s:ab}
theorem J6{P:aq}{w:aj}{k:Key}{v:aa}(h:(oF P w).is k v=true):v.scannable=true:=by rcases pf h with ⟨i,t,_,rfl⟩|⟨x,t,_,rfl⟩<;>rfl
theorem J7(r:Vals (ks.map kV) its)(hb:ks.length+1<scanBound):SO X.prog X.w s.heap a its.toArray ks:=by
 have hl:ks.length=its.length:=by have:=r.length;rw[aw]at this;exact this
 refine⟨by rw[aK];exact hl,λi v hi hv=>?_,by rw[aK];omega⟩;have e:(ks.map kV)[i]?=some (kV ks[i]):=by rw[aV,aJ hi];rfl
 obtain⟨u,hu,ru⟩:=r.get e;have eu:v=u:=by rw[f6]at hv;rw[hv]at hu;exact bB hu
 subst eu;have:=za (P:=X.prog) (w:=X.w) ru;exact⟨this,J6 this⟩
theorem SQ(I:Inv X pins σ H s)(h:SqT X.K H a (ks.map kV)):TK X.prog X.w s.heap ks a:=by
 obtain⟨its,r,p,_⟩:=I.tuple h;obtain⟨o,ho,hc,n,hd⟩:=p;refine⟨o,_,n,ho,hc,hd,?_⟩;have gen:∀(ks:List Key) (its:List aa),Vals (ks.map kV) its->PySem.ItemsAre (oF X.prog X.w) ks its:=λks=>by
  induction ks with
  |nil=>intro its r;cases r;exact .nil
  |cons k ks ih=>intro its r;cases r with|cons h1 h2=>exact .cons (za h1) (ih _ h2)
 exact gen ks its r
def Pe(K:ak)(H:Hp)(a:Addr)(n:Nat):Prop:=∃ks,(SqL K H a (ks.map kV)\/SqT K H a (ks.map kV))/\ks.length+1<scanBound/\n=(tH ks).length
def Pf(X:Cx)(S:ak->Hp->Addr->Nat->Prop):Prop:=∀{pins:List (Addr×Obj)} {σ:St} {H:Hp} {s:ab} {A:ar} {E:aa->ab->Prop} {Q:aa->ab->Prop} {a:Addr} {n:Nat},Inv X pins σ H s->A.handled=none->A.units+8<cLine->S X.K H a n->
 (∀h2 k2,SN h2 s.heap.objs.size n->(∀b o,b<s.heap.objs.size->s.heap.get? b=some o->h2.get? b=some o)->Q (.ref s.heap.objs.size) { s with heap:=h2,toks:=k2 })->ae (model X.prog X.w) A (call (.type "set") [.ref a]) Q E s
theorem SR:Pf X (Pe):=by
 intro pins σ H s A E Q a n I hh hu hq h;have h3:A.in1.in1.in1.handled=none:=by simp[hh]
 have gt:∀{h2:Heap} {ks:List Key},h2.SetOf (oF X.prog X.w) s.heap.objs.size (inK ks) (tH ks).length->SN h2 s.heap.objs.size (tH ks).length:=λS=>by obtain⟨o,es,ep,t,ho,hex,hd,_,_,hz,hf,hn⟩:=S;exact⟨o,es,ep,t,ho,hex,hd,hz,hf,hn⟩
 have it:∀{o:Obj} {led:Bool},o.isFreed=false->((s.heap.push (rS led)).push o).get? (s.heap.objs.size+1)=some o:=λ{o led} z=>by rw[show s.heap.objs.size+1=(s.heap.push (rS led)).objs.size from(bT _ _).symm];exact aQ _ z
 obtain⟨ks,hq|hq,hb,rfl⟩:=hq
 ·obtain⟨its,r,p,_⟩:=I.list hq;obtain⟨o,ho,hc,n,hd⟩:=p.isList;have hne:a≠s.heap.objs.size+1:=aD (cn (aA ho));refine vz ho hc iQ hX (by decide) (itO:={ cls:=.type "list_iterator", data:=.fields #[.ref a,.int 0 0] })
   (λA Q E s1 e k=>d0 ⟨o,e,hc,n,hd⟩ k) (λtk R hR=>El (J7 r hb) (aA ho) (fP h3 _ a hne its.toArray) ⟨⟨_,it rfl,rfl,rfl⟩,⟨o,az _ (az _ ho),hc,n,hd⟩⟩ (λh2 k2 S=>hR h2 k2 (gt S)) tk) h
 ·obtain⟨its,r,p,_⟩:=I.tuple hq;obtain⟨o,ho,hc,n,hd⟩:=p;have hne:a≠s.heap.objs.size+1:=aD (cn (aA ho));refine vz ho hc sub_tuple_set sub_tuple_frozenset (by decide) (itO:={ cls:=.type "tuple_iterator", data:=.fields #[.ref a,.int 0 0] })
   (λA Q E s1 e k=>ie ⟨o,e,hc,n,hd⟩ k) (λtk R hR=>El (J7 r hb) (aA ho) (mi h3 _ a hne its.toArray) ⟨⟨_,it rfl,rfl,rfl⟩,⟨o,az _ (az _ ho),hc,n,hd⟩⟩ (λh2 k2 S=>hR h2 k2 (gt S)) tk) h
def Gu(S:ak->Hp->Addr->Nat->Prop)(K:ak)(te:TE):TE:=λσ H Q=>te σ H λx H1=>∃a n,x=.ref a/\S K H1 a n/\Q (.int n) H1
theorem HZ{p1 p2 p3 p4:Pos}(hV:Pf X S)(hu:X.A.units+64<cLine)(hc:X.calm=true)(g1:Gl X "len")(m1:X.mg "len" = none)(g2:Gl X "set")(m2:X.mg "set" = none)(he:PE X e te)
  (z1:au [Expr.Call (.Name "set" p2) [e] [] p3] X.env=[(false,eval (.Call (.Name "set" p2) [e] [] p3) X.env)]:=by rfl) (z2:au [e] X.env=[(false,eval e X.env)]:=by rfl):PE X (.Call (.Name "len" p1) [.Call (.Name "set" p2) [e] [] p3] [] p4) (Gu S X.K te):=by
 intro pins s σ H Q I h;refine cK (ue I g1 m1 lq ?_ (by decide) (by decide));refine callWith_builtin1 ?_ z1 rfl;rw[z1];show ae _ _ (spliced [(false,eval (.Call (.Name "set" p2) [e] [] p3) X.env)]) _ _ s;refine cJ ?_;refine cK (ue I g2 m2 mj ?_ (by decide) (by decide));refine callWith_type1 (thn (pW he sj z2 p3 pins s σ H (λvs H1=>match vs with
  |[x]=>∃a n,x=.ref a/\S X.K H1 a n/\Q (.int n) H1
  |_=>False) I h) λus s1 ⟨vs,H1,I1,r1,q1⟩=>?_) z2 rfl
 match vs,r1,q1 with
 |[x],r1,q1=>
 obtain⟨a,n,e1,hq,q⟩:=q1;subst e1;obtain⟨u,rfl,ru⟩:=vals1 r1;cases ru;refine hV I1 (I1.ok.hd hc) (by omega) hq λh2 k2 S2 kk=>?_;refine dw ?_;obtain⟨o,es,ep,t,ho,hex,hd,hz,hf,hn⟩:=S2;have I2:Inv X pins σ H1 { s1 with heap:=h2,toks:=k2 }:=I1.kept λb o e=>kk b o (aA e) e;refine call_len_set ho hex hd hf (by unfold scanBound at hz;omega) ⟨.int n,H1,I2.tok _,⟨_,by rw[hn]⟩,q⟩
def BX:List D->Option (List Key)
 |[]=>some []
 |d::ds=>match uu d,BX ds with
  |some k,some ks=>some (k::ks)
  |_,_=>none
theorem BY:∀{ds:List D} {xs:List V} {ks:List Key},og G H ds xs->BX ds=some ks->xs=ks.map kV
 |[],xs,ks,r,e=>by cases e;unfold og at r;exact r
 |d::ds,xs,ks,r,e=>by
  unfold BX at e;cases e1:uu d with
  |none=>rw[e1]at e;cases e
  |some k=>
   cases e2:BX ds with
   |none=>rw[e1,e2]at e;cases e
   |some ks'=>rw[e1,e2]at e;cases e;unfold og at r;obtain⟨v,r',rfl,h1,h2⟩:=r;rw[uv h1 e1,BY h2 e2];rfl
def ux(ds:List D):Option D:=match BX ds with
 |some ks=>if ks.length<=1000 then some (.int (tH ks).length)else none
 |none=>none
def AF(g:List D->Option D):D->Option D
 |.lst ds=>match ux ds with
  |some r=>some r
  |none=>g ds
 |.tup ds=>ux ds
 |.fzl ds=>ux ds
 |_=>none
theorem Fw{g:List D->Option D}(hK:X.K=G.K)(hO:∀{H a n},Pe X.K H a n->S X.K H a n)
  (hg:∀{ds d H1 H1' a xs},g ds=some d->SqL X.K H1' a xs->og G H1 ds xs->oA H1 H1'->∃n:Nat,S X.K H1' a n/\d=.int n)
  (h:PE X e (Gu S X.K (tF G f))):PE X e (tF G (c1 (AF g) f)):=PE.weak h λσ H Q hh=>by
 obtain⟨F,ρ,H0,d,ρ',R,e,k⟩:=hh;obtain⟨x,e1,e2⟩:=xw e;have key:∀{ds:List D} {xs:List V} {a:Addr} {H1 H1':Hp},ux ds=some d->og G H1 ds xs->oA H0 H1->oK G F σ ρ' H1 H1'->(SqL X.K H1' a xs\/SqT X.K H1' a xs)->
   ∃a' n,V.ref a=.ref a'/\S X.K H1' a' n/\Q (.int n) H1':=λ{ds xs a H1 H1'} ed rs s R' hq=>by
  unfold ux at ed;cases ek:BX ds with
  |none=>rw[ek]at ed;cases ed
  |some ks=>
   rw[ek]at ed;simp only at ed;split at ed
   ·rename_i hl;cases ed;rw[BY rs ek]at hq;exact⟨a,_,rfl,hO ⟨ks,hq,by unfold scanBound;omega,rfl⟩,k _ _ _ s R' (pY _)⟩
   ·cases ed
 refine⟨F,ρ,H0,x,ρ',R,e1,λv H1 H1' s R' r=>?_⟩;cases x with
 |lst ds=>
  unfold Rep at r;obtain⟨a,xs,rfl,h1,h2⟩:=r;have hq:SqL X.K H1' a xs:=SqL.of (R'.sub _ _ h1);replace e2:(match ux ds with|some r=>some r|none=>g ds)=some d:=e2;cases e3:ux ds with
  |some r=>rw[e3]at e2;cases e2;exact key e3 h2 s R' (.inl hq)
  |none=>rw[e3]at e2;obtain⟨n,h3,rfl⟩:=hg e2 hq h2 R'.sub;exact⟨a,n,rfl,h3,k _ _ _ s R' (pY _)⟩
 |tup ds=>unfold Rep at r;obtain⟨a,xs,rfl,h1,h2⟩:=r;rw[<-hK]at h1;exact key e2 h2 s R' (.inr (SqT.mono R'.sub h1))
 |fzl ds=>unfold Rep at r;obtain⟨a,xs,rfl,h1,h2⟩:=r;rw[<-hK]at h1;exact key e2 h2 s R' (.inl (R'.sub.seq h1))
 |_=>cases e2
end
theorem Gv{P:aq}{w:aj}{k:Key}{v:aa}(h:(oF P w).is k v=true):RelV (kV k) v:=by
 rcases pf h with ⟨i,t,rfl,rfl⟩|⟨x,t,rfl,rfl⟩
 ·exact⟨t,rfl⟩
 ·exact⟨t,rfl⟩
def Itd(a:Addr)(o:Obj)(kvs:List (Key×V)):It:=
 ⟨λi H=>i<kvs.length/\H a=some (.frz o (.dK kvs)),λi H x H'=>H'=H/\∃k z,kvs[i]?=some (k,z)/\x=kV k,λi H=>kvs.length<=i/\H a=some (.frz o (.dK kvs))⟩
section
variable{X:Cx}{pins:List (Addr×Obj)}{σ:St}{H:Hp}{s:ab}
theorem zf{o:Obj}{es:Array DictEntry}(I:Inv X pins σ H s)(e:H a=some (.frz o (.dK kvs)))(hd:o.data=.dict es ep):
  (a==cc)=false/\s.heap.get? a=some o/\∃vs,KV kvs vs/\s.heap.DictAt (oF X.prog X.w) a vs ep:=by
 obtain⟨q0,_,y,vs,r,ob,es',ep',q1,q2,q3,q4⟩:=(show pD X.prog X.w H s.heap a (.frz o (.dK kvs)) from I.hok a _ e);rw[q0]at q1;cases q1;rw[hd]at q3;cases q3;exact⟨y,q0,vs,r,o,es,q0,q2,hd,q4⟩
theorem Pg{vs:List (Key×aa)}(r:KV kvs vs){k:Key}{x:aa}(e:vs[i]?=some (k,x)):∃z,kvs[i]?=some (k,z):=by
 induction r generalizing i with
 |nil=>cases e
 |@cons p q l l' h _ ih=>
  cases i with
  |zero=>obtain⟨pk,pv⟩:=p;cases e;exact⟨pv,by rw[show pk=k from h.1];rfl⟩
  |succ i=>exact ih e
end
theorem Ia{P:aq}{w:aj}{K:ak}(a it:Addr)(o:Obj)(kvs:List (Key×V)):Turn P w K tg (Itd a o kvs) [it] it (λi h=>∃es ep,o.data=.dict es ep/\h.IsKeyIter it a i kvs.length ep) where
 mem:=by simp
 obj:=λi h st b hb=>by
  have e:b=it:=by simpa using hb
  subst e;obtain⟨es,ep,hd,ob,e,c,d⟩:=st;exact⟨ob,e,λv z=>by rw[d]at z;cases z⟩
 keep:=λi h h' st k=>by obtain⟨es,ep,hd,x⟩:=st;exact⟨es,ep,hd,x.at λo e=>k it (by simp) o e⟩
 item:=by
  intro X hP hw hK hc i pins s σ H E I hf st hg;subst hP hw hK;obtain⟨hi,he⟩:=hg;obtain⟨es,ep,hd,ki⟩:=st;obtain⟨f0,f1,f2,f3,f4,f5⟩:=hf it (by simp);obtain⟨_,_,vs,r,da⟩:=zf I he hd;have hl:kvs.length=vs.length:=r.length;have hne:a≠it:=λz=>by subst z;rw[he]at f0;cases f0
  have W:=Walks.dictKeys (knd:=oF X.prog X.w) (A:=X.A) (I.ok.hd hc) it a hne vs ep;refine W.item i s _ _ (by omega) ⟨by rw[<-hl];exact ki,da⟩ λv h' tk hv st' kk=>?_;obtain⟨k,x,hx,hk⟩:=hv;obtain⟨z,hz⟩:=Pg r hx;have I1:Inv X pins σ H { s with heap:=h',toks:=tk }:=I.turned (λb o hb e=>kk b o (by simpa using hb) e) f0 f1 f3 f4 f5;obtain⟨ki',_⟩:=st';rw[<-hl]at ki';obtain⟨ob,e,c,d⟩:=id ki';exact⟨v,rfl,F0 (s:={ s with heap:=h',toks:=tk }) e c d (by decide) ⟨kV k,H,I1,Gv hk,⟨rfl,k,z,hz,rfl⟩,⟨es,ep,hd,ki'⟩,λb hb=>(hf b hb).1⟩⟩
 done:=by intro X hP hw hK hc i pins s σ H E I hf st hg;subst hP hw hK;obtain⟨hi,he⟩:=hg;obtain⟨es,ep,hd,ki⟩:=st;obtain⟨f0,f1,f2,f3,f4,f5⟩:=hf it (by simp);obtain⟨_,_,vs,r,da⟩:=zf I he hd;have hl:kvs.length=vs.length:=r.length;exact wpAny_pyNext_dict_end (I.ok.hd hc) (by rw[<-hl];exact ki) da (dY (by rw[<-hl];exact hi)) λh' eb=>⟨rfl,I.turned (t':=s.toks) (λb o hb e=>eb b o hb e) f0 f1 f3 f4 f5⟩
 self:=λ_ _ _ _ _ st h=>by obtain⟨es,ep,hd,ki⟩:=st;exact wpAny_pyIter_keyiter ki h
section
variable{X:Cx}{G:Bg}{tg:Expr}
def SU(tl:TE):TI:=λσ H R=>tl σ H λx H1=>∃a o kvs,x=.ref a/\H1 a=some (.frz o (.dK kvs))/\R (Itd a o kvs) H1
theorem MF{l:Expr}{tl:TE}(hl:PE X l tl):PI X tg l (SU tl):=by
 intro pins s σ H R I h;refine thn (hl pins s σ H _ I h) λv s1 zz=>?_;obtain⟨x,H1,I1,r1,q1⟩:=zz;obtain⟨a,o,kvs,e,he,q⟩:=q1;subst e;cases r1;obtain⟨q0,_,y,vs,r,ob,es,ep,e1,e2,e3,e4⟩:=(show pD X.prog X.w H1 s1.heap a (.frz o (.dK kvs)) from I1.hok a _ he);rw[q0]at e1;cases e1;have hl:kvs.length=vs.length:=r.length;refine wpAny_pyIter_dict (knd:=oF X.prog X.w) (kvs:=vs) (ep:=ep) y ⟨o,es,q0,e2,e3,e4⟩ ?_;refine⟨s1.heap.objs.size,[s1.heap.objs.size],_,_,H1,rfl,I1.kept (t':=s1.toks) λb o e=>az _ e,Ia a _ o kvs,⟨es,ep,e3,⟨_,aQ _ rfl,rfl,by rw[hl];rfl⟩⟩,λb hb=>?_,q⟩;have e:b=s1.heap.objs.size:=by simpa using hb
 subst e;exact I1.fpOk (ay _) (I1.hok.fresh (ay _))
def SV:Key->D
 |.inl i=>.int i
 |.inr x=>.str x
theorem MG(k:Key){H:Hp}:Rep G H (SV k) (kV k):=by
 cases k with
 |inl i=>exact pY i
 |inr x=>exact rR x
def iD(f:FE):FA:=λρ=>match f ρ with
 |some (.dic ks ds,ρ1)=>if ks.length=ds.length then some (ks.map SV,ρ1)else none
 |_=>none
theorem J8{tg:Expr}(h:PI X tg e (SU (tF G f))):PI X tg e (tFI G (iD f)):=PI.weak h λσ H R hh=>by
 obtain⟨F,ρ,H0,ds,ρ',R,e,k⟩:=hh;unfold iD at e;split at e
 ·rename_i ks ds' ρ1 e1;split at e
  ·rename_i hlen;cases e;refine⟨F,ρ,H0,_,_,R,e1,λv H1 H1' s R' r=>?_⟩;unfold Rep at r;obtain⟨a,o,xs,rfl,r1,r2,r3⟩:=r;have hz:(ks.zip xs).length=ks.length:=by rw[fI,<- r2,fL]
   refine⟨a,o,_,rfl,R'.sub _ _ r1,k _ _ _ s R' λi H2 H2' t t'=>⟨λd ed=>?_,λhl=>?_⟩⟩
   ·rw[aV]at ed;cases ek:ks[i]? with
    |none=>rw[ek]at ed;cases ed
    |some j=>
     rw[ek]at ed;cases ed;have hi:i<ks.length:=(bb.mp ek).1;refine⟨⟨by rw[hz];exact hi,t' _ _ (t _ _ r1)⟩,λz H3 y=>?_⟩;obtain⟨e3,k',z',hk',rfl⟩:=y;subst e3;have:k'=j:=by rw[List.getElem?_zip_eq_some]at hk';have:=hk'.1;rw[ek]at this;exact(bB this).symm
     subst this;exact⟨H2,oA.refl _,t',oA.refl _,λb o e=>.inl e,MG _⟩
   ·refine⟨by rw[hz,hl,aw];exact ay _,t' _ _ (t _ _ r1)⟩
  ·cases e
 ·cases e
end
mutual
def noC(N c:Nat):D->Bool
 |.non=>true
 |.bl _=>true
 |.int _=>true
 |.str _=>true
 |.tup ds=>rq N c ds
 |.lst ds=>rq N c ds
 |.fzl ds=>rq N c ds
 |.obj k _ ds=>decide (k<N)&&decide (k≠c)&&rq N c ds
 |.dic _ ds=>rq N c ds
def rq(N c:Nat):List D->Bool
 |[]=>true
 |d::ds=>noC N c d&&rq N c ds
end
def without(H:Hp)(a:Addr):Hp:=λb=>if b=a then none else H b
theorem AG{H:Hp}{b:Addr}(h:b≠a):without H a b=H b:=by unfold without;rw[ag h]
theorem xE{H:Hp}{b:Addr}{o:HO}(h:without H a b=some o):b≠a/\H b=some o:=by
 unfold without at h;by_cases hb:b=a
 ·rw[ah hb]at h;cases h
 ·rw[ag hb]at h;exact⟨hb,h⟩
theorem qD{H:Hp}{b:Addr}{u v:HO}(ha:H a=some u)(hb:H b=some v)(d:u≠v):without H a b=some v:=by rw[AG (λz=>by subst z;rw[ha]at hb;exact d (bB hb))];exact hb
variable{xs:List V}
section
variable{G:Bg}{H:Hp}{a dx:Addr}{fs:List (Str×V)}{N c:Nat}
theorem Em(ha:H a=some (.ins (G.ca c) dx fs)){p:Addr}(h:SqT G.K H p xs):SqT G.K (without H a) p xs:=by
 rcases h with (h|⟨o,h⟩)|h
 ·exact .inl (.inl (qD ha h (λz=>nomatch z)))
 ·exact .inl (.inr ⟨o,qD ha h (λz=>nomatch z)⟩)
 ·exact .inr h
theorem En(ha:H a=some (.ins (G.ca c) dx fs)){p:Addr}(h:SqL G.K H p xs):SqL G.K (without H a) p xs:=by
 rcases h with (h|⟨o,h⟩)|h
 ·exact .inl (.inl (qD ha h (λz=>nomatch z)))
 ·exact .inl (.inr ⟨o,qD ha h (λz=>nomatch z)⟩)
 ·exact .inr h
mutual
theorem zg(inj:∀j k,j<N->k<N->G.ca j=G.ca k->j=k)(hc:c<N)(ha:H a=some (.ins (G.ca c) dx fs)):∀(d:D) (v:V),noC N c d=true->Rep G H d v->Rep G (without H a) d v
 |.non,v,_,h=>by unfold Rep at h ⊢;exact h
 |.bl _,v,_,h=>by unfold Rep at h ⊢;exact h
 |.int _,v,_,h=>by unfold Rep at h ⊢;exact h
 |.str _,v,_,h=>by unfold Rep at h ⊢;exact h
 |.tup ds,v,n,h=>by unfold noC at n;unfold Rep at h ⊢;obtain⟨p,xs,e,h1,h2⟩:=h;exact⟨p,xs,e,Em ha h1,qq inj hc ha ds xs n h2⟩
 |.lst ds,v,n,h=>by unfold noC at n;unfold Rep at h ⊢;obtain⟨p,xs,e,h1,h2⟩:=h;exact⟨p,xs,e,qD ha h1 (λz=>nomatch z),qq inj hc ha ds xs n h2⟩
 |.fzl ds,v,n,h=>by unfold noC at n;unfold Rep at h ⊢;obtain⟨p,xs,e,h1,h2⟩:=h;exact⟨p,xs,e,En ha h1,qq inj hc ha ds xs n h2⟩
 |.obj k ns ds,v,n,h=>by unfold noC at n;simp only[aE,aX]at n;unfold Rep at h ⊢;obtain⟨p,dx',xs,e,h1,h2,h3⟩:=h;refine⟨p,dx',xs,e,qD ha h1 (λz=>?_),h2,qq inj hc ha ds xs n.2 h3⟩;injection z with z1;exact n.1.2 (inj k c n.1.1 hc z1.symm)
 |.dic ks ds,v,n,h=>by unfold noC at n;unfold Rep at h ⊢;obtain⟨p,o,xs,e,h1,h2,h3⟩:=h;exact⟨p,o,xs,e,qD ha h1 (λz=>nomatch z),h2,qq inj hc ha ds xs n h3⟩
theorem qq(inj:∀j k,j<N->k<N->G.ca j=G.ca k->j=k)(hc:c<N)(ha:H a=some (.ins (G.ca c) dx fs)):∀(ds:List D) (xs:List V),rq N c ds=true->og G H ds xs->og G (without H a) ds xs
 |[],xs,_,h=>by unfold og at h ⊢;exact h
 |d::ds,xs,n,h=>by unfold rq at n;simp only[aE]at n;unfold og at h ⊢;obtain⟨v,r,e,h1,h2⟩:=h;exact⟨v,r,e,zg inj hc ha d v n.1 h1,qq inj hc ha ds r n.2 h2⟩
end
end
def xc:Sl->Sl
 |.im d=>.im d
 |_=>.un
def wB(N:Nat)(f:FE):FE:=λρ=>match ρ with
 |.ob c ns ds::r=>match f (.im (.obj c ns ds)::r.map xc)with
  |some (d,_)=>if (decide (c<N)&&noC N c d)=true then some (d,ρ)else none
  |none=>none
 |_=>none
section
variable{X:Cx}{G:Bg}
theorem Fy{s:Sl}:(xc s).own=false:=by cases s<;>rfl
theorem MH{N:Nat}(inj:∀j k,j<N->k<N->G.ca j=G.ca k->j=k)(h:PE X e (tF G f)):PE X e (tF G (wB N f)):=PE.weak h λσ H Q hh=>by
 obtain⟨F,ρ,H0,d,ρ',R,e,k⟩:=hh;unfold wB at e;split at e
 ·rename_i c ns ds r;rcases oN (f:=f) (ρ:=.im (.obj c ns ds)::r.map xc)with e1|⟨x,ρ1,e1⟩<;>simp only[e1]at e
  ·cases e
  split at e
  ·rename_i hn;cases e;simp only[aE,aX]at hn;obtain⟨a,dx,xs,h1,h2,h3,h4,h5,h6⟩:=R.sl 0 _ rfl;have RL:oK G ⟨upd H0 a (.ins (G.ca c) dx (ns.zip xs)),H,[]⟩ σ (.im (.obj c ns ds)::r.map xc) (upd H0 a (.ins (G.ca c) dx (ns.zip xs))) H:={
    sub:=λb o q=>by
     by_cases hb:b=a
     ·subst hb;rw[ox]at q;cases q;exact h2
     ·rw[oE hb]at q;exact R.sub _ _ q
    g0:=oA.refl _
    keep:=λb o q _=>q
    fr:=λb o q=>.inl q
    am:=λb q=>by cases q
    len:=by have:=R.len;simpa using this
    sl:=λi s q=>by
     cases i with
     |zero=>cases q;exact⟨.ref a,h1,by unfold Rep;exact⟨a,dx,xs,rfl,ox,h5,og.mono (oO h3 _) _ _ h6⟩⟩
     |succ i=>
      have q':(r.map xc)[i]?=some s:=q;rw[aV]at q';cases q1:r[i]? with
      |none=>rw[q1]at q';cases q'
      |some t=>
       rw[q1]at q';cases q';have ok:=R.sl (i+1) t q1;cases t with
       |im d=>obtain⟨v,g1,g2⟩:=ok;exact⟨v,g1,Rep.mono (oO h3 _) _ _ g2⟩
       |_=>trivial
    ap:=λi j s t b _ qi _ so=>by
     cases i with
     |zero=>cases qi;cases so
     |succ i=>
      have q':(r.map xc)[i]?=some s:=qi;rw[aV]at q';cases q1:r[i]? with
      |none=>rw[q1]at q';cases q'
      |some t=>rw[q1]at q';cases q';rw[Fy]at so;cases so }
   refine⟨_,_,_,d,ρ1,RL,e1,λv H1 H1' s R' rd=>?_⟩;have ha:H1 a=some (.ins (G.ca c) dx (ns.zip xs)):=s _ _ ox;have s0:oA H0 (without H1 a):=λb o q=>by
    have hb:b≠a:=λz=>by subst z;rw[h3]at q;cases q
    rw[AG hb];exact s b o (by rw[oE hb];exact q)
   refine k v (without H1 a) H1' s0 ?_ (zg inj hn.1 ha d v hn.2 rd);refine R.grow (λb o q=>R'.keep b o q (by simp)) s0 (λb o q=>R'.sub _ _ (xE q).2) λb o q=>?_;obtain⟨hb,q⟩:=xE q;rcases R'.fr b o q with z|z
   ·have z':upd H0 a (.ins (G.ca c) dx (ns.zip xs)) b=some o:=z;rw[oE hb]at z';exact .inl z'
   ·exact .inr z
  ·cases e
 ·cases e
end
section
variable{X:Cx}{pins:List (Addr×Obj)}{σ:St}{H:Hp}{s:ab}{a:Addr}{A:ar}{E:aa->ab->Prop}
theorem Ph{k:Key}{z:V}{r:aa}{Q:aa->ab->Prop}(I:Inv X pins σ H s)(e:H a=some (.dK kvs))(ry:RelV (kV k) u)(rz:RelV z r)(hl:kvs.length<av)
  (h1:∀v w s',qL kvs k=some v->Inv X pins σ H s'->RelV v w->Q w s') (h2:∀s',qL kvs k=none->Inv X pins σ (upd H a (.dK (putK kvs k z))) s'->Q r s'):
  ae (model X.prog X.w) A (call (.builtin "dict.setdefault") [.ref a,u,r]) Q E s:=by
 obtain⟨y,hd,vs,rel,dd⟩:=Nh I.hok e;have hz:vs.length<=av:=by rw[<-rel.length];exact y
 have hp:(putK kvs k z).length<=av:=by have:=vo kvs k z;omega
 have rv:=rel.val k;refine eQ jK dd.typeIs F.entry_dict_setdefault (F.args_dict_setdefault_3 _ _ _) (kt_meets_setdefault (oF X.prog X.w) a (za ry) hd r) ⟨vs,dd,hz,λw hw=>?_,λhn h' dd' hs=>?_⟩
 ·rw[hw]at rv;cases ev:qL kvs k with
  |none=>rw[ev]at rv;exact rv.elim
  |some v=>rw[ev]at rv;exact h1 v w _ ev (I.tok _) rv
 ·rw[hn]at rv;cases ev:qL kvs k with
  |some v=>rw[ev]at rv;exact rv.elim
  |none=>have he:∃q,h'.get? a=some q:=let ⟨q,_,_,hq,_⟩:=dd';⟨q,hq⟩;exact h2 _ ev (CY I (by rw[e];exact True.intro) hs he (IZ hp hd (rel.put k rz) dd'))
def J9(td ty tx:TE):TE:=λσ H Q=>td σ H λx H1=>∃a,x=.ref a/\IsD H1 a/\ty σ H1 λy H2=>tx σ H2 λz H3=>∃kvs k,H3 a=some (.dK kvs)/\y=kV k/\kvs.length<av/\
 (∀v,qL kvs k=some v->Q v H3)/\(qL kvs k=none->Q z (upd H3 a (.dK (putK kvs k z))))
theorem Ka{o f:Expr}{td ty tx:TE}(ho:PE X o td)(he:PE X e ty)(hf:PE X f tx)(m:M2 X o "setdefault" apos e f cpos):PE X (.Call (.Attribute o "setdefault" apos) [e,f] [] cpos) (J9 td ty tx):=by
 intro pins s σ H Q I h;refine gj m.base m.few m.line gm jK F.type_dict_setdefault (thn (ho pins s σ H _ I h) λu s1 zz=>?_);obtain⟨x,H1,I1,rx,a,ex,d,q1⟩:=zz;subst ex;obtain rfl:u=Value.ref a:=rx;obtain⟨t1,t2,_⟩:=CZ I1 d;refine⟨t1,t2,?_⟩;rw[m.trees];refine fi rfl (fm (cJ (thn (he pins s1 σ H1 _ I1 q1) λiv s2 ⟨y,H2,I2,ry,q2⟩=>
  cJ (thn (hf pins s2 σ H2 _ I2 q2) λfv s3 ⟨z,H3,I3,rz,kvs,k,e3,ey,hl,g1,g2⟩=>dw ?_))))
 subst ey;exact Ph I3 e3 ry rz hl (λv w s' ev I' rw'=>⟨v,H3,I',rw',g1 v ev⟩) λs' ev I'=>⟨z,_,I',rz,g2 ev⟩
end
def uy(ks:List Key)(dss:List (List D))(k:Key)(d:D):List Key×List (List D):=
 if Bv ks k=true then (ks,dR (λk' ds=>if k'=k then ds++[d]else ds) ks dss)else (ks++[k],dss++[[d]])
theorem xF{k:Key}:Bv ks k=true ↔ k∈ks:=by unfold Bv;rw[gv];exact⟨λ⟨x,h1,h2⟩=>gn h2▸h1,λh=>⟨k,h,bj rfl⟩⟩
variable{vs:List V}
theorem Kb{k:Key}{v:V}:ks.length=vs.length->qL (ks.zip vs) k=some v->∃j:Nat,ks[j]?=some k/\vs[j]?=some v:=by
 induction ks generalizing vs with
 |nil=>intro _ h;cases h
 |cons k0 ks ih=>
  intro hl h;cases vs with
  |nil=>cases hl
  |cons v0 vs=>
   unfold qL at h;rw[dv,cq]at h;by_cases e:k0=k
   ·subst e;simp only[decide_true]at h;cases h;exact⟨0,rfl,rfl⟩
   ·simp only[e,decide_false]at h;obtain⟨j,h1,h2⟩:=ih (by simpa using hl) h;exact⟨j+1,h1,h2⟩
theorem Kc{k:Key}:ks.length=vs.length->qL (ks.zip vs) k=none->k∉ks:=by
 induction ks generalizing vs with
 |nil=>intro _ _ h;cases h
 |cons k0 ks ih=>
  intro hl h hm;cases vs with
  |nil=>cases hl
  |cons v0 vs=>
   unfold qL at h;rw[dv,cq]at h;by_cases e:k0=k
   ·subst e;simp only[decide_true]at h;cases h
   ·simp only[e,decide_false]at h;rcases aF.mp hm with z|z
    ·exact e z.symm
    ·exact ih (by simpa using hl) h z
structure Grp(G:Bg)(F:Fr)(H0 H:Hp)(a:Addr)(ks:List Key)(dss:List (List D))(bs:List Addr):Prop where
 at_:H a=some (.dK (ks.zip (bs.map V.ref)))
 n0:H0 a=none
 nB:F.B a=none
 len:ks.length=bs.length
 len':bs.length=dss.length
 nd:bs.Nodup
 kd:ks.Nodup
 each:∀(i:Nat) (b:Addr) (ds:List D),bs[i]?=some b->dss[i]?=some ds->∃xs,H b=some (.lst xs)/\H0 b=none/\F.B b=none/\og G H0 ds xs
variable{j:Nat}
section
variable{G:Bg}{F:Fr}{σ:St}{ρ:List Sl}{H0 H H0' H':Hp}{a:Addr}{ks:List Key}{dss:List (List D)}{bs:List Addr}
theorem Grp.grow(g:Grp G F H0 H a ks dss bs)(hs:oA H H')(h0:oA H0 H0')(hf:∀b o,H0' b=some o->H0 b=some o\/H b=none):Grp G F H0' H' a ks dss bs where
 at_:=hs _ _ g.at_
 n0:=by
  cases q:H0' a with
  |none=>rfl
  |some o=>
   rcases hf a o q with z|z
   ·rw[g.n0]at z;cases z
   ·rw[g.at_]at z;cases z
 nB:=g.nB
 len:=g.len
 len':=g.len'
 nd:=g.nd
 kd:=g.kd
 each:=λi b ds e1 e2=>by
  obtain⟨xs,q1,q2,q3,q4⟩:=g.each i b ds e1 e2;refine⟨xs,hs _ _ q1,?_,q3,og.mono h0 _ _ q4⟩;cases q:H0' b with
  |none=>rfl
  |some o=>
   rcases hf b o q with z|z
   ·rw[q2]at z;cases z
   ·rw[q1]at z;cases z
theorem oK.still(R:oK G F σ ρ H0 H)(no:∀s∈ρ,s.own=false):oK G ⟨H0,H,[]⟩ σ ρ H0 H where
 sub:=R.sub
 g0:=oA.refl _
 keep:=λb o e _=>e
 fr:=λb o e=>.inl e
 am:=λa h=>by cases h
 len:=R.len
 sl:=λi s e=>by
  have ok:=R.sl i s e;have n:=no s (bg e);cases s with
  |un=>trivial
  |im d=>exact ok
  |_=>cases n
 ap:=λi j s t b _ e _ so=>by rw[no s (bg e)]at so;cases so
theorem oK.touch(R:oK G F σ ρ H0 H)(no:∀s∈ρ,s.own=false)(hk:∀b o,H b=some o->(H0 b≠none\/F.B b≠none)->H' b=some o)(ha:∀b o,H b=some o->∃o',H' b=some o'):oK G F σ ρ H0 H' where
 sub:=λb o e=>hk b o (R.sub _ _ e) (.inl (by rw[e];exact λz=>nomatch z))
 g0:=R.g0
 keep:=λb o e n=>hk b o (R.keep b o e n) (.inr (by rw[e];exact λz=>nomatch z))
 fr:=R.fr
 am:=λb hb=>by obtain⟨o,e⟩:=R.am b hb;exact ha b o e
 len:=R.len
 sl:=λi s e=>by
  have ok:=R.sl i s e;have n:=no s (bg e);cases s with
  |un=>trivial
  |im d=>exact ok
  |_=>cases n
 ap:=λi j s t b _ e _ so=>by rw[no s (bg e)]at so;cases so
theorem Pi{bs:List Addr}(h:bs.Nodup){b:Addr}(e1:bs[i]?=some b)(e2:bs[j]?=some b):i=j:=by obtain⟨h1,q1⟩:=bb.mp e1;obtain⟨h2,q2⟩:=bb.mp e2;exact(iC h).mp (q1.trans q2.symm)
theorem Pj{ks:List Key}(h:ks.Nodup){b:Key}(e1:ks[i]?=some b)(e2:ks[j]?=some b):i=j:=by obtain⟨h1,q1⟩:=bb.mp e1;obtain⟨h2,q2⟩:=bb.mp e2;exact(iC h).mp (q1.trans q2.symm)
theorem Grp.more(g:Grp G F H0 H a ks dss bs){k:Key}{b:Addr}{v:V}(ek:ks[j]?=some k)(eb:bs[j]?=some b)(hx:H b=some (.lst xs))(rd:Rep G H0 d v):
  Grp G F H0 (upd H b (.lst (xs++[v]))) a (uy ks dss k d).1 (uy ks dss k d).2 bs:=by
 have hm:Bv ks k=true:=xF.mpr (bg ek);unfold uy;rw[ah hm];have ne:a≠b:=λz=>by subst z;rw[g.at_]at hx;cases hx
 refine⟨by rw[oE ne];exact g.at_,g.n0,g.nB,g.len,?_,g.nd,g.kd,λi c ds e1 e2=>?_⟩
 ·rw[ib,<- g.len',<- g.len,fL,g.len]
 ·rw[List.getElem?_zipWith]at e2;cases q1:ks[i]? with
  |none=>rw[q1]at e2;cases e2
  |some k'=>
   cases q2:dss[i]? with
   |none=>rw[q1,q2]at e2;cases e2
   |some ds'=>
    rw[q1,q2]at e2;cases e2;obtain⟨ys,w1,w2,w3,w4⟩:=g.each i c ds' e1 q2;by_cases hk:k'=k
    ·subst hk;have ij:=Pj g.kd q1 ek;subst ij;rw[e1]at eb;cases eb;rw[w1]at hx;cases hx;rw[ah rfl];exact⟨_,ox,w2,w3,pU w4 (oZ rd oV)⟩
    ·rw[ag hk];have nc:c≠b:=λz=>by subst z;have ij:=Pi g.nd e1 eb;subst ij;rw[q1]at ek;cases ek;exact hk rfl
     exact⟨ys,by rw[oE nc];exact w1,w2,w3,w4⟩
theorem Grp.fresh(g:Grp G F H0 H a ks dss bs){k:Key}{p:Addr}{v:V}(hk:k∉ks)(hp:H p=none)(h0:H0 p=none)(hB:F.B p=none)(rd:Rep G H0 d v):
  Grp G F H0 (upd (upd (upd H p (.lst [])) a (.dK ((ks++[k]).zip ((bs++[p]).map V.ref)))) p (.lst [v])) a (uy ks dss k d).1 (uy ks dss k d).2 (bs++[p]):=by
 have hm:¬Bv ks k=true:=λz=>hk (xF.mp z);unfold uy;rw[ag hm];have ne:a≠p:=λz=>by subst z;rw[g.at_]at hp;cases hp
 have np:p∉bs:=λz=>by
  obtain⟨i,hi,e⟩:=ic z;have e1:bs[i]?=some p:=by rw[aJ hi,e]
  obtain⟨ds,e2⟩:∃ds,dss[i]?=some ds:=⟨dss[i]'(by rw[<-g.len'];exact hi),aJ _⟩;obtain⟨ys,w1,_⟩:=g.each i p ds e1 e2;rw[hp]at w1;cases w1
 refine⟨by rw[oE ne,ox],g.n0,g.nB,by simp[g.len],by simp[g.len'],?_,?_,λi c ds e1 e2=>?_⟩
 ·rw[gp];refine⟨g.nd,by simp,λx hx y hy=>?_⟩;rw[aU]at hy;subst hy;exact λz=>np (z▸hx)
 ·rw[gp];refine⟨g.kd,by simp,λx hx y hy=>?_⟩;rw[aU]at hy;subst hy;exact λz=>hk (z▸hx)
 ·by_cases hi:i<bs.length
  ·rw[cG hi]at e1;rw[cG (by rw[<-g.len'];exact hi)]at e2;obtain⟨ys,w1,w2,w3,w4⟩:=g.each i c ds e1 e2;have nc:c≠p:=λz=>np (z▸bg e1);have na:c≠a:=λz=>by subst z;rw[g.at_]at w1;cases w1
   exact⟨ys,by rw[oE nc,oE na,oE nc];exact w1,w2,w3,w4⟩
  ·have hi':i=bs.length:=by have:i<(bs++[p]).length:=(bb.mp e1).1;rw[aM,ck]at this;omega
   subst hi';rw[cZ (ay _),gA]at e1;rw[g.len',cZ (ay _),gA]at e2;cases e1;cases e2;exact⟨[v],ox,h0,hB,oZ rd oV⟩
def Eo(G:Bg)(fk:FE):TS:=M7 (tBM G.K "list" CW (J9 (vm 1) (tF G fk) (R7 Bm)) (wq (vm 2) Bm))
theorem Kd{D0:Ends}{x:D}{k:Key}{vr:V}(R:oK G F σ ρ H0 H)(no:∀s∈ρ,s.own=false)(h1:σ[1]?=some (some (.ref a)))(h2:σ[2]?=some (some vr))(rd:Rep G H0 d vr)
  (g:Grp G F H0 H a ks dss bs) (hk:fk ρ=some (x,ρ)) (ek:uu x=some k) (l1:ks.length<1000) (l2:∀ds∈dss,ds.length<1000)
  (kont:∀Hi Hj bs',oA H0 Hi->oK G F σ ρ Hi Hj->Grp G F Hi Hj a (uy ks dss k d).1 (uy ks dss k d).2 bs'->D0.nx σ Hj):Eo G fk D0 σ H:=by
 refine⟨.ref a,h1,a,rfl,.inl ⟨_,.inl g.at_⟩,_,_,_,x,ρ,oK.still R no,hk,λv H1 H1' s R1 r=>?_⟩;have hs:oA H H1':=λb o e=>R1.keep b o e (by simp);have hf:∀b o,H1 b=some o->H0 b=some o\/H b=none:=R1.fr;have R2:oK G F σ ρ H1 H1':=R.grow hs s R1.sub hf;have g2:Grp G F H1 H1' a ks dss bs:=g.grow hs s hf;have rd2:=Rep.mono s _ _ rd;refine⟨ba _,λp hp=>?_⟩;have np:a≠p:=λz=>by subst z;rw[g2.at_]at hp;cases hp
 have R3:oK G F σ ρ H1 (upd H1' p (.lst [])):=R2.newOwn hp _;have g3:Grp G F H1 (upd H1' p (.lst [])) a ks dss bs:=g2.grow (oO hp _) (oA.refl _) λb o e=>.inl e;have lz:(ks.zip (bs.map V.ref)).length<av:=by rw[fI,aw,<- g.len,fL,aZ];omega
 refine⟨_,k,g3.at_,uv r ek,lz,λw ev=>?_,λev=>?_⟩
 ·obtain⟨j,e1,e2⟩:=Kb (by rw[aw];exact g.len) ev;rw[aV]at e2;cases eb:bs[j]? with
  |none=>rw[eb]at e2;cases e2
  |some b=>
   rw[eb]at e2;cases e2;obtain⟨ds,ed⟩:∃ds,dss[j]?=some ds:=⟨dss[j]'(by rw[<-g.len'];exact(bb.mp eb).1),aJ _⟩;obtain⟨xs,w1,w2,w3,w4⟩:=g3.each j b ds eb ed;have lx:xs.length<av:=by rw[<-oj w4,aZ];have:=l2 ds (bg ed);omega
   refine⟨.inl ⟨rfl,xs,SqL.of w1⟩,vr,h2,b,xs,vr,rfl,rfl,w1,lx,?_⟩;refine kont H1 _ bs s (oK.touch R3 no (λc o e z=>?_) λc o e=>?_) (g3.more e1 eb w1 rd2)
   ·have nc:c≠b:=λy=>by
     subst y;rcases z with z|z
     ·exact z w2
     ·exact z w3
    rw[oE nc];exact e
   ·by_cases y:c=b
    ·subst y;exact⟨_,ox⟩
    ·rw[oE y];exact⟨o,e⟩
 ·have nk:=Kc (by rw[aw];exact g.len) ev;have h0p:H1 p=none:=R2.h0none hp;have hBp:F.B p=none:=R2.bNone hp;have ez:putK (ks.zip (bs.map V.ref)) k (.ref p)=(ks++[k]).zip ((bs++[p]).map V.ref):=by rw[IW _ ev,cR,kR (by rw[aw];exact g.len)];rfl
  rw[ez];have q0:upd (upd H1' p (.lst [])) a (.dK ((ks++[k]).zip ((bs++[p]).map V.ref))) p=some (.lst []):=by rw[oE (λz=>np z.symm),ox]
  refine⟨.inl ⟨rfl,[],SqL.of q0⟩,vr,h2,p,[],vr,rfl,rfl,q0,by rw[aZ];decide,?_⟩;refine kont H1 _ (bs++[p]) s (oK.touch R3 no (λc o e z=>?_) λc o e=>?_) (g2.fresh nk hp h0p hBp rd2)
  ·have n1:c≠p:=λy=>by
    subst y;rcases z with z|z
    ·exact z h0p
    ·exact z hBp
   have n2:c≠a:=λy=>by
    subst y;rcases z with z|z
    ·exact z g2.n0
    ·exact z g2.nB
   rw[dG,oE n1,oE n2];exact e
  ·by_cases y:c=p
   ·subst y;exact⟨_,ox⟩
   ·rw[oE y];by_cases y2:c=a
    ·subst y2;exact⟨_,ox⟩
    ·rw[oE y2];exact⟨o,e⟩
end
def uz(vk:D->Option D):List D->List Key->List (List D)->Option (List Key×List (List D))
 |[],ks,dss=>some (ks,dss)
 |d::r,ks,dss=>match vk d with
  |some x=>match uu x with
   |some k=>if (decide (ks.length<1000)&&dss.all λds=>decide (ds.length<1000))=true then uz vk r (uy ks dss k d).1 (uy ks dss k d).2 else none
   |none=>none
  |none=>none
def FB(vk:D->Option D):FS:=λρ=>match ρ with
 |[.im (.lst L),.un,.un]=>match uz vk L [] []with
  |some (ks,dss)=>some (.rt (.dic ks (dss.map .lst)) [.im (.lst L),.un,.un])
  |none=>none
 |_=>none
section
variable{X:Cx}{G:Bg}
theorem zh{Hq:Hp}:∀(bs:List Addr) (dss:List (List D)),bs.length=dss.length->(∀(i:Nat) (b:Addr) (ds:List D),bs[i]?=some b->dss[i]?=some ds->∃xs,Hq b=some (.lst xs)/\og G Hq ds xs)->
  og G Hq (dss.map .lst) (bs.map V.ref)
 |[],[],_,_=>oV
 |[],_::_,h,_=>by cases h
 |_::_,[],h,_=>by cases h
 |b::bs,ds::dss,h,k=>by obtain⟨xs,h1,h2⟩:=k 0 b ds rfl rfl;exact oZ (uj h1 h2) (zh bs dss (by simpa using h) λi b ds e1 e2=>k (i+1) b ds e1 e2)
theorem MI{F:Fr}{H0 H:Hp}{dss:List (List D)}{bs:List Addr}{L:List D}{s2:Sl}(R:oK G F σ [.im (.lst L),.un,s2] H0 H)(g:Grp G F H0 H a ks dss bs)(o:Obj):
  ∃Hq,oA H0 Hq/\oK G F σ [.im (.lst L),.un,.un] Hq (upd H a (.frz o (.dK (ks.zip (bs.map V.ref)))))/\Rep G Hq (.dic ks (dss.map .lst)) (.ref a):=by
 have mb:∀{b:Addr},b∈bs->∃xs,H b=some (.lst xs)/\H0 b=none/\F.B b=none:=λ{b} hb=>by obtain⟨i,hi,e⟩:=ic hb;obtain⟨xs,w1,w2,w3,_⟩:=g.each i b (dss[i]'(by rw[<-g.len'];exact hi)) (by rw[aJ hi,e]) (aJ _);exact⟨xs,w1,w2,w3⟩
 have na:a∉bs:=λz=>by obtain⟨xs,w1,_⟩:=mb z;rw[g.at_]at w1;cases w1
 have s0:oA H0 (λc=>if c=a then some (.frz o (.dK (ks.zip (bs.map V.ref))))else if c∈bs then H c else H0 c):=λc u e=>by
  have n1:c≠a:=λz=>by subst z;rw[g.n0]at e;cases e
  have n2:c∉bs:=λz=>by obtain⟨_,_,w2,_⟩:=mb z;rw[w2]at e;cases e
  show (if c=a then _ else if c∈bs then H c else H0 c)=_;rw[ag n1,ag n2];exact e
 refine⟨_,s0,?_,?_⟩
 ·exact {
   sub:=λc u e=>by
    have e':(if c=a then some (HO.frz o (.dK (ks.zip (bs.map V.ref))))else if c∈bs then H c else H0 c)=some u:=e;by_cases n1:c=a
    ·subst n1;rw[ah rfl]at e';rw[ox];exact e'
    ·rw[ag n1]at e';rw[oE n1];by_cases n2:c∈bs
     ·rw[ah n2]at e';exact e'
     ·rw[ag n2]at e';exact R.sub _ _ e'
   g0:=R.g0.trans s0
   keep:=λc u e n=>by rw[oE (λz=>by subst z;rw[g.nB]at e;cases e)];exact R.keep c u e n
   fr:=λc u e=>by
    have e':(if c=a then some (HO.frz o (.dK (ks.zip (bs.map V.ref))))else if c∈bs then H c else H0 c)=some u:=e;by_cases n1:c=a
    ·subst n1;exact .inr g.nB
    ·rw[ag n1]at e';by_cases n2:c∈bs
     ·obtain⟨_,_,_,w3⟩:=mb n2;exact .inr w3
     ·rw[ag n2]at e';exact R.fr _ _ e'
   am:=λc hc=>by
    by_cases n1:c=a
    ·subst n1;exact⟨_,ox⟩
    ·rw[oE n1];exact R.am c hc
   len:=R.len
   sl:=λi s e=>by
    match i,e with
    |0,e=>cases e;obtain⟨v,w1,w2⟩:=R.sl 0 _ rfl;exact⟨v,w1,Rep.mono s0 _ _ w2⟩
    |1,e=>cases e;trivial
    |2,e=>cases e;trivial
    |i+3,e=>cases e
   ap:=λi j s t b _ e _ so=>by
    match i,e with
    |0,e=>cases e;cases so
    |1,e=>cases e;cases so
    |2,e=>cases e;cases so
    |i+3,e=>cases e }
 ·unfold Rep;refine⟨a,o,bs.map V.ref,rfl,by show (if a=a then _ else _)=_;rw[ah rfl],by rw[aw];exact g.len,zh bs dss g.len' λi b ds e1 e2=>?_⟩;obtain⟨xs,w1,w2,w3,w4⟩:=g.each i b ds e1 e2;have hb:=bg e1;refine⟨xs,?_,og.mono s0 _ _ w4⟩;show (if b=a then _ else if b∈bs then H b else H0 b)=_;have nb:b≠a:=λz=>na (by rw[<-z];exact hb);rw[ag nb,ah hb];exact w1
def Ke{L:List D}{s2:Sl}(h:s2.own=false):∀s∈[Sl.im (.lst L),.un,s2],s.own=false:=λs hs=>by
 simp only[aF,ee,or_false]at hs;rcases hs with rfl|rfl|rfl
 ·rfl
 ·rfl
 ·exact h
theorem Ib{st1 st2 st3:Stmt}{vk:D->Option D}(h1:PS X st1 (xp E6 (tN 1)))(h2:PS X st2 (N8 (tFI G (iL (cV 0))) (tN 2) (Eo G (c1 vk (cV 2)))))
  (h3:PS X st3 (RK (λσ H Q=>vm 1 σ H λx H1=>Q x H1\/∃a kvs,H1 a=some (.dK kvs)/\∀o,Q x (upd H1 a (.frz o (.dK kvs)))))):PSs X [st1,st2,st3] (tFS G (FB vk)):=
 PSs.weak (z9 h1 (z9 h2 (CK h3))) λE σ H hh=>by
  obtain⟨F,ρ,H0,o,R,e,k,k2⟩:=hh;unfold FB at e;split at e
  ·rename_i L;cases eg:uz vk L [] []with
   |none=>simp only[eg]at e;cases e
   |some p=>
    obtain⟨KS,DSS⟩:=p;simp only[eg]at e;cases e;intro p hp;have R1:oK G F (σ.set 1 (some (.ref p))) [.im (.lst L),.un,.un] H0 (upd H p (.dK [])):=(R.newOwn hp (.dK [])).set (i:=1) (v:=.ref p) (s:=.un) trivial (λz=>by cases z);have hlen:σ.length=3:=R.len;have g1:Grp G F H0 (upd H p (.dK [])) p [] [] []:=⟨ox,R.h0none hp,R.bNone hp,rfl,rfl,lr,lr,λi b ds e1=>by cases e1⟩;have v1:(σ.set 1 (some (V.ref p)))[1]?=some (some (.ref p)):=by rw[fZ (by rw[hlen];decide)]
    refine⟨_,_,_,L,_,oK.still R1 (Ke rfl),rfl,λJ Ha Hb s Ra wk=>?_⟩;have hs:oA (upd H p (.dK [])) Hb:=λb o e=>Ra.keep b o e (by simp);have R2:=R1.grow hs s Ra.sub Ra.fr;have g2:=g1.grow hs s Ra.fr;refine⟨λi m σ' H'=>m=L.length - i/\i<=L.length/\∃Hi ks dss bs s2,oA Ha Hi/\Sl.own s2=false/\oK G F σ' [.im (.lst L),.un,s2] Hi H'/\σ'[1]?=some (some (.ref p))/\Grp G F Hi H' p ks dss bs/\uz vk (L.drop i) ks dss=some (KS,DSS),
     ⟨_,rfl,ba _,Ha,[],[],[],.un,oA.refl _,rfl,R2,v1,g2,eg⟩,?_⟩
    rintro i m σi Hi' ⟨rfl,hi,Hi,ks,dss,bs,s2,si,n2,Ri,vi,gi,ei⟩;by_cases hlt:i<L.length
    ·have ed:L.drop i=L[i]::L.drop (i+1):=gY hlt;rw[ed]at ei;unfold uz at ei;cases ev:vk L[i]with
     |none=>simp only[ev]at ei;cases ei
     |some x=>
      simp only[ev]at ei;cases ek:uu x with
      |none=>simp only[ek]at ei;cases ei
      |some kk=>
       simp only[ek]at ei;split at ei
       ·rename_i hb;simp only[aE,aX,aS]at hb;obtain⟨go,yl⟩:=(wk i Hi Hi' si Ri.sub).1 L[i] (aJ hlt);refine .inr ⟨go,λσ' H'=>∃Hi ks dss bs s2,oA Ha Hi/\Sl.own s2=false/\oK G F σ' [.im (.lst L),.un,s2] Hi H'/\σ'[1]?=some (some (.ref p))/\Grp G F Hi H' p ks dss bs/\uz vk (L.drop (i+1)) ks dss=some (KS,DSS),
         λσ' H' q=>⟨L.length - (i+1),by omega,rfl,hlt,q⟩,λxv H' y=>?_⟩
        obtain⟨H2,t1,t2,t3,t4,t5⟩:=yl xv H' y;have hl3:σi.length=3:=Ri.len;have R3:oK G F (σi.set 2 (some xv)) [.im (.lst L),.un,.im L[i]] H2 H':=(Ri.grow t3 t1 t2 t4).setIm 2 t5;have w1:(σi.set 2 (some xv))[1]?=some (some (.ref p)):=by rw[hU (by decide)];exact vi
        have w2:(σi.set 2 (some xv))[2]?=some (some xv):=by rw[fZ (by rw[hl3];decide)]
        refine Kd R3 (Ke rfl) w1 w2 t5 (gi.grow t3 t1 t4) (by show c1 vk (cV 2) _=_;unfold c1 cV;simp only[jH,List.getElem?_cons_zero,ev]) ek hb.1 (λds hd=>hb.2 ds hd) λHc Hd bs' sc Rc gc=>?_;exact⟨Hc,_,_,bs',_,si.trans (t1.trans sc),rfl,Rc,w1,gc,ei⟩
       ·cases ei
    ·have hi':i=L.length:=by omega
     refine .inl ⟨(wk i Hi Hi' si Ri.sub).2 hi',?_⟩;subst hi';rw[List.drop_length]at ei;cases ei;refine⟨.ref p,vi,.inr ⟨p,_,gi.at_,λo=>?_⟩⟩;obtain⟨Hq,q1,q2,q3⟩:=MI Ri gi o;exact k _ _ Hq _ (s.trans (si.trans q1)) q2 q3
  ·cases e
end
section
variable{X:Cx}{G:Bg}
theorem MJ:∀y b,pI "int" y=some b->bW X.K (y.val G) (.type "int")=some b:=λy b h=>by
 cases y with
 |c k=>cases h
 |b n=>
  unfold pI at h;simp only at h
  iterate 7 (split at h;· rename_i e;subst e;cases h;first|rfl|kernel_rfl)
  cases h
theorem Kg:∀y b,pI "bool" y=some b->bW X.K (y.val G) (.type "bool")=some b:=λy b h=>by
 cases y with
 |c k=>cases h
 |b n=>
  unfold pI at h;simp only at h
  iterate 7 (split at h;· rename_i e;subst e;cases h;first|rfl|kernel_rfl)
  cases h
theorem kit_tuple:∀y b,pI "tuple" y=some b->bW X.K (y.val G) (.type "tuple")=some b:=λy b h=>by
 cases y with
 |c k=>cases h
 |b n=>
  unfold pI at h;simp only at h
  iterate 7 (split at h;· rename_i e;subst e;cases h;first|rfl|kernel_rfl)
  cases h
end
end L4
namespace L4
open PySem PySem.Spec PySem.Calls PyProof.Rows PySem.W L2 L3
def Ie{α:Type}(c:Nat->Nat->Bool):KasT α->α
 |.ret a=>a
 |.ask i j k=>Ie c (k (c i j))
def ra{α:Type}(P:Nat->Nat->Prop)(R:α->Prop):KasT α->Prop
 |.ret a=>R a
 |.ask i j k=>P i j/\∀b,ra P R (k b)
theorem ra.run{α:Type}{P:Nat->Nat->Prop}{R:α->Prop}(c:Nat->Nat->Bool):∀(t:KasT α),ra P R t->R (Ie c t)
 |.ret a,h=>h
 |.ask i j k,h=>ra.run c (k (c i j)) (h.2 (c i j))
theorem ra.bind{α β:Type}{P:Nat->Nat->Prop}{R:α->Prop}{S:β->Prop}{f:α->KasT β}(hf:∀a,R a->ra P S (f a)):∀{t:KasT α},ra P R t->ra P S (t.bind f)
 |.ret a,h=>hf a h
 |.ask i j k,h=>⟨h.1,λb=>ra.bind hf (h.2 b)⟩
theorem Gw{α:Type}{cmp:Nat->Nat->(Bool->ab->Prop)->ab->Prop}{c:Nat->Nat->Bool}{P:Nat->Nat->Prop}{s:ab}{Q:α->ab->Prop}(hc:∀i j C,P i j->C (c i j) s->cmp i j C s):
  ∀{R:α->Prop} {t:KasT α},ra P R t->Q (Ie c t) s->t.kasWp cmp Q s
 |R,.ret a,_,q=>q
 |R,.ask i j k,h,q=>hc i j _ h.1 (Gw hc (h.2 (c i j)) q)
def p7(n:Nat)(p:Array Nat):Prop:=p.toList.Perm (aL n)
theorem p7.getD{n:Nat}{p:Array Nat}(h:p7 n p)(hn:0<n)(i:Nat):p.getD i 0<n:=by
 unfold Array.getD;split
 ·rename_i hi;have:p[i]∈p.toList:=by simp
  exact bh.mp (h.mem_iff.mp this)
 ·exact hn
theorem p7.rev{n:Nat}{p:Array Nat}(h:p7 n p)(i j:Nat):p7 n (kas_rev p i j):=by unfold p7 kas_rev mirror;exact(jz.mp (foldl_swaps_perm _ _ _ _)).trans h
theorem p7.bub{n:Nat}{p:Array Nat}(h:p7 n p)(i j:Nat):p7 n (bubble p i j):=(jz.mp (bubble_perm _ _ _)).trans h
abbrev In2(n:Nat):Nat->Nat->Prop:=λi j=>i<n/\j<n
theorem Di{n:Nat}(hn:0<n){p:Array Nat}(h:p7 n p):∀f k,ra (In2 n) (λ_=>True) (kas_asc p f k)
 |0,k=>trivial
 |f+1,k=>⟨⟨h.getD hn _,h.getD hn _⟩,λb=>by cases b<;>first|exact trivial|exact Di hn h f (k+1)⟩
theorem xG{n:Nat}(hn:0<n):∀f (p:Array Nat) k q,p7 n p->ra (In2 n) (λr=>p7 n r.1) (kas_desc f p k q)
 |0,p,k,q,h=>h
 |f+1,p,k,q,h=>⟨⟨h.getD hn _,h.getD hn _⟩,λb=>by
   cases b with
   |true=>
    show ra _ _ (if q > 0 then _ else _);split
    ·exact xG hn f _ _ _ (h.rev _ _)
    ·exact xG hn f _ _ _ h
   |false=>
    refine⟨⟨h.getD hn _,h.getD hn _⟩,λd=>?_⟩;cases d with
    |true=>exact h
    |false=>exact xG hn f _ _ _ h⟩
theorem Ep{n:Nat}(hn:0<n){p:Array Nat}(h:p7 n p)(k m:Nat):ra (In2 n) (λr=>p7 n r.2) (kas_tail3 k m p):=
 ra.bind (P:=In2 n) (R:=λ_=>True) (S:=λ(r:Nat×Array Nat)=>p7 n r.2) (f:=λm=>.ret (m,kas_rev p 0 k)) (λa _=>h.rev 0 k) (Di hn (h.rev 0 k) _ _)
theorem xH{n:Nat}(hn:0<n){p:Array Nat}(h:p7 n p)(k m:Nat):ra (In2 n) (λr=>p7 n r.2) (kas_descPart k m p):=
 ra.bind (λr hr=>by
  show ra _ _ (if r.2.2 > 0 then _ else _);split
  ·exact Ep hn (hr.rev _ _) _ _
  ·exact Ep hn hr _ _) (xG hn _ p _ _ h)
theorem Ig{n:Nat}(hn:0<n){p:Array Nat}(h:p7 n p)(m:Nat):ra (In2 n) (λr=>p7 n r.2) (kas_count m p):=
 ra.bind (λk _=>by
  show ra _ _ (if (k==m)=true then _ else _);split
  ·exact h
  ·split
   ·refine⟨⟨h.getD hn _,h.getD hn _⟩,λb=>?_⟩;cases b with
    |true=>exact h
    |false=>exact xH hn (h.rev _ _) _ _
   ·exact xH hn h _ _) (Di hn h _ _)
theorem yJ{n:Nat}(hn:0<n){p:Array Nat}(h:p7 n p)(k:Nat):∀f l r,ra (In2 n) (λ_=>True) (kas_place p k f l r)
 |0,l,r=>trivial
 |f+1,l,r=>by
  unfold kas_place;split
  ·trivial
  ·refine⟨⟨h.getD hn _,h.getD hn _⟩,λb=>?_⟩;cases b with
   |true=>exact yJ hn h k f _ _
   |false=>exact yJ hn h k f _ _
theorem Gx{n:Nat}(hn:0<n):∀f (p:Array Nat) k,p7 n p->ra (In2 n) (p7 n) (kas_bin f p k)
 |0,p,k,h=>h
 |f+1,p,k,h=>ra.bind (λl _=>Gx hn f _ _ (h.bub _ _)) (yJ hn h k _ _ _)
theorem AH{n:Nat}(hn:0<n):ra (In2 n) (p7 n) (gU n):=
 ra.bind (λr hr=>by
  show ra _ _ (if r.1<n then _ else _);split
  ·exact Gx hn _ _ _ hr
  ·exact hr) (Ig hn (p:=List.toArray (aL n)) (by unfold p7;exact List.Perm.refl _) n)
def v9(a:Addr)(h h':Heap):Prop:=∀b o,b≠a->h.get? b=some o->h'.get? b=some o
variable{a:Addr}
section
variable{prog:aq}{w:aj}{A:ar}{E:aa->ab->Prop}{s:ab}
def yK(c:Nat->Nat->Bool)(vs:List aa):List aa:=(Ie c (gU vs.length)).toList.map λi=>vs.getD i Value.none
theorem Kh(c:Nat->Nat->Bool)(vs:List aa)(h:0<vs.length):(yK c vs).length=vs.length:=by unfold yK;rw[aw];have:=(AH h).run c _;rw[this.length_eq,b8]
theorem Ki(c:Nat->Nat->Bool)(v:aa):yK c [v]=[v]:=rfl
theorem Kj{vs:List aa}{n:Nat}{P:mw->ab->Prop}{κ:fQ}{c:Nat->Nat->Bool}(ho:s.heap.get? a=some (seqObj "list" vs.toArray n))(h1:0<vs.length)(h64:vs.length<64)
  (hk:∀(h':Heap) (C:fQ->ab->Prop),v9 a s.heap h'->C κ { s with heap:=h' }->ae (model prog w) A (keyKind' vs.toArray) C (λ_ _=>False) { s with heap:=h' })
  (hc:∀(h':Heap) (i j:Nat) (C:Bool->ab->Prop),v9 a s.heap h'->i<vs.length/\j<vs.length->C (c i j) { s with heap:=h' }->gV prog w A κ vs i j C { s with heap:=h' })
  (h:∀h' e,v9 a s.heap h'->h'.get? a=some (seqObj "list" (yK c vs).toArray e)->P (.done (.ret .none)) { s with heap:=h' }):
  ae (model prog w) A (cf.«list.sort» ⟨[.ref a],[]⟩) P E s:=by
 have ha:a<s.heap.objs.size:=aA ho;obtain⟨e1,o1⟩:∃e1,(s.heap.update a (bK λ_=>(#[]:Array aa))).get? a=some (seqObj "list" #[] e1):=⟨_,kU ho λ_=>#[]⟩;generalize hw:((s.heap.update a (bK λ_=>(#[]:Array aa))).push (seqObj "tuple" vs.toArray 0)).push (seqObj "list" #[] 0)=h3;have kb:v9 a s.heap h3:=λb o hb q=>by rw[<-hw];exact az _ (az _ ((dX s.heap _ (bX hb)).trans q))
 have o3:h3.get? a=some (seqObj "list" #[] e1):=by rw[<-hw];exact az _ (az _ o1)
 rw[list_sort_plain];refine af (listItems_at ho rfl (af (iX ho rfl ?_ (by rw[aK,aZ];omega) (ba _))));refine af (jg o1 rfl (af (lu ?_ (by show vs.length<=_;rw[aZ];omega))));refine af (iY (bz ?_) (ba _));show ae (model prog w) A _ P E { s with heap:=((s.heap.update a (bK λ_=>(#[]:Array aa))).push (seqObj "tuple" vs.toArray 0)).push (seqObj "list" #[] 0) };rw[hw];dsimp only;obtain⟨c2,hc2⟩:∃c2,(h3.update a (bK λ_=>(yK c vs).toArray)).get? a=some (seqObj "list" (yK c vs).toArray c2):=⟨_,kU o3 λ_=>(yK c vs).toArray⟩;have fin:=h _ c2 (λb o hb q=>(dX h3 _ (bX hb)).trans (kb b o hb q)) hc2;have szo:(yK c vs).toArray.size<=av+1:=by rw[aK,Kh c vs h1,aZ];omega
 by_cases h2:2<=vs.length
 ·have hn2:¬vs.toArray.size<2:=by rw[aK];omega
  rw[ag hn2,ag hn2];refine af (bt (hk h3 (λk s'=>k=κ/\s'={ s with heap:=h3 }) kb ⟨rfl,rfl⟩) ?_ λ_ _ x=>x.elim);rintro k s' ⟨rfl,rfl⟩;refine af (bt (kat_run (Q:=λst' s'=>s'={ s with heap:=h3 }/\(arrOf st').map (·.2)=(yK c vs).toArray/\failedOf st'=none) (G:=λp s'=>p=Ie c (gU vs.length)/\s'={ s with heap:=h3 }) rfl h2 h64 ?_ ?_) ?_ λ_ _ e=>e)
  ·rintro p st' s' _ har hf ⟨rfl,rfl⟩;exact⟨rfl,kat_snds rfl har,hf⟩
  ·exact Gw (P:=In2 vs.length) (λi j C q r=>hc h3 i j C kb q r) (AH h1) ⟨rfl,rfl⟩
  ·rintro⟨⟨⟩,st'⟩ s' ⟨rfl,ha2,hf⟩;dsimp only;refine af (jg o3 rfl ?_);rw[ha2,hf];refine af (iX o3 rfl ?_ (ba _) szo);simp only[bne_self_eq_false,dZ,if_false];exact ao fin
 ·obtain⟨v,rfl⟩:∃v,vs=[v]:=by
   cases vs with
   |nil=>cases h1
   |cons v r=>
    cases r with
    |nil=>exact⟨v,rfl⟩
    |cons x y=>exact ai (by simp) h2
  refine af (ao ?_);refine af (ao ?_);refine af (jg o3 rfl ?_);have eo:mx (λx=>x.snd) (arrOf ((),SortSt.mk' general' (#[v].zip #[v]) #[] 7 none).snd)=(yK c [v]).toArray:=by rw[Ki];show mx (λx=>x.snd) (#[v].zip #[v])=#[v];simp
  rw[eo];refine af (iX o3 rfl ?_ (ba _) szo);simp only[bne_self_eq_false,dZ,if_false];exact ao fin
theorem FC{l:Addr}{T:String}{o:Obj}{n:Nat}{vs:List aa}{Q:aa->ab->Prop}{κ:fQ}{c:Nat->Nat->Bool}(hT:T="list" \/ T="tuple")(ho:s.heap.get? l=some o)(hcl:o.cls=.type T)(hd:o.data=.seq vs.toArray n)(h1:0<vs.length)(h64:vs.length<64)
  (hk:∀(h':Heap) (C:fQ->ab->Prop),(∀b o,s.heap.get? b=some o->h'.get? b=some o)->C κ { s with heap:=h' }->ae (model prog w) A.in1.in1 (keyKind' vs.toArray) C (λ_ _=>False) { s with heap:=h' })
  (hc:∀(h':Heap) (i j:Nat) (C:Bool->ab->Prop),(∀b o,s.heap.get? b=some o->h'.get? b=some o)->i<vs.length/\j<vs.length->C (c i j) { s with heap:=h' }->gV prog w A.in1.in1 κ vs i j C { s with heap:=h' })
  (h:∀(g h':Heap) e,(∀b o,s.heap.get? b=some o->g.get? b=some o)->(∀b o,g.get? b=some o->h'.get? b=some o)->h'.get? g.objs.size=some (seqObj "list" (yK c vs).toArray e)->Q (.ref g.objs.size) { s with heap:=h' }):
  ae (model prog w) A (call (.builtin "sorted") [.ref l]) Q E s:=by
 refine jA kind_sorted plain_sorted entry_sorted (args_sorted1 _) ?_;unfold cf.«sorted»;refine af (m:=checkCount "sorted" 1 1 _) (ao (af (wpAny_collect_seq l hT ho hcl hd (λg gk=>?_) (by rw[aZ];simp;omega))));refine af (iY ?_ (by rw[aZ];simp;omega));show ae _ _ _ _ _ { s with heap:=g.push (seqObj "list" vs.toArray 0) };have on:(g.push (seqObj "list" vs.toArray 0)).get? g.objs.size=some (seqObj "list" vs.toArray 0):=aQ _ rfl;have all:∀h',v9 g.objs.size (g.push (seqObj "list" vs.toArray 0)) h'->∀b o,g.get? b=some o->h'.get? b=some o:=λh' kb b o q=>kb b o (aD (aA q)) (az _ q)
 show ae _ _ (do let _<-holding [Value.ref g.objs.size] _;_) _ _ _;refine af (bz (eB ly ⟨_,on,rfl⟩ kW ?_ (lA _)));refine Kj (s:={ s with heap:=g.push (seqObj "list" vs.toArray 0) }) on h1 h64 (λh' C kb q=>hk h' C (λb o z=>all h' kb b o (gk b o z)) q) (λh' i j C kb q r=>hc h' i j C (λb o z=>all h' kb b o (gk b o z)) q r) λh' e kb q=>?_;exact⟨_,rfl,ao ⟨_,rfl,h g h' e gk (all h' kb) q⟩⟩
end
def ltS(a b:Str):Bool:=decide (a.cps.toList<b.cps.toList)
def Dj:List Str->List Str->Bool
 |[],[]=>false
 |[],_::_=>true
 |_::_,[]=>false
 |x::xs,y::ys=>if x=y then Dj xs ys else ltS x y
inductive sJ:List aa->List Str->Prop
 |nil:sJ [] []
 |cons (x:Str) (t:Tok) {vs:List aa} {xs:List Str} (h:sJ vs xs):sJ (.str x t::vs) (x::xs)
def Ih(c:Nat->Nat->Bool)(n:Nat):List Nat:=(Ie c (gU n)).toList
theorem BZ(c:Nat->Nat->Bool){n:Nat}(h:0<n):(Ih c n).Perm (aL n):=(AH h).run c _
theorem Gy(c:Nat->Nat->Bool){n:Nat}(h:0<n):∀i∈Ih c n,i<n:=λi hi=>bh.mp ((BZ c h).mem_iff.mp hi)
theorem B2{xs:List V}{us:List aa}(r:Vals xs us):∀(is:List Nat),(∀i∈is,i<xs.length)->Vals (is.map λi=>xs.getD i V.non) (is.map λi=>us.getD i Value.none)
 |[],_=>.nil
 |i::is,h=>by have hi:=h i (.head _);obtain⟨u,e,ru⟩:=r.get (aJ hi);refine .cons ?_ (B2 r is λj hj=>h j (.tail _ hj));show RelV (xs.getD i V.non) (us.getD i Value.none);rw[cF,cF,e,aJ hi];exact ru
section
variable{X:Cx}{G:Bg}{pins:List (Addr×Obj)}{σ:St}{H:Hp}{s:ab}
theorem seq_val{pins:List (Addr×Obj)}{s:ab}{σ:St}{H:Hp}{ys:List V}(I:Inv X pins σ H s)(hq:SqL X.K H a ys\/SqT X.K H a ys):∃its,Vals ys its/\∃T o n,(T="list" \/ T="tuple")/\s.heap.get? a=some o/\o.cls=.type T/\o.data=.seq its.toArray n:=by
 rcases hq with hq|hq
 ·obtain⟨its,ri,pl,_⟩:=I.list hq;obtain⟨o,a1,a2,n,a3⟩:=pl.isList;exact⟨its,ri,_,o,n,.inl rfl,a1,a2,a3⟩
 ·obtain⟨its,ri,⟨o,a1,a2,n,a3⟩,_⟩:=I.tuple hq;exact⟨its,ri,_,o,n,.inr rfl,a1,a2,a3⟩
theorem B3{ds:List D}{xs:List V}(r:og G H ds xs):∀(is:List Nat),(∀i∈is,i<ds.length)->og G H (is.map λi=>ds.getD i .non) (is.map λi=>xs.getD i V.non)
 |[],_=>oV
 |i::is,h=>by have hi:=h i (.head _);obtain⟨v,e,rv⟩:=rh r (aJ hi);refine oZ ?_ (B3 r is λj hj=>h j (.tail _ hj));show Rep G H (ds.getD i .non) (xs.getD i V.non);rw[cF,cF,e,aJ hi];exact rv
end
end L4
namespace L4
open PySem PySem.Spec PyProof.Rows L2 L3
def GA:List String:=["NoneType", "bool", "int", "str", "tuple", "list", "dict"]
def qR(n c:Nat):Ty->Option Bool:=λy=>match y with
 |.b x=>if GA.contains x=true then some false else none
 |.c k=>if k<n then some (k==c)else none
def pP(K:ak)(cs:List Addr)(C:Addr)(c:Nat):Bool:=
 GA.all (λx=>bW K (.type x) (.ref C)==some false)&&(aL cs.length).all λk=>bW K (.ref (cs.getD k 0)) (.ref C)==some (k==c)
theorem pA{B:Bg}{n c:Nat}{cs:List Addr}(h:pP B.K cs (B.ca c) c=true)(hn:cs.length=n)(hc:∀k,k<n->cs.getD k 0=B.ca k)(hI:∀k,k<n->Ea B.K (B.ca k)):AE B c (qR n c):=by
 unfold pP at h;rw[aE,aS,aS]at h;refine⟨λy b e=>?_,λj b e=>?_⟩
 ·cases y with
  |b x=>
   unfold qR at e;simp only at e;split at e
   ·rename_i hx;cases e;exact eT (h.1 x (jN.mp hx))
   ·cases e
  |c k=>
   unfold qR at e;simp only at e;split at e
   ·rename_i hk;cases e;have:=eT (h.2 k (bh.mpr (by omega)));rw[hc k hk]at this;exact this
   ·cases e
 ·unfold qR at e;simp only at e;split at e
  ·rename_i hk;exact hI j hk
  ·cases e
theorem Pk{l:List Addr}(h:l.Nodup){j k:Nat}(hj:j<l.length)(hk:k<l.length)(e:l.getD j 0=l.getD k 0):j=k:=by
 rw[cF,cF,aJ hj,aJ hk]at e;have pw:=jB.mp h;rcases ky j k with y|y|y
 ·exact ai e (pw j k hj hk y)
 ·exact y
 ·exact ai e.symm (pw k j hk hj y)
variable{x:Str}
section
variable{B:Bg}{K:ak}{mg:Str->Option aa}{h:Heap}
theorem const_int{i:Int}{t:Tok}(X:K.In h)(Gn:h.Ns aC mg)(e:fV K aC x=some (some (.int i t))):sP B mg x (.int i):=
 ⟨.int i,_,fT X Gn e,⟨_,rfl⟩,λ_=>pY _⟩
inductive uA:List aa->List Str->Prop
 |nil:uA [] []
 |cons {v:aa} {x:Str} {t:Tok} {vs:List aa} {xs:List Str} (e:v=.str x t) (h:uA vs xs):uA (v::vs) (x::xs)
theorem uA.vals{vs:List aa}{xs:List Str}(h:uA vs xs):Vals (xs.map V.str) vs:=by
 induction h with
 |nil=>exact .nil
 |cons e h ih=>exact .cons ⟨_,e⟩ ih
theorem AI{H:Hp}:∀xs:List Str,og B H (xs.map D.str) (xs.map V.str)
 |[]=>oV
 |x::xs=>oZ (rR x) (AI xs)
theorem FD{a:Addr}{o:Obj}{its:Array aa}{n:Nat}(xs:List Str)(X:B.K.In h)(Gn:h.Ns aC mg)(e:fV B.K aC x=some (some (.ref a)))(l:B.K.lookup a=some o)(hc:o.cls=.type "tuple")(hd:o.data=.seq its n)(hz:its.size<=1000)
  (r:uA its.toList xs):sP B mg x (.tup (xs.map D.str)):=
 ⟨.ref a,_,fT X Gn e,rfl,λH=>zW (.inr ⟨o,its,n,l,hc,hd,by rw[aZ];omega,r.vals⟩) (AI xs)⟩
end
variable{ns:List Str}
section
variable{f g' h:FS}{c:FT}{e e' e2:FE}{a a':FA}{ρ ρ' ρ1 ρ2 ρ3:List Sl}{d x y z:D}{ds xs ys:List D}{k:Nat}{cap:List Nat}{g:FG}{ft:FT}{fe:FE}
theorem AJ{α:Type}(dd:α->D)(p:α->Bool)(h:α->D):∀l:List α,
  (∀a∈l,∃ρ1 ρ2,g (dd a) (De k cap ρ)=some ρ1/\ft ρ1=some (p a,ρ2)/\(p a=true->∃ρ3,fe ρ2=some (h a,ρ3)/\sN cap (ρ3.drop k) ρ=some ρ)/\(p a=false->sN cap (ρ2.drop k) ρ=some ρ))->
  tT k cap g ft fe (l.map dd) ρ=some ((l.filter p).map h,ρ)
 |[],_=>rfl
 |a::l,st=>by
  obtain⟨ρ1,ρ2,h1,h2,h3,h4⟩:=st a aH;have ih:=AJ dd p h l λa' ha=>st a' (aG _ ha);rw[aW];unfold tT;rw[h1];simp only[h2];cases hp:p a with
  |true=>obtain⟨ρ3,h5,h6⟩:=h3 hp;simp only[h5,h6,ih,cP,hp,if_true,aW]
  |false=>simp only[h4 hp,ih,cP,hp];rfl
theorem wa{α:Type}(dd:α->D)(h:α->D)(l:List α)(st:∀a∈l,∃ρ1 ρ3,g (dd a) (De k cap ρ)=some ρ1/\fe ρ1=some (h a,ρ3)/\sN cap (ρ3.drop k) ρ=some ρ):tT k cap g pH fe (l.map dd) ρ=some (l.map h,ρ):=by have:=AJ (ft:=pH) dd (λ_=>true) h l λa ha=>let ⟨ρ1,ρ3,h1,h2,h3⟩:=st a ha;⟨ρ1,ρ1,h1,rfl,λ_=>⟨ρ3,h2,h3⟩,λz=>by cases z⟩;rw[this,List.filter_eq_self.mpr λ_ _=>rfl]
theorem GB:∀bs:List Bool,Bu (bs.map D.bl)=some bs
 |[]=>rfl
 |b::bs=>by rw[aW];unfold Bu;rw[GB bs];rfl
theorem Kk(bs:List Bool):rJ (.lst (bs.map D.bl))=some (.bl (bs.all id)):=by unfold rJ;simp only[GB];rfl
theorem MK{α:Type}(l:List α)(p:α->Bool):rJ (.lst (l.map λa=>D.bl (p a)))=some (.bl (l.all p)):=by rw[show (l.map λa=>D.bl (p a))=(l.map p).map D.bl by rw[gB];rfl,Kk,List.all_map];rfl
theorem Dk(neg:Bool)(a b:Int):dEq neg (.int a) (.int b)=some (.bl (if neg then !decide (a=b)else decide (a=b))):=by
 have e:Fe neg (.int a) (.int b)=some (.bl (if neg then !decide (V.int a=V.int b)else decide (V.int a=V.int b))):=rfl;have e2:decide (V.int a=V.int b)=decide (a=b):=by
  by_cases h:a=b
  ·subst h;simp
  ·rw[aY h,aY (λz=>h (by injection z))]
 unfold dEq;rw[e,e2]
theorem vA(h1:e ρ=some (.bl true,ρ1)):ph e e' ρ=e' ρ1:=by unfold ph;rw[h1]
theorem wb{g:Nat->Option (List D->Option D)}{m:Str}{c:Nat}{hh:List D->Option D}(h1:e ρ=some (.obj c ns xs,ρ1))(h2:g c=some hh)(h3:ns.contains m=false)(h4:a ρ1=some (ys,ρ2))(h5:hh (.obj c ns xs::ys)=some d):oU g m e a ρ=some (d,ρ2):=by unfold oU;rw[h1];simp only[h2,h3,h4,h5];rfl
theorem rb{c:Nat}{g:List D->Option (List Str×List D)}(h1:a ρ=some (ds,ρ1))(h2:g ds=some (ns,xs)):oG c g a ρ=some (.obj c ns xs,ρ1):=by unfold oG;rw[h1];simp only[h2]
theorem Pl{np n:Nat}{b:FS}(hl:ds.length=np)(h:b (L4.stE n ds)=some (.rn xs ρ)):fnD np n b ds=some (.lst xs):=by unfold fnD;rw[ah hl,h]
end
end L4
namespace L4
open PySem PySem.Spec PyProof.Rows L2 L3
open PySem.W (nsIn findIn keepIn isFn makesIn fnOf)
def FH{α:Type}:Nat->(List α->Prop)->Prop
 |0,P=>P []
 |n+1,P=>∀a,FH n λl=>P (a::l)
theorem z5{α:Type}:∀{n:Nat} {P:List α->Prop},FH n P->∀l,l.length=n->P l
 |0,P,h,[],_=>h
 |n+1,P,h,a::l,e=>z5 (P:=λl=>P (a::l)) (h a) l (fM e)
structure CF(K:ak)(C:Addr)(xs:List Str):Prop where
 ci:Ea K C
 mks:makesIn K C=true
 kp:keepIn K (.ref C)=true
 na:(xs.all λx=>match findIn K (.ref C) x with|some none=>true|_=>false)=true
theorem CF.at{K:ak}{C:Addr}{xs:List Str}(c:CF K C xs)(i:Nat){x:Str}(h:xs[i]?=some x):Cls K C/\sh K C x:=⟨c.ci.cl,by
 have e:=aS.mp c.na x (bg h);unfold sh;split at e
 ·rename_i e1;exact e1
 ·cases e⟩
variable{i:Nat}
theorem qr{Q:Nat->Prop}(h:Q i):∀c,(c==i)=true->Q c:=λc e=>by rw[beq_iff_eq]at e;subst e;exact h
theorem orQ{Q:Nat->Prop}{p:Nat->Bool}(h:∀c,p c=true->Q c)(h':Q i):∀c,(p c||c==i)=true->Q c:=λc e=>by
 rw[iJ]at e;rcases e with e|e
 ·exact h c e
 ·exact qr h' c e
structure Yw(P:aq)(w:aj)(mg:Str->Option aa)(base:Heap)(G:Bg):Prop where
 m:∃h:Heap,G.K.In h/\h.Ns aC mg
variable{np:Nat}{vs:List V}{us:List aa}
section
variable{P:aq}{w:aj}{mg:Str->Option aa}{base:Heap}{G:Bg}{x m qual:Str}{st:Stmt}{N ps:List Str}{k c:Nat}{K:ak}
theorem Yw.g(y:Yw P w mg base G){v:aa}(e:nsIn G.K aC x=some (some v)):mg x=some v:=by obtain⟨h,X,Gn⟩:=y.m;exact fT X Gn e
theorem Yw.n(y:Yw P w mg base G){xs:List Str}(h:(xs.all λx=>match nsIn G.K aC x with|some none=>true|_=>false)=true)(i:Nat)(hi:xs[i]?=some x):mg x=none:=by
 obtain⟨hh,X,Gn⟩:=y.m;have e:=aS.mp h x (bg hi);split at e
 ·rename_i e1;exact W.mg_none_of X Gn e1
 ·cases e
def GC(K:ak)(x:Str)(i:Int):Prop:=∃t:Tok,nsIn K aC x=some (some (.int i t))
theorem Yw.ci(y:Yw P w mg base G){i:Int}(q:GC G.K x i):sP G mg x (.int i):=by obtain⟨h,X,Gn⟩:=y.m;obtain⟨t,e⟩:=q;exact const_int X Gn e
def GS(K:ak)(x:Str)(xs:List Str):Prop:=∃(a:Addr) (o:Obj) (its:Array aa) (n:Nat),nsIn K aC x=some (some (.ref a))/\K.lookup a=some o/\o.cls=.type "tuple" /\ o.data=.seq its n/\its.size<=1000/\uA its.toList xs
theorem Yw.cs(y:Yw P w mg base G){xs:List Str}(q:GS G.K x xs):sP G mg x (.tup (xs.map D.str)):=by obtain⟨h,X,Gn⟩:=y.m;obtain⟨a,o,its,n,e,l,h1,h2,h3,h4⟩:=q;exact FD xs X Gn e l h1 h2 h3 h4
def GD(K:ak)(x:Str)(st:Stmt):Prop:=∃(f:Addr) (fd:bq),nsIn K aC x=some (some (.ref f))/\Fun K x x st f fd
def GM(K:ak)(C:Addr)(m qual:Str)(st:Stmt):Prop:=∃(f:Addr) (fd:bq),findIn K (.ref C) m=some (some (.ref f))/\isFn K (.ref f)=true/\Fun K m qual st f fd
def GJ(K:ak)(C:Addr)(qual:Str)(st:Stmt)(vs:List V):Prop:=∃(f:Addr) (fd:bq) (T:Addr) (o:Obj) (dl:List aa) (n:Nat),findIn K (.ref C) "__init__" = some (some (.ref f))/\isFn K (.ref f)=true/\HB K "__init__" qual st f fd T/\K.lookup T=some o/\o.data=.seq dl.toArray n/\Vals vs dl
abbrev Bdy(P:aq)(w:aj)(K:ak)(mg:Str->Option aa)(base:Heap)(N:List Str)(qual:Str)(st:Stmt)(k:Nat)(t:TS):Prop:=∀(f:Addr) (cdv:aa) (A:ar) (outer:List Env) (s:ab) (H:Hp) (E:XK),pT k (A.deeper (envOfC qual (oH st) s.heap.objs.size f cdv))->PSs (ze P w K mg base N qual st f cdv A outer s H E) (oY st) t
abbrev Bds(x qual:Str)(st:Stmt)(ps:List Str):Prop:=FH ps.length λus=>∀(kV doc pm:aa) (an:Option Addr) (cdv ct:aa),bindArgs (fnOf x qual (qM st) (oY st) (oH st) .none kV doc pm an cdv ct) ⟨us,[]⟩=pure (ps.zip us)
theorem Bds.ok{f:Addr}{fd:bq}(b:Bds x qual st ps)(F:Fun K x qual st f fd):Binds K fd ps []:=F.binds λkV doc pm an cdv ct us hl=>z5 b us hl kV doc pm an cdv ct
theorem gD{sp:Sp}(y:Yw P w mg base G)(q:GD G.K x st)(bd:Bds x x st ps)(ok:∀f fd,Fun G.K x x st f fd->qZ P w G.K mg base CX0 k f fd ps sp):wx P w G.K mg base k x ps sp:=by obtain⟨f,fd,a,F⟩:=q;exact⟨f,fd,y.g a,F.kp,bd.ok F,ok f fd F⟩
theorem gF{n:Nat}{g:List D->Option D}{b:FS}(hg:g=fnD np n b)(y:Yw P w mg base G)(q:GD G.K x st)(S:pX N ps (oH st))(body:Bdy P w G.K mg base N x st k (tFS G b))(hp:ps.length=np:=by rfl)(hN:N.length=n:=by rfl)(bd:Bds x x st ps:=by (repeat intro _);rfl):wx P w G.K mg base (k+1) x ps (spF G g):=
 gD y q bd λf fd F=>JP hg hp hN F S (body f)
theorem gN'{n:Nat}{g:List D->Option (List D)}{b:FS}(hg:g=fnN np n b)(y:Yw P w mg base G)(q:GD G.K x st)(S:pX N ps (oH st))(body:Bdy P w G.K mg base N x st k (tFS G b))(hp:ps.length=np:=by rfl)(hN:N.length=n:=by rfl)(bd:Bds x x st ps:=by (repeat intro _);rfl):wx P w G.K mg base (k+1) x ps (spN G g):=
 gD y q bd λf fd F=>SK hg hp hN F S (body f)
theorem gM{n:Nat}{g:List D->List D->Option (D×List D)}{b:FS}{p:Str}(hg:g=fnM np n b)(y:Yw P w mg base G)(q:GD G.K x st)(S:pX N (p::ps) (oH st))(body:Bdy P w G.K mg base N x st k (tFS G b))(hp:ps.length=np:=by rfl)(hN:N.length=n:=by rfl)(bd:Bds x x st (p::ps):=by (repeat intro _);rfl):wx P w G.K mg base (k+1) x (p::ps) (spM G g):=
 gD y q bd λf fd F=>SL hg hp hN F S (body f)
theorem gI{n:Nat}{g:List D->Option (List Str×List D)}{b:FS}{xs:List Str}{p:Str}(hg:g=fnI c np n b)(y:Yw P w mg base G)(C:CF G.K (G.ca c) xs)(a:nsIn G.K aC x=some (some (.ref (G.ca c))))(q:GM G.K (G.ca c) "__init__" qual st)(S:pX N (p::ps) (oH st))(body:Bdy P w G.K mg base N qual st k (tFS G b))(hp:ps.length=np:=by rfl)(hN:N.length=n:=by rfl)(bd:Bds "__init__" qual st (p::ps):=by (repeat intro _);rfl):Dg G P w mg base (k+1) x c (p::ps) [] g:=by obtain⟨f,fd,i,i',F⟩:=q;exact⟨f,fd,[],⟨C.mks,i,i',C.kp⟩,y.g a,bd.ok F,.nil,SM hg hp hN F S (body f)⟩
theorem Er(h:Vals vs us):us.length=vs.length:=by
 induction h with
 |nil=>rfl
 |cons _ _ ih=>rw[aI,aI,ih]
theorem Ii(h:Vals vs us):∀j,Vals (vs.drop j) (us.drop j):=by
 induction h with
 |nil=>intro j;rw[lM,lM];exact .nil
 |cons a b ih=>
  intro j;cases j with
  |zero=>exact .cons a b
  |succ j=>exact ih j
theorem gJ{n:Nat}{g:List D->Option (List Str×List D)}{b:FS}{xs:List Str}{p:Str}(hg:g=fnI c np n b)(y:Yw P w mg base G)(C:CF G.K (G.ca c) xs)(a:nsIn G.K aC x=some (some (.ref (G.ca c))))(q:GJ G.K (G.ca c) qual st vs)(S:pX N (p::ps) (oH st))(body:Bdy P w G.K mg base N qual st k (tFS G b))(j:Nat)(hp:ps.length=np:=by rfl)(hN:N.length=n:=by rfl)
  (bd:FH vs.length λdl=>FH ((p::ps).length - (vs.drop j).length) λus=>∀(T:Addr) (kV doc pm:aa) (an:Option Addr) (cdv ct:aa),∃k,bindArgs (fnOf "__init__" qual (qM st) (oY st) (oH st) (.ref T) kV doc pm an cdv ct) ⟨us,[]⟩=seqItems? (.ref T)>>=k/\k (some dl.toArray)=pure ((p::ps).zip (us++dl.drop j)):=by (repeat intro _);exact⟨_,rfl,rfl⟩):Dg G P w mg base (k+1) x c (p::ps) (vs.drop j) g:=by
 obtain⟨f,fd,T,o,dl,n,i,i',F,l,e,r⟩:=q;refine⟨f,fd,dl.drop j,⟨C.mks,i,i',C.kp⟩,y.g a,F.binds l e λkV doc pm an cdv ct us hl=>?_,Ii r j,O8 hg hp hN F S (body f)⟩;exact z5 (z5 bd dl (Er r)) us (by rw[hl,fE,fE,Er r]) T kV doc pm an cdv ct
end
end L4
namespace L4
open PySem PySem.Spec PySem.Calls PyProof.Rows PySem.W L2 L3
structure Sto(c:Nat->Nat->Bool)(n:Nat):Prop where
 tr:∀i j k,i<n->j<n->k<n->c i j=true->c j k=true->c i k=true
 tot:∀i j,i<n->j<n->i≠j->c i j=false->c j i=true
section
variable{X:Cx}{G:Bg}{pins:List (Addr×Obj)}{σ:St}{H:Hp}{s:ab}
def Bw(K:ak)(H:Hp)(y:V)(k:List Str):Prop:=∃a p q,y=.ref a/\k=[p,q]/\SqT K H a [.str p,.str q]
theorem Kl(I:Inv X pins σ H s){y:V}{k:List Str}{u:aa}(h:Bw X.K H y k)(r:RelV y u):∃a p q t v,u=.ref a/\k=[p,q]/\eX s.heap a #[.str p t,.str q v]:=by
 obtain⟨a,p,q,rfl,rfl,h1⟩:=h;cases r;obtain⟨its,ri,ti,_⟩:=I.tuple h1;cases ri with
 |cons q1 q2=>
  obtain⟨t,rfl⟩:=q1;cases q2 with
  |cons q3 q4=>obtain⟨v,rfl⟩:=q3;cases q4;exact⟨a,p,q,t,v,rfl,rfl,ti⟩
end
variable{its:List aa}
section
variable{prog:aq}{w:aj}{A:ar}{s:ab}
def It2(h:Heap)(its:List aa)(ks:List (List Str)):Prop:=∀i,i<its.length->∃a p q t v,its.getD i Value.none=.ref a/\ks.getD i []=[p,q]/\eX h a #[.str p t,.str q v]/\its[i]?=some (.ref a)
theorem Ik{ks:List (List Str)}{C:fQ->ab->Prop}(item:It2 s.heap its ks)(h1:0<its.length)(hC:C (tuples' true) s):ae (model prog w) A (keyKind' its.toArray) C (λ_ _=>False) s:=by
 have tups:∀(l:List aa),(∀v∈l,∃i,i<its.length/\its[i]?=some v)->∃fs,KatTups s.heap l fs/\fs.length=l.length/\∀f∈fs,∃(x:Str) (t:Tok),f=.str x t:=λl=>by
  induction l with
  |nil=>exact λ_=>⟨[],KatTups.nil,rfl,λf hf=>by cases hf⟩
  |cons v l ih=>
   intro hv;obtain⟨fs,f1,f2,f3⟩:=ih λw hw=>hv w (.tail _ hw);obtain⟨i,hi,ei⟩:=hv v (.head _);obtain⟨a,p,q,t,w,_,_,⟨o,t1,t2,n,t3⟩,t5⟩:=item i hi;rw[ei]at t5;cases t5;refine⟨.str p t::fs,KatTups.cons t1 t2 t3 (by simp) f1,by rw[aI,aI,f2],λf hf=>?_⟩;rcases aF.mp hf with rfl|hf
   ·exact⟨p,t,rfl⟩
   ·exact f3 f hf
 obtain⟨fs,f1,f2,f3⟩:=tups its λv hv=>by obtain⟨i,hi,e⟩:=c5.mp hv;exact⟨i,hi,by rw[aJ hi,e]⟩
 refine kat_kind (T:=.type "str") f1 (by omega) (λv hv=>?_) (by decide) ?_
 ·obtain⟨x,t,rfl⟩:=f3 v hv;exact .now
 ·rw[show (Value.type "str" != Value.type "tuple")=true by decide];exact hC
theorem Km{ks:List (List Str)}{i j:Nat}{C:Bool->ab->Prop}(item:It2 s.heap its ks)(hij:i<its.length/\j<its.length)(hC:C (Dj (ks.getD i []) (ks.getD j [])) s):gV prog w A (tuples' true) its i j C s:=by
 obtain⟨a1,p1,q1,t1,v1,e1,k1,⟨o1,g1,c1,n1,d1⟩,_⟩:=item i hij.1;obtain⟨a2,p2,q2,t2,v2,e2,k2,⟨o2,g2,c2,n2,d2⟩,_⟩:=item j hij.2;unfold gV;rw[e1,e2];rw[k1,k2]at hC;refine kat_lt g1 d1 g2 d2 ?_;show KatLex _ _ _ _ _ _ [(Value.str p1 t1,Value.str p2 t2),(Value.str q1 v1,Value.str q2 v2)] 0 _;refine kat_cons (ig p1 t1 p2 t2 _ _ _ _ ?_);unfold Dj at hC;by_cases hpp:p1=p2
 ·subst hpp;rw[ah rfl]at hC;rw[beq_self_eq_true];refine kat_yes (kat_cons (ig q1 v1 q2 v2 _ _ _ _ ?_));unfold Dj at hC;by_cases hqq:q1=q2
  ·subst hqq;rw[ah rfl]at hC;rw[beq_self_eq_true];exact kat_yes (kat_nil hC)
  ·rw[ag hqq]at hC;rw[beq_false_of_ne hqq];exact kat_no (kat_one _ _ (nU hC))
 ·rw[ag hpp]at hC;rw[beq_false_of_ne hpp];exact kat_no (oneLt_str hC)
end
section
variable{X:Cx}{G:Bg}{pins:List (Addr×Obj)}{σ:St}{H:Hp}{s:ab}
theorem Dl(hu:X.A.units+64<cLine):pK X (.builtin "sorted") (λxs H Q=>∃(a:Addr) (ys:List V) (ks:List (List Str)),xs=[.ref a]/\SqL X.K H a ys/\0<ys.length/\ys.length<64/\ks.length=ys.length/\(∀(i:Nat) (y:V) (k:List Str),ys[i]?=some y->ks[i]?=some k->Bw X.K H y k)/\
  ∀p,H p=none->Q (.ref p) (upd H p (.lst ((Ih (λi j=>Dj (ks.getD i []) (ks.getD j [])) ys.length).map λi=>ys.getD i V.non)))):=by
 intro pins s σ H xs us Q I r h;obtain⟨a,ys,ks,rfl,hq,h1,h64,hkl,hp,q⟩:=h;obtain⟨u,rfl,ru⟩:=vals1 r;cases ru;obtain⟨its,ri,T,ob,nn,hT,b1,b2,b3⟩:=seq_val I (.inl hq);have hl:ys.length=its.length:=ri.length;have item:∀{h':Heap},(∀b o,s.heap.get? b=some o->h'.get? b=some o)->It2 h' its ks:=λ{h'} kk i hi=>by
  have I':Inv X pins σ H { s with heap:=h',toks:=s.toks }:=I.kept kk;have hy:i<ys.length:=by omega
  have hk:i<ks.length:=by omega
  obtain⟨u,e,ru⟩:=ri.get (aJ hy);obtain⟨a,p,q,t,v,rfl,ek,ti⟩:=Kl I' (hp i _ _ (aJ hy) (aJ hk)) ru;refine⟨a,p,q,t,v,?_,?_,ti,e⟩
  ·rw[cF,e];rfl
  ·rw[cF,aJ hk];exact ek
 refine FC (κ:=tuples' true) (c:=λi j=>Dj (ks.getD i []) (ks.getD j [])) hT b1 b2 b3 (by omega) (by omega) (λh' C kk hC=>Ik (s:={ s with heap:=h' }) (item kk) (by omega) hC) (λh' i j C kk hij hC=>Km (s:={ s with heap:=h' }) (item kk) hij hC) λg h' e k1 k2 ho=>?_
 ·have I1:Inv X pins σ H { s with heap:=g,toks:=s.toks }:=I.kept k1;refine⟨.ref g.objs.size,_,I1.laid (t':=s.toks) k2 (ay _) ?_,rfl,q _ (I1.hok.fresh (ay _))⟩;have hn:0<ys.length:=h1;refine⟨?_,yK _ its,e,?_,ho⟩
  ·rw[aw,(BZ _ hn).length_eq,b8,aZ];omega
  ·unfold yK;rw[<-hl];exact B2 ri _ λi hi=>Gy _ hn i hi
end
def Il:D->Option (List Str)
 |.tup [.str p,.str q]=>some [p,q]
 |_=>none
def sR:List D->Option (List (List Str))
 |[]=>some []
 |d::ds=>match Il d,sR ds with
  |some k,some ks=>some (k::ks)
  |_,_=>none
def FI(ds:List D):Option (List D):=match sR ds with
 |some ks=>if 0<ds.length/\ds.length<64 then some ((Ih (λi j=>Dj (ks.getD i []) (ks.getD j [])) ds.length).map λi=>ds.getD i .non)else none
 |none=>none
def Dm(f:FE):FA:=λρ=>match f ρ with
 |some (.lst ds,ρ')=>match FI ds with
  |some es=>some (es,ρ')
  |none=>none
 |_=>none
section
variable{X:Cx}{G:Bg}{H:Hp}
theorem Es{d:D}{v:V}{k:List Str}(r:Rep G H d v)(e:Il d=some k):Bw G.K H v k:=by
 unfold Il at e;split at e
 ·rename_i p q;cases e;unfold Rep at r;obtain⟨a,xs,rfl,h1,h2⟩:=r;unfold og at h2;obtain⟨v1,r1,rfl,q1,q2⟩:=h2;unfold og at q2;obtain⟨v2,r2,rfl,q3,q4⟩:=q2;unfold og at q4;unfold Rep at q1 q3;subst q4 q1 q3;exact⟨a,p,q,rfl,rfl,h1⟩
 ·cases e
theorem B4:∀{ds:List D} {ks:List (List Str)},sR ds=some ks->ks.length=ds.length
 |[],ks,e=>by cases e;rfl
 |d::ds,ks,e=>by
  unfold sR at e;cases e1:Il d with
  |none=>rw[e1]at e;cases e
  |some k=>
   cases e2:sR ds with
   |none=>rw[e1,e2]at e;cases e
   |some ks'=>rw[e1,e2]at e;cases e;rw[aI,aI,B4 e2]
theorem B5:∀{ds:List D} {ks:List (List Str)} {xs:List V},og G H ds xs->sR ds=some ks->∀(i:Nat) (y:V) (k:List Str),xs[i]?=some y->ks[i]?=some k->Bw G.K H y k
 |[],ks,xs,r,e,i,y,k,h1,h2=>by cases e;cases h2
 |d::ds,ks,xs,r,e,i,y,k,h1,h2=>by
  unfold sR at e;cases e1:Il d with
  |none=>rw[e1]at e;cases e
  |some k'=>
   cases e2:sR ds with
   |none=>rw[e1,e2]at e;cases e
   |some ks'=>
    rw[e1,e2]at e;cases e;unfold og at r;obtain⟨v,r',rfl,q1,q2⟩:=r;cases i with
    |zero=>cases h1;cases h2;exact Es q1 e1
    |succ i=>exact B5 q2 e2 i y k h1 h2
theorem Bw.mono{K:ak}{H0 H1:Hp}{y:V}{k:List Str}(s:oA H0 H1)(h:Bw K H0 y k):Bw K H1 y k:=by obtain⟨a,p,q,e1,e2,h1⟩:=h;exact⟨a,p,q,e1,e2,SqT.mono s h1⟩
theorem Et{e:Expr}{f:FE}(h:PE X e (tCB (λxs H Q=>∃(a:Addr) (ys:List V) (ks:List (List Str)),xs=[.ref a]/\SqL G.K H a ys/\0<ys.length/\ys.length<64/\ks.length=ys.length/\(∀(i:Nat) (y:V) (k:List Str),ys[i]?=some y->ks[i]?=some k->Bw G.K H y k)/\
  ∀p,H p=none->Q (.ref p) (upd H p (.lst ((Ih (λi j=>Dj (ks.getD i []) (ks.getD j [])) ys.length).map λi=>ys.getD i V.non)))) (tFA G (aCons f oT)))):PE X e (tFN G (Dm f)):=PE.weak h λσ H Q hh=>by
 obtain⟨F,ρ,H0,es,ρ',R,e,k⟩:=hh;unfold Dm at e;split at e
 ·rename_i ds ρ1 e1;cases e2:FI ds with
  |none=>simp only[e2]at e;cases e
  |some es'=>
   simp only[e2]at e;cases e;unfold FI at e2;cases e3:sR ds with
   |none=>simp only[e3]at e2;cases e2
   |some ks=>
    simp only[e3]at e2;split at e2
    ·rename_i hh;obtain⟨hn,h64⟩:=hh;cases e2;refine⟨F,ρ,H0,[.lst ds],_,R,by unfold aCons;rw[e1];rfl,λys H1 H1' s R' rs=>?_⟩;unfold og at rs;obtain⟨v,r0,rfl,rv,rn⟩:=rs;unfold og at rn;subst rn;unfold Rep at rv;obtain⟨a,xs,rfl,h1,h2⟩:=rv;have hl:=oj h2;refine⟨a,xs,ks,rfl,SqL.of (R'.sub _ _ h1),by omega,by omega,by rw[B4 e3,hl],λi y kk q1 q2=>Bw.mono R'.sub (B5 h2 e3 i y kk q1 q2),λp hp=>?_⟩;refine k p _ _ _ s (R'.newOwn hp _) ox (R'.h0none hp) (R'.bNone hp) (R'.apart hp) ?_;rw[<-hl];exact B3 h2 _ λi hi=>Gy _ hn i hi
    ·cases e2
 ·cases e
theorem Bx(hu:X.A.units+64<cLine)(hK:X.K=G.K:=by rfl):pK X (.builtin "sorted") (λxs H Q=>∃(a:Addr) (ys:List V) (ks:List (List Str)),xs=[.ref a]/\SqL G.K H a ys/\0<ys.length/\ys.length<64/\ks.length=ys.length/\(∀(i:Nat) (y:V) (k:List Str),ys[i]?=some y->ks[i]?=some k->Bw G.K H y k)/\
  ∀p,H p=none->Q (.ref p) (upd H p (.lst ((Ih (λi j=>Dj (ks.getD i []) (ks.getD j [])) ys.length).map λi=>ys.getD i V.non)))):=by rw[<-hK];exact Dl hu
end
end L4
namespace L4
open PySem PySem.Spec PyProof.Rows L2 L3
structure Bz where
 P:aq
 w:aj
 mg:Str->Option aa
 base:Heap
 G:Bg
structure ZE(X:Cx)(B:Bz)(e:Expr)(f:FE):Prop where p:PE X e (tF B.G f)
structure ZN(X:Cx)(B:Bz)(e:Expr)(f:FA):Prop where p:PE X e (tFN B.G f)
structure ZT(X:Cx)(B:Bz)(e:Expr)(f:FT):Prop where p:PT X e (tFT B.G f)
structure ZW(X:Cx)(B:Bz)(e:Expr)(f:FT):Prop where p:PW X e (tFT B.G f)
structure ZF(X:Cx)(B:Bz)(e:List Expr)(f:FT):Prop where p:PIf X e (tFT B.G f)
structure ZA(X:Cx)(B:Bz)(e:List Expr)(f:FA):Prop where p:PA X e (tFA B.G f)
structure ZS(X:Cx)(B:Bz)(e:Stmt)(f:FS):Prop where p:PS X e (tFS B.G f)
structure ZB(X:Cx)(B:Bz)(e:List Stmt)(f:FS):Prop where p:PSs X e (tFS B.G f)
structure ZI(X:Cx)(B:Bz)(tg e:Expr)(f:FA):Prop where p:PI X tg e (tFI B.G f)
structure ZO(X:Cx)(B:Bz)(e:Option Expr)(f:FO):Prop where p:PO X e (tFO B.G f)
structure ZG(X:Cx)(B:Bz)(e:Expr)(n:Nat)(f:FG):Prop where p:PG X e (tFG B.G n f)
structure ZH(X:Cx)(B:Bz)(e:List Expr)(n:Nat)(f:List D->List Sl->Option (List Sl)):Prop where p:PGs X e (Jp B.G n f)
structure ZK(X:Cx)(e:Option Expr)(i:Option Int):Prop where p:PO X e (tO i)
structure ZV(X:Cx)(e:Expr)(i:Nat):Prop where p:PE X e (vm i)
abbrev Gz(X:Cx)(x:Str):Prop:=X.env.kindOf x=some .globalImplicit
abbrev Dz(x:Str):Prop:=(x==("__debug__" : Str))=false
abbrev Nz(x:Str):Prop:=(decide (x≠"__name__")&&!(x==("__debug__" : Str)))=true
abbrev Sz(X:Cx)(e:Expr)(es:List Expr):Prop:=au (e::es) X.env=(false,eval e X.env)::au es X.env
abbrev S1(X:Cx)(e:Expr):Prop:=au [e] X.env=[(false,eval e X.env)]
abbrev Lz(X:Cx)(pos:Pos)(es:List Expr):Prop:=(aT pos (au es X.env)).any (·.1)=false
abbrev Wz(X:Cx)(e o:Expr)(pos:Pos):Prop:=cz e (some o) pos.line X.env=pure false
abbrev Az(X:Cx)(o:Expr)(m:Str):Prop:=c9 o m X.env (eval o X.env)=eval o X.env
abbrev Ez(p pos:Pos):Prop:=(p.endLine==pos.line)=true
abbrev Iz(e:Expr):Prop:=(λo i=>subscripted e false o i)=λo i=>operate [o,i] (getItem o i)
abbrev Fz(X:Cx)(e:Expr):Prop:=(λx=>fA e X.env x)=λx=>pure x
class Cz(X:Cx)(B:outParam Bz)(k:outParam Nat):Prop where
 P:X.prog=B.P
 w:X.w=B.w
 K:X.K=B.G.K
 mg:X.mg=B.mg
 b:X.base=B.base
 c:X.calm=true
 r:pT k X.A
class Yb(B:Bz):Prop where y:Yw B.P B.w B.mg B.base B.G
class Df(B:Bz)(j:outParam Nat)(x:Str)(sp:Sp):Prop where p:∃ps,wx B.P B.w B.G.K B.mg B.base j x ps sp
class Kf(B:Bz)(j:outParam Nat)(x:Str)(c:Nat)(g:List D->Option (List Str×List D))(dds:List D):Prop where
 p:∃ps,Dg B.G B.P B.w B.mg B.base j x c ps (dds.map vD) g
 f:dds.all qG=true
class Mf(B:Bz)(j:outParam Nat)(m:Str)(g:Nat->Option (List D->Option D)):Prop where p:∀c h,g c=some h->ur B.G B.P B.w B.mg B.base j m c h
class Ff(B:Bz)(ok:Nat->Bool)(f:Str):Prop where p:∀c,ok c=true->Cls B.G.K (B.G.ca c)/\sh B.G.K (B.G.ca c) f
class Af(B:Bz)(c:Nat)(xs:outParam (List Str)):Prop where p:CF B.G.K (B.G.ca c) xs
class Nb(B:Bz)(x:Str):Prop where p:B.mg x=none
class Co(B:Bz)(x:Str)(d:D):Prop where p:sP B.G B.mg x d
class Ic(B:Bz)(x:Str)(t:Ty->Option Bool):Prop where p:∃c,AE B.G c t/\B.mg x=some (.ref (B.G.ca c))
class Ij(B:Bz)(n:Nat):Prop where p:∀j k,j<n->k<n->B.G.ca j=B.G.ca k->j=k
class OpC(op:gQ)(g:D->D->Option D):Prop where p:∀(X:Cx) (G:Bg),∃r,OpR X (bP op) r/\OpD G r g
instance in1:OpC .Mod rp:=⟨λ_ _=>⟨_,Of,OT⟩⟩
instance in2:OpC .FloorDiv wu:=⟨λ_ _=>⟨_,Lh,OU⟩⟩
instance in3:OpC .Mult tU:=⟨λ_ _=>⟨_,Oe,OS⟩⟩
instance in4:OpC .Sub D9:=⟨λ_ _=>⟨_,Od,OR⟩⟩
instance in5:OpC .Pow JB:=⟨λ_ _=>⟨_,Og,OV⟩⟩
instance in6:OpC .Add rQ:=⟨λ_ _=>⟨_,Ob,OQ⟩⟩
instance in7:OpC .Add xB:=⟨λ_ _=>⟨_,EX,Mj⟩⟩
class CmC(op:dU)(g:D->D->Option D):Prop where p:∀(X:Cx) (G:Bg),X.K=G.K->X.A.units+64<cLine->∃r,OpR X (aO op) r/\OpD G r g
instance in9:CmC .Eq (dEq false):=⟨λ_ _ h u=>⟨_,O0 u h,SE⟩⟩
instance in10:CmC .NotEq (dEq true):=⟨λ_ _ h u=>⟨_,O1 u h,SF⟩⟩
instance in11:CmC .In (dIn false):=⟨λ_ _ h _=>⟨_,O2 h,Nk⟩⟩
instance in12:CmC .NotIn (dIn true):=⟨λ_ _ h _=>⟨_,HL h,Nk⟩⟩
instance in13:CmC .Is tV:=⟨λ_ _ _ _=>⟨_,Oh,OX⟩⟩
instance in14:CmC .IsNot qP:=⟨λ_ _ _ _=>⟨_,Li,Ml⟩⟩
instance in16:CmC .Lt JC:=⟨λ_ _ _ _=>⟨_,RV,SA⟩⟩
instance in17:CmC .LtE uo:=⟨λ_ _ _ _=>⟨_,RW,SB⟩⟩
instance in18:CmC .Gt JD:=⟨λ_ _ _ _=>⟨_,RX,SC⟩⟩
instance in19:CmC .GtE OP:=⟨λ_ _ _ _=>⟨_,RY,SD⟩⟩
instance in20:CmC .LtE JE:=⟨λ_ _ _ _=>⟨_,HA,OW⟩⟩
class B1(x:Str)(g:D->Option D):Prop where p:∀(X:Cx) (G:Bg),X.K=G.K->X.calm=true->∃(id:String) (r:List V->Hp->VK->Prop),pK X (.builtin id) r/\Av G r g/\cv x=some (.builtin id)
instance in21:B1 "len" uq:=⟨λ_ _ h _=>⟨_,_,HN h,O3,lq⟩⟩
instance in22:B1 "all" rJ:=⟨λ_ _ h c=>⟨_,_,HP c h,O5,boot_all⟩⟩
instance in23:B1 "any" HW:=⟨λ_ _ h c=>⟨_,_,HX c h,O9,boot_any⟩⟩
class KtC(x:Str)(T:outParam String):Prop where p:(∀(X:Cx) (G:Bg) y b,pI T y=some b->bW X.K (y.val G) (.type T)=some b)/\cv x=some (.type T)
instance in24:KtC "str" "str" := ⟨λ_ _=>Mu,Pv.boot_str⟩
instance in25:KtC "int" "int" := ⟨λ_ _=>MJ,ml⟩
instance in26:KtC "bool" "bool" := ⟨λ_ _=>Kg,Pv.boot_bool⟩
instance in27:KtC "list" "list" := ⟨λ_ _=>JS,lZ⟩
instance in28:KtC "tuple" "tuple" := ⟨λ_ _=>kit_tuple,lN⟩
theorem Nq{G:Bg}{H:Hp}:∀{dds:List D},dds.all qG=true->og G H dds (dds.map vD)
 |[],_=>oV
 |d::ds,h=>by rw[dc,aE]at h;exact oZ (xA h.1 H) (Nq h.2)
theorem eqI{α:Sort u}{a b:α}(h:a=b):a=b:=h
def sees(X:Cx)(i:Nat)(x:Str):Bool:=decide (X.N[i]?=some x)&&(match X.env.scope.names.lookup x with|some .local=>true|some .cell=>true|some .free=>true|_=>false)&&!(x==("__debug__" : Str))&&!(x==("__classdict__" : Str))
def sets(X:Cx)(i:Nat)(x:Str):Bool:=decide X.N.Nodup&&decide (X.N[i]?=some x)&&(match X.env.scope.names.lookup x with|some .local=>true|some .cell=>X.fn x|_=>false)
variable{ft fu:FT}{pl:Sem Bool}{id T:String}{r:List V->Hp->VK->Prop}{lo:Option Expr}{y:Int}{body:List Stmt}
section
variable{X:Cx}{B:Bz}{k j i n c0:Nat}{x m:Str}{e e' o tg it:Expr}{es:List Expr}{p p2 p3 pos apos:Pos}{f f' f2:FE}{a:FA}{g:D->D->Option D}
theorem pvI(h:sees X i x=true):PE X (.Name x p) (vm i):=by
 unfold sees at h;simp only[aE,aX,gq]at h;obtain⟨⟨⟨h1,h2⟩,h3⟩,h4⟩:=h;refine pv i h1 ?_ h3 h4;unfold Vis;split at h2
 ·rename_i e;exact .inl e
 ·rename_i e;exact .inr (.inl e)
 ·rename_i e;exact .inr (.inr e)
 ·cases h2
theorem SW(h:sees X i x=true):ZE X B (.Name x p) (cV i):=⟨E9 (pvI h)⟩
theorem Pm(h:sees X i x=true):ZE X B (.Name x p) (cFz i):=⟨Sx (pvI h)⟩
theorem ML(h:sees X i x=true):ZN X B (.Name x p) (Jx i):=⟨Mc (pvI h)⟩
theorem Dn(h:sets X i x=true):X.N.Nodup/\X.N[i]?=some x/\L2.Loc X.env.scope x/\(X.fn x=true\/X.env.scope.names.lookup x=some .local):=by
 unfold sets at h;simp only[aE,aX]at h;obtain⟨⟨h1,h2⟩,h3⟩:=h;unfold L2.Loc;split at h3
 ·rename_i e;exact⟨h1,h2,.inl e,.inr e⟩
 ·rename_i e;exact⟨h1,h2,.inr e,.inl h3⟩
 ·cases h3
theorem pgI(h:sets X i x=true):PG X (.Name x p) (tN i):=by obtain⟨h1,h2,h3,h4⟩:=Dn h;exact FZ h1 h2 h3 h4
theorem Pn(h:sets X i x=true)(hi:Nat.blt i n=true):ZG X B (.Name x p) n (gN i):=⟨Jq n (pgI h) (Nat.blt_eq.mp hi)⟩
theorem stW{te:TE}(h:sets X i x=true)(he:PE X e te)(hs:Wz X e (.Name x p) pos):PS X (.Assign [.Name x p] e pos) (xp te (tN i)):=by obtain⟨h1,h2,h3,h4⟩:=Dn h;exact N5 h1 h2 h3 he hs h4
theorem Po(h:sets X i x=true)(he:ZE X B e f)(hs:Wz X e (.Name x p) pos):ZS X B (.Assign [.Name x p] e pos) (oP i f):=⟨Gd (stW h he.p hs)⟩
theorem Pp(h:sets X i x=true)(he:ZN X B e a)(hs:Wz X e (.Name x p) pos):ZS X B (.Assign [.Name x p] e pos) (uQ i a):=⟨Js (stW h he.p hs)⟩
theorem Pq(h:sets X i x=true)(hs:Wz X (.Dict [] [] p2) (.Name x p) pos):ZS X B (.Assign [.Name x p] (.Dict [] [] p2) pos) (AC i):=⟨JW (stW h DP hs)⟩
theorem Pr{op:gQ}[O:OpC op g](ha:ZE X B e f)(hb:ZE X B e' f'):ZE X B (.BinOp e op e' pos) (c2 g f f'):=by obtain⟨r,h1,h2⟩:=O.p X B.G;exact⟨Sn h1 h2 ha.p hb.p⟩
theorem Pt [C:Cz X B k](ha:ZE X B e f)(hb:ZE X B e' f')(hs:Iz e'):ZE X B (.Subscript e e' pos) (c2 dIx f f'):=⟨So (Ua C.K) SG ha.p hb.p λo i=>congrFun (congrFun hs o) i⟩
theorem Pu [C:Cz X B k](ha:ZE X B e f)(hb:ZE X B e' f')(hs:Iz e'):ZE X B (.Subscript e e' pos) (c2 BV f f'):=⟨Mz (DQ C.r) ha.p hb.p λo i=>congrFun (congrFun hs o) i⟩
section
variable{op op':dU}{g':D->D->Option D}
theorem Pw [O:CmC op g][C:Cz X B k](ha:ZE X B e f)(hb:ZE X B e' f')(hm:dJ op e'=false):ZE X B (.Compare e [op] [e'] pos) (c2 g f f'):=by obtain⟨r,h1,h2⟩:=O.p X B.G C.K C.r.units;exact⟨OF h1 h2 ha.p hb.p hm⟩
theorem Px [O:CmC op g][C:Cz X B k](ha:ZE X B e f)(hb:ZE X B e' f')(hm:dJ op e'=false):ZT X B (.Compare e [op] [e'] pos) (cT (c2 g f f')):=by obtain⟨r,h1,h2⟩:=O.p X B.G C.K C.r.units;exact⟨LJ h1 h2 ha.p hb.p hm⟩
theorem Py [O:CmC op g][O':CmC op' g'][C:Cz X B k](ha:ZE X B e f)(hb:ZE X B e' f')(hc:ZE X B o f2)(hm:lastMarks [op,op'] [e',o]=false):ZE X B (.Compare e [op,op'] [e',o] pos) (q9 g g' f f' f2):=by obtain⟨r,h1,h2⟩:=O.p X B.G C.K C.r.units;obtain⟨r',h3,h4⟩:=O'.p X B.G C.K C.r.units;exact⟨JN h1 h3 h2 h4 ha.p hb.p hc.p hm⟩
theorem Pz [O:CmC op g][O':CmC op' g'][C:Cz X B k](ha:ZE X B e f)(hb:ZE X B e' f')(hc:ZE X B o f2)(hm:lastMarks [op,op'] [e',o]=false):ZT X B (.Compare e [op,op'] [e',o] pos) (cT (q9 g g' f f' f2)):=by obtain⟨r,h1,h2⟩:=O.p X B.G C.K C.r.units;obtain⟨r',h3,h4⟩:=O'.p X B.G C.K C.r.units;exact⟨HS h1 h3 h2 h4 ha.p hb.p hc.p hm⟩
end
theorem PB(h:ZE X B e f)(he:(λwhole=>isTrue e X.env whole)=λwhole=>(do let v<-whole;standAt e.pos;holding [v] (truthy v))):ZT X B e (cT f):=⟨LK h.p λw=>congrFun he w⟩
theorem PD(ha:ZT X B e ft)(hb:ZW X B (.BoolOp .Or (e'::es) pos) fu):ZT X B (.BoolOp .Or (e::e'::es) pos) (rH ft fu):=⟨PW.pt (Jk ha.p hb.p)⟩
theorem PF(ha:ZT X B e ft)(hb:ZW X B (.BoolOp .And (e'::es) pos) fu):ZT X B (.BoolOp .And (e::e'::es) pos) (sM ft fu):=⟨PW.pt (LN ha.p hb.p)⟩
theorem PH{d:D}[C:Cz X B k][Q:Co B x d](hg:Gz X x)(hd:Dz x):ZE X B (.Name x pos) (cC d):=⟨JQ (C.mg▸Q.p) hg hd⟩
theorem PJ{ok:Nat->Bool}[C:Cz X B k][Q:Ff B ok m](he:ZE X B e f)(hb:Az X e m):ZE X B (.Attribute e m pos) (c1 (ou ok m) f):=⟨Ju he.p (C.K▸Q.p) hb⟩
section
variable(hg:Gz X x)(hd:Dz x)(hs:Sz X e es)(hl:Lz X pos es)
include hg hd
theorem dz{sp:Sp}[C:Cz X B k][Q:Df B j x sp]:∃ps,wx X.prog X.w X.K X.mg X.base j x ps sp:=by rw[C.P,C.w,C.K,C.mg,C.b];exact Q.p
theorem PK{g:List D->Option (List D)}[C:Cz X B k][Q:Df B j x (spN B.G g)](hj:dr j k=true):ZN X B (.Call (.Name x p) [] [] pos) (pF g oT):=by obtain⟨ps,q⟩:=dz hg hd (X:=X) (Q:=Q);exact⟨JO q (C.r.mono (dh.mp hj)) hg hd⟩
include hs hl
theorem PL{g:List D->Option D}[C:Cz X B k][Q:Df B j x (spF B.G g)](ha:ZA X B (e::es) a)(hj:dr j k=true):ZE X B (.Call (.Name x p) (e::es) [] pos) (oa g a):=by obtain⟨ps,q⟩:=dz hg hd (X:=X) (Q:=Q);exact⟨O7 q (C.r.mono (dh.mp hj)) ha.p hg hd hs hl⟩
theorem PM{g:List D->Option (List D)}[C:Cz X B k][Q:Df B j x (spN B.G g)](ha:ZA X B (e::es) a)(hj:dr j k=true):ZN X B (.Call (.Name x p) (e::es) [] pos) (pF g a):=by obtain⟨ps,q⟩:=dz hg hd (X:=X) (Q:=Q);exact⟨Mq q (C.r.mono (dh.mp hj)) ha.p hg hd hs hl⟩
theorem PN{g:List D->List D->Option (D×List D)}[C:Cz X B k][Q:Df B j x (spM B.G g)](hv:ZV X e i)(ha:ZA X B es a)(hj:dr j k=true):ZE X B (.Call (.Name x p) (e::es) [] pos) (pL g i a):=by obtain⟨ps,q⟩:=dz hg hd (X:=X) (Q:=Q);exact⟨Mr q (C.r.mono (dh.mp hj)) hv.p ha.p hg hd hs hl⟩
theorem PQ{g:List D->Option (List Str×List D)}{dds:List D}[C:Cz X B k][Q:Kf B j x c0 g dds](ha:ZA X B (e::es) a)(hj:dr (j+1) k=true):ZE X B (.Call (.Name x p) (e::es) [] pos) (oG c0 (λds=>g (ds++dds)) a):=by obtain⟨ps,q⟩:=Q.p;exact⟨Ms (by rw[C.P,C.w,C.mg,C.b];exact q) (λH=>Nq Q.f) (C.r.mono (dh.mp hj)) ha.p C.K hg hd hs hl⟩
end
theorem mz{g:Nat->Option (List D->Option D)}[C:Cz X B k][Q:Mf B j m g]:∀c h,g c=some h->ur B.G X.prog X.w X.mg X.base j m c h:=by rw[C.P,C.w,C.mg,C.b];exact Q.p
theorem PR{g:Nat->Option (List D->Option D)}[C:Cz X B k][Q:Mf B j m g](ho:ZE X B o f)(hj:dr j k=true)
  (ht:eval (.Call (.Attribute o m apos) [] [] pos) X.env=(do
   let ov<-eval o X.env
   standAt apos.atName
   let (f,first)<-holding [ov] (getMethod ov m pl)
   callWith pos f first (aT pos (au [] X.env)) (backToKw pos (cy [] X.env)))):ZE X B (.Call (.Attribute o m apos) [] [] pos) (oU g m f oT):=⟨Fh mz (C.r.mono (dh.mp hj)) ho.p C.K ht⟩
theorem PU{g:Nat->Option (List D->Option D)}[C:Cz X B k][Q:Mf B j m g](ho:ZE X B o f)(ha:ZA X B (e::es) a)(hj:dr j k=true)(hs:Sz X e es)(hl:Lz X pos es)
  (ht:eval (.Call (.Attribute o m apos) (e::es) [] pos) X.env=(do
   let ov<-eval o X.env
   standAt apos.atName
   let (f,first)<-holding [ov] (getMethod ov m pl)
   callWith pos f first (aT pos (au (e::es) X.env)) (backToKw pos (cy [] X.env)))):ZE X B (.Call (.Attribute o m apos) (e::es) [] pos) (oU g m f a):=⟨HU mz (C.r.mono (dh.mp hj)) ho.p ha.p C.K hs hl ht⟩
section
variable(hg:Gz X x)(hd:Nz x)(hs:S1 X e)
include hg hd hs
theorem cbI{t:TA}[C:Cz X B k][N:Nb B x](hc:pK X (.builtin id) r)(hv:cv x=some (.builtin id))(ha:PA X [e] t):PE X (.Call (.Name x p) [e] [] pos) (tCB r t):=by simp only[aE,aX,gq]at hd;exact tQ hc hg (C.mg▸N.p) hv ha hd.1 hd.2 hs rfl
theorem ctI{t:TA}[C:Cz X B k][N:Nb B x](hc:pK X (.type T) r)(hv:cv x=some (.type T))(ha:PA X [e] t):PE X (.Call (.Name x p) [e] [] pos) (tCB r t):=by simp only[aE,aX,gq]at hd;exact Hn hc hg (C.mg▸N.p) hv ha hd.1 hd.2 hs rfl
theorem PV{g:D->Option D}[Q:B1 x g][C:Cz X B k][N:Nb B x](ha:ZE X B e f):ZE X B (.Call (.Name x p) [e] [] pos) (c1 g f):=by obtain⟨id,r,h1,h2,h3⟩:=Q.p X B.G C.K C.c;exact⟨JH h2 (cbI hg hd hs h1 h3 (pG ha.p ql hs))⟩
end
section
variable(hs:S1 X e)
include hs
theorem PX [C:Cz X B k][N:Nb B "list"](hg:Gz X "list")(ha:ZE X B e f):ZN X B (.Call (.Name "list" p) [e] [] pos) (sO f):=⟨JK (ctI hg (by decide) hs (Fg C.K) lZ (pG ha.p ql hs))⟩
theorem PY [C:Cz X B k][N:Nb B "tuple"](hg:Gz X "tuple")(ha:ZE X B e f):ZE X B (.Call (.Name "tuple" p) [e] [] pos) (Ax f):=⟨JL (ctI hg (by decide) hs (HQ C.K) lN (pG ha.p ql hs))⟩
theorem PZ [C:Cz X B k][N:Nb B "sorted"](hg:Gz X "sorted")(ha:ZE X B e f):ZN X B (.Call (.Name "sorted" p) [e] [] pos) (Dm f):=⟨Et (cbI hg (by decide) hs (Bx C.r.units C.K) boot_sorted (pG ha.p ql hs))⟩
theorem P0 [C:Cz X B k][N:Nb B "range"](hg:Gz X "range")(ha:ZE X B e f):ZI X B tg (.Call (.Name "range" p) [e] [] pos) (iR1 f):=⟨Fd (G8 hg (C.mg▸N.p) (pG ha.p ql hs) hs)⟩
end
section
variable(hi:Gz X "isinstance")(hg:Gz X x)(hs:au [e,.Name x p2] X.env=[(false,eval e X.env),(false,eval (.Name x p2) X.env)])(hs':S1 X (.Name x p2))
include hi hg hs hs'
theorem P1 [Q:KtC x T][C:Cz X B k][N:Nb B "isinstance"][N':Nb B x](ha:ZE X B e f)(hd:Nz x):ZE X B (.Call (.Name "isinstance" p) [e,.Name x p2] [] pos) (c1 (pj (pI T)) f):=by
 simp only[aE,aX,gq]at hd;refine⟨Gk (c:=.b T) (tQ (BU (.b T) (Q.p.1 X B.G) JR C.K) hi (C.mg▸N.p) iM (pW ha.p (pW (La (v:=.ty T) hg (C.mg▸N'.p) Q.p.2 rfl hd.1 hd.2) sj ?_) ?_) (by decide) (by decide) ?_ ?_)⟩
 ·exact hs'
 ·rw[hs,hs']
 ·rw[hs,hs']
 ·rw[hs'];rfl
theorem P2{t:Ty->Option Bool}[Q:Ic B x t][C:Cz X B k][N:Nb B "isinstance"](ha:ZE X B e f)(hd:Dz x):ZE X B (.Call (.Name "isinstance" p) [e,.Name x p2] [] pos) (c1 (pj t) f):=by
 obtain⟨c,q1,q2⟩:=Q.p;refine⟨Gk (c:=.c c) (tQ (Fp q1 C.K) hi (C.mg▸N.p) iM (pW ha.p (pW (zV (v:=.ref (B.G.ca c)) hg (C.mg▸q2) rfl hd) sj ?_) ?_) (by decide) (by decide) ?_ ?_)⟩
 ·exact hs'
 ·rw[hs,hs']
 ·rw[hs,hs']
 ·rw[hs'];rfl
end
section
variable(hb:Az X o m)(hl:Ez apos pos)(hs:S1 X e)
include hb hl hs
theorem bmI{r:V->List V->Hp->VK->Prop}{to:TE}{t:TA}[C:Cz X B k](pa:jn T)(slot:Slot T m id)(hty:typeOf (.builtin id)=pure (.type "method_descriptor"))(hm:MtR X id r)(ho:PE X o to)(ha:PA X [e] t):PE X (.Call (.Attribute o m apos) [e] [] pos) (tBM B.G.K T r to t):=
 Jh B.G.K pa slot hty hm ho ha hb (by rw[hs];rfl) hl hs rfl C.K
end
section
variable(h:sees X i x=true)(hb:Az X (.Name x p) m)(hl:Ez apos pos)(hs:S1 X e)
include h hb hl hs
theorem P3 [C:Cz X B k](hm:m="append")(ha:ZE X B e f):ZE X B (.Call (.Attribute (.Name x p) m apos) [e] [] pos) (xx i f):=by subst hm;exact⟨HI (bmI hb hl hs gr ik kj yB (pvI h) (pG ha.p ql hs))⟩
theorem P4 [C:Cz X B k](hm:m="extend")(ha:ZE X B e f):ZE X B (.Call (.Attribute (.Name x p) m apos) [e] [] pos) (Ek i f):=by subst hm;exact⟨Fs (bmI hb hl hs gr gf kl (C.K▸Fq) (pvI h) (pW ha.p sj hs))⟩
end
theorem P5 [C:Cz X B k](ha:ZE X B e f)(hb:ZE X B e' f')(h1:Az X e "get")(h2:Ez apos pos)(h3:S1 X e'):ZE X B (.Call (.Attribute e "get" apos) [e'] [] pos) (c2 wz f f'):=⟨JV (DQ C.r) ha.p hb.p ⟨h1,by rw[h3];rfl,h2,by rw[h3];rfl⟩⟩
theorem P6{xs:List Str}[C:Cz X B k][Q:Af B c0 xs](hx:xs.contains m=true)(h:sees X i x=true)(hv:ZE X B e f)(hs:Wz X e (.Attribute (.Name x p) m apos) pos):ZS X B (.Assign [.Attribute (.Name x p) m apos] e pos) (o5 c0 i m f):=⟨Ma (Oj (pvI h) hv.p hs) (by obtain⟨i,_,e⟩:=ic (jN.mp hx);exact C.K▸Q.p.at i (bb.mpr ⟨_,e⟩))⟩
theorem P7 [C:Cz X B k](h:sees X i x=true)(hk:ZE X B e' f')(hv:ZE X B e f)(hs:Wz X e (.Subscript (.Name x p) e' apos) pos):ZS X B (.Assign [.Subscript (.Name x p) e' apos] e pos) (uw i f' f):=⟨JX (Ly (DQ C.r) (pvI h) hk.p hv.p hs)⟩
theorem P8{n:Nat}[Q:Ij B n](h:ZE X B e f):ZE X B e (wB n f):=⟨MH Q.p h.p⟩
theorem P9{hi:Option Expr}{fl fh:FO}[C:Cz X B k](he:ZE X B e f)(hl:ZO X B lo fl)(hh:ZO X B hi fh):ZN X B (.Subscript e (.Slice lo hi none p) pos) (Fn f fl fh):=⟨Fo (DL (SJ C.K) he.p hl.p hh.p)⟩
theorem Qa{hi:Option Expr}{l h:Option Int}[C:Cz X B k](he:ZE X B e f)(hl:ZK X lo l)(hh:ZK X hi h):ZN X B (.Subscript e (.Slice lo hi none p) pos) (cSl f l h):=⟨HR (DL (SJ C.K) he.p hl.p hh.p)⟩
theorem Qb:ZK X (some (.Constant (.int y) j pos)) (some y):=⟨JM⟩
theorem Qc:ZK X none none:=⟨SI⟩
theorem Qd [C:Cz X B k](h:ZE X B e f):ZI X B tg e (iL f):=⟨D6 (DU B.G.K h.p C.K)⟩
theorem Qe [C:Cz X B k](h:ZE X B e f):ZI X B tg e (iT f):=⟨Mh (LF B.G.K h.p C.K)⟩
theorem Qf(h:ZE X B e f):ZI X B tg e (iD f):=⟨J8 (MF h.p)⟩
theorem Qg(h:ZE X B e f):ZI X B tg e (iS f):=⟨MA (Oz h.p)⟩
section
variable{gg:FG}{gs:List D->List Sl->Option (List Sl)}
theorem MM:ZH X B [] n qw:=⟨LU Ld⟩
theorem MN(h1:ZG X B e n gg)(h2:ZH X B es n gs)(hs:(bJ (e::es) X.env).map (·.2)=assign e X.env::(bJ es X.env).map (·.2)):ZH X B (e::es) n (oR gg gs):=⟨Jr (IB h1.p h2.p hs)⟩
theorem MO{n' k':Nat}[C:Cz X B k](h:ZH X B es n gs)(hn:(bJ es X.env).length=n')(ht:(bJ es X.env).findIdx? (·.1)=none):ZG X B (.Tuple es k' pos) n (gT gs n'):=⟨LV (LG B.G.K C.c h.p hn ht C.K)⟩
end
def tgN:Expr->List Str
 |.Name x _=>[x]
 |.Tuple es _ _=>es.filterMap λe=>match e with|.Name x _=>some x|_=>none
 |_=>[]
def cpN(X:Cx)(tg:Expr)(cap:List Nat):List Str:=tgN tg++cap.map λj=>X.N.getD j ""
instance inCz [C:Cz X B k]{N':List Str}{sc:bQ}{cl:List (Str×Addr)}{A:Addr}{fp:List Addr}{s:ab}{H:Hp}:Cz (pO X N' sc cl A fp s H) B k:=⟨C.P,C.w,C.K,C.mg,C.b,C.c,C.r⟩
def Qh(X:Cx)(N':List Str)(sc:bQ)(n:Nat)(cap:List Nat):Bool:=decide cap.Nodup&&decide (sc.kind=.function)&&(sc.names.all λy=>y.2 != .cell)&&(sc.names.all λy=>y.2 != .local||sc.names.lookup y.1==some .local)&&(sc.names.all λy=>y.2 != .free||(X.env.kindOf y.1==some .cell||X.env.kindOf y.1==some .free))&&decide (N'.length=n+cap.length)&&decide ((N'.drop n).map some=cap.map λj=>X.N[j]?)&&((N'.drop n).all λx=>sc.names.lookup x==some .free)
section
variable{sc:bQ}{cap:List Nat}{ifs:List Expr}{gg:FG}{ft:FT}{s:FA}
 (h0:Qh X (cpN X tg cap) sc n cap=true) (hs:Fz X it) (hi:ZI X B tg it s)
 (h1:∀(cl:List (Str×Addr)) (A:Addr) (fp:List Addr) (s:ab) (H:Hp),ZG (pO X (cpN X tg cap) sc cl A fp s H) B tg n gg)
 (h2:∀(cl:List (Str×Addr)) (A:Addr) (fp:List Addr) (s:ab) (H:Hp),ZF (pO X (cpN X tg cap) sc cl A fp s H) B ifs ft)
 (h3:∀(cl:List (Str×Addr)) (A:Addr) (fp:List Addr) (s:ab) (H:Hp),ZE (pO X (cpN X tg cap) sc cl A fp s H) B e f)
include h0 hs hi h1 h2 h3
theorem Qi [C:Cz X B k]:ZN X B (.ListComp e [⟨tg,it,ifs,0⟩] sc pos) (oS n cap s gg ft f):=by unfold Qh at h0;simp only[aE,aX]at h0;obtain⟨⟨⟨⟨⟨⟨⟨a1,a2⟩,a3⟩,a4⟩,a5⟩,a6⟩,a7⟩,a8⟩:=h0;exact⟨Jz a1 (LD (N':=cpN X tg cap) C.c hi.p (λcl A fp s H=>⟨(h1 cl A fp s H).p,(h2 cl A fp s H).p,(h3 cl A fp s H).p⟩) a2 a3 a4 a5 a6 a7 a8 λx=>congrFun hs x)⟩
theorem cpW [C:Cz X B k](h:sets X i x=true)(hw:cz (.ListComp e [⟨tg,it,ifs,0⟩] sc pos) (some (.Name x p)) apos.line X.env=pure true):PS X (.Assign [.Name x p] (.ListComp e [⟨tg,it,ifs,0⟩] sc pos) apos) (xp (Ai (tFI B.G s) (tFG B.G n gg) (tFT B.G ft) (tF B.G f) n cap) (tN i))/\cap.Nodup:=by unfold Qh at h0;simp only[aE,aX]at h0;obtain⟨⟨⟨⟨⟨⟨⟨a1,a2⟩,a3⟩,a4⟩,a5⟩,a6⟩,a7⟩,a8⟩:=h0;obtain⟨b1,b2,b3,b4⟩:=Dn h;exact⟨Mv (N':=cpN X tg cap) C.c b1 b2 b3 hi.p (λcl A fp s H=>⟨(h1 cl A fp s H).p,(h2 cl A fp s H).p,(h3 cl A fp s H).p⟩) a2 a3 a4 a5 a6 a7 a8 (λx=>congrFun hs x) hw b4,a1⟩
theorem Qj [C:Cz X B k](h:sets X i x=true)(hw:cz (.ListComp e [⟨tg,it,ifs,0⟩] sc pos) (some (.Name x p)) apos.line X.env=pure true):ZS X B (.Assign [.Name x p] (.ListComp e [⟨tg,it,ifs,0⟩] sc pos) apos) (oP i (cL (oS n cap s gg ft f))):=by have z:=cpW (k:=k) h0 hs hi h1 h2 h3 h hw;exact⟨JT z.2 z.1⟩
end
section
variable{st:Stmt}{sts:List Stmt}{fs fs':FS}{ft:FT}{a':FA}{z1:Nat}
theorem SX(ha:ZE X B e f)(hr:ZA X B es a)(hs:Sz X e es):ZA X B (e::es) (aCons f a):=⟨pG ha.p hr.p hs⟩
theorem SY:ZA X B [] oT:=⟨ql⟩
theorem Qk(h:sees X i x=true):ZV X (.Name x p) i:=⟨pvI h⟩
theorem Ql(h:ZN X B e a):ZE X B e (cL a):=⟨OL h.p⟩
theorem SZ{y:Str}:ZE X B (.Constant (.str y) j pos) (cC (.str y)):=⟨OD⟩
theorem S0:ZE X B (.Constant (.int y) j pos) (cC (.int y)):=⟨OC⟩
theorem S4{y:Bool}:ZE X B (.Constant (.bool y) j pos) (cC (.bl y)):=⟨Sm⟩
theorem S5:ZE X B (.Constant .none j pos) (cC .non):=⟨OE⟩
theorem Eu(h1:ZS X B st fs)(h2:ZB X B sts fs'):ZB X B (st::sts) (oe fs fs'):=⟨Jm h1.p h2.p⟩
theorem S6(h1:ZS X B st fs):ZB X B [st] fs:=⟨LR h1.p⟩
theorem S7:ZB X B [] oI:=⟨LQ⟩
theorem Qm(h:ZE X B e f):ZS X B (.Return (some e) pos) (oo f):=⟨LS h.p⟩
theorem Qn(h:ZN X B e a):ZS X B (.Return (some e) pos) (qb a):=⟨Jn h.p⟩
theorem Qo(h:ZE X B e f)(hs:cz e none pos.line X.env=pure false):ZS X B (.Expr e pos) (o4 f):=⟨Jo h.p hs⟩
theorem Qp(h:ZT X B e ft)(h1:ZB X B sts fs){sts':List Stmt}(h2:ZB X B sts' fs'):ZS X B (.If e sts sts' pos) (sIf ft fs fs'):=⟨ON h.p h1.p h2.p⟩
theorem Qq:ZE X B e xb:=⟨JY⟩
theorem Qr(h:ZA X B es a):ZN X B (.List es pos) (oM a):=⟨LO h.p⟩
theorem Qs(h:ZA X B es a):ZE X B (.Tuple es z1 pos) (oQ a):=⟨OK h.p⟩
theorem Qt(ha:ZE X B e f)(hb:ZE X B e' f'):ZN X B (.BinOp e .Add e' pos) (qQ f f'):=⟨Mo ha.p hb.p⟩
theorem Qu [C:Cz X B k](ha:ZE X B e f)(hb:ZE X B e' f'):ZE X B (.BinOp e .Add e' pos) (Ei f f'):=⟨MB ha.p hb.p C.K⟩
theorem Qv(ha:ZE X B e f)(hb:ZE X B (.BoolOp .And (e'::es) pos) f'):ZE X B (.BoolOp .And (e::e'::es) pos) (ph f f'):=⟨OI ha.p hb.p⟩
theorem Qw(ha:ZE X B e f)(hb:ZE X B (.BoolOp .Or (e'::es) pos) f'):ZE X B (.BoolOp .Or (e::e'::es) pos) (cOr f f'):=⟨Sr ha.p hb.p⟩
theorem Qx{op}(ha:ZE X B e f):ZE X B (.BoolOp op [e] pos) f:=⟨OH ha.p⟩
theorem Qy(ha:ZE X B e f):ZE X B (.UnaryOp .Not e pos) (DX f):=⟨OJ ha.p⟩
theorem Qz(ha:ZT X B e ft):ZT X B (.UnaryOp .Not e pos) (pN ft):=⟨LL ha.p⟩
theorem QA(h:ZT X B o ft)(ha:ZE X B e f)(hb:ZE X B e' f'):ZE X B (.IfExp o e e' pos) (cIf ft f f'):=⟨Ss h.p ha.p hb.p⟩
theorem S8(h:ZT X B e ft):ZF X B [e] ft:=⟨LC h.p⟩
theorem S9:ZF X B [] pH:=⟨JA⟩
theorem QB(h:ZE X B e f):ZE X B e (xD f):=⟨O6 h.p⟩
theorem QC(h:ZT X B e ft):ZT X B e (Ay ft):=⟨Mp h.p⟩
theorem QD(h:ZE X B e f):ZO X B (some e) (oAt f):=⟨Pb h.p⟩
theorem QE:ZO X B none oNo:=⟨Pa⟩
theorem QF(ha:ZT X B e ft)(hb:ZW X B (.BoolOp .Or (e'::es) pos) fu):ZW X B (.BoolOp .Or (e::e'::es) pos) (rH ft fu):=⟨Jk ha.p hb.p⟩
theorem QG(h:ZT X B e ft):ZW X B (.BoolOp .Or [e] pos) ft:=⟨LM h.p⟩
theorem QH(h:ZT X B e ft):ZW X B (.BoolOp .And [e] pos) ft:=⟨Jj h.p⟩
end
theorem QI{s:FA}{gg:FG}{b:FS}[C:Cz X B k](hp:gO (model X.prog X.w) X.A X.env X.xe)(hn:X.N.length=n)(hi:ZI X B tg it s)(hg:ZG X B tg n gg)(hb:ZB X B body b)(hs:Fz X it):ZS X B (.For tg it body [] pos) (qd s gg b):=⟨Mi (IG hp C.c hi.p hg.p hb.p λx=>congrFun hs x)⟩
theorem QJ{b:FS}(hp:gO (model X.prog X.w) X.A X.env X.xe)(hc:ZT X B e ft)(hb:ZB X B body b):ZS X B (.While e body [] pos) (whL ft b n):=⟨HK n (IE hp hc.p hb.p)⟩
end
end L4
namespace L4
open PySem PySem.Spec PyProof.Rows L2 L3
open PySem.W (fnOf)
def nmO(st:Stmt):List Str:=(oH st).names.filterMap λy=>match y.2 with|.local=>some y.1|.cell=>some y.1|_=>none
def psO(st:Stmt):List Str:=(qM st).args.map (·.arg)
def okO(N ps:List Str)(st:Stmt)(np n:Nat):Bool:=decide ((oH st).kind=.function)&&(oH st).isCoroutine==false&&(oH st).isGenerator==false&&decide N.Nodup&&decide (N.take ps.length=ps)&&(ps.all λx=>match (oH st).names.lookup x with|some .local=>true|some .cell=>true|_=>false)&&((oH st).names.all λy=>y.2 != .free)&&decide (ps.length=np)&&decide (N.length=n)
theorem okk{N ps:List Str}{st:Stmt}{np n:Nat}(h:okO N ps st np n=true):pX N ps (oH st)/\ps.length=np/\N.length=n:=by
 unfold okO at h;simp only[aE,aX,beq_iff_eq]at h;obtain⟨⟨⟨⟨⟨⟨⟨⟨h1,h2⟩,h3⟩,h4⟩,h5⟩,h6⟩,h7⟩,h8⟩,h9⟩:=h;refine⟨⟨h1,h2,h3,h4,h5,λx hx=>?_,λy hy e=>?_⟩,h8,h9⟩
 ·have z:=aS.mp h6 x hx;split at z
  ·rename_i e;exact .inl e
  ·rename_i e;exact .inr e
  ·cases z
 ·have z:=aS.mp h7 y hy;rw[e]at z;exact ai z (by decide)
section
variable{B:Bz}[Y:Yb B]{x m qual:Str}{st s0:Stmt}{l:List Stmt}{k c np n:Nat}{b:FS}{p:Str}{ps xs:List Str}{N:List Str}
abbrev Bdz(B:Bz)(N:List Str)(qual:Str)(st:Stmt)(l:List Stmt)(k:Nat)(b:FS):Prop:=∀{f:Addr} {cdv:aa} {A:ar} {outer:List Env} {s:ab} {H:Hp} {E:XK} [Cz (ze B.P B.w B.G.K B.mg B.base N qual st f cdv A outer s H E) B k],ZB (ze B.P B.w B.G.K B.mg B.base N qual st f cdv A outer s H E) B l b
omit Y in
theorem Bdz.ok(h:Bdz B N qual st l k b)(hl:oY st=l):Bdy B.P B.w B.G.K B.mg B.base N qual st k (tFS B.G b):=λf cdv A outer s H E hr=>by subst hl;exact(@h f cdv A outer s H E ⟨rfl,rfl,rfl,rfl,rfl,rfl,hr⟩).p
theorem gF4{g:List D->Option D}(hg:g=fnD np n b)(q:GD B.G.K x st)(hl:oY st=s0::l)(body:Bdz B (nmO st) x st (s0::l) k b)(S:okO (nmO st) (psO st) st np n=true:=by kernel_rfl)(bd:Bds x x st (psO st):=by (repeat intro _);rfl):Df B (k+1) x (spF B.G g):=
 ⟨_,gF hg Y.y q (okk S).1 (body.ok hl) (okk S).2.1 (okk S).2.2 bd⟩
theorem gF5(N:List Str){g:List D->Option D}(hg:g=fnD np n b)(q:GD B.G.K x st)(hl:oY st=s0::l)(body:Bdz B N x st (s0::l) k b)(S:okO N (psO st) st np n=true:=by kernel_rfl)(bd:Bds x x st (psO st):=by (repeat intro _);rfl):Df B (k+1) x (spF B.G g):=
 ⟨_,gF hg Y.y q (okk S).1 (body.ok hl) (okk S).2.1 (okk S).2.2 bd⟩
theorem gN4{g:List D->Option (List D)}(hg:g=fnN np n b)(q:GD B.G.K x st)(hl:oY st=s0::l)(body:Bdz B (nmO st) x st (s0::l) k b)(S:okO (nmO st) (psO st) st np n=true:=by kernel_rfl)(bd:Bds x x st (psO st):=by (repeat intro _);rfl):Df B (k+1) x (spN B.G g):=
 ⟨_,gN' hg Y.y q (okk S).1 (body.ok hl) (okk S).2.1 (okk S).2.2 bd⟩
theorem gM4{g:List D->List D->Option (D×List D)}(hg:g=fnM np n b)(q:GD B.G.K x st)(hl:oY st=s0::l)(hp:psO st=p::ps)(body:Bdz B (nmO st) x st (s0::l) k b)(S:okO (nmO st) (p::ps) st (np+1) n=true:=by kernel_rfl)(bd:Bds x x st (p::ps):=by (repeat intro _);rfl):Df B (k+1) x (spM B.G g):=
 ⟨_,gM hg Y.y q (okk S).1 (body.ok hl) (fM (okk S).2.1) (okk S).2.2 bd⟩
theorem hF4{g:List D->Option D}(C:CF B.G.K (B.G.ca c) xs)(hg:g=fnD np n b)(q:GM B.G.K (B.G.ca c) m qual st)(hl:oY st=s0::l)(body:Bdz B (nmO st) qual st (s0::l) k b)(S:okO (nmO st) (psO st) st np n=true:=by kernel_rfl)(bd:Bds m qual st (psO st):=by (repeat intro _);rfl):ur B.G B.P B.w B.mg B.base (k+1) m c g:=by obtain⟨f,fd,a,i,F⟩:=q;exact⟨f,fd,_,C.ci.cl,⟨a,i,F.kp⟩,bd.ok F,JP hg (okk S).2.1 (okk S).2.2 F (okk S).1 (body.ok hl f)⟩
theorem gI4{g:List D->Option (List Str×List D)}(C:CF B.G.K (B.G.ca c) xs)(a:fV B.G.K aC x=some (some (.ref (B.G.ca c))))(hg:g=fnI c np n b)(q:GM B.G.K (B.G.ca c) "__init__" qual st)(hl:oY st=s0::l)(hp:psO st=p::ps)(body:Bdz B (nmO st) qual st (s0::l) k b)(S:okO (nmO st) (p::ps) st (np+1) n=true:=by kernel_rfl)(bd:Bds "__init__" qual st (p::ps):=by (repeat intro _);rfl):Kf B (k+1) x c g []:=
 ⟨⟨_,gI hg Y.y C a q (okk S).1 (body.ok hl) (fM (okk S).2.1) (okk S).2.2 bd⟩,rfl⟩
theorem gJ4{g:List D->Option (List Str×List D)}{dds:List D}(C:CF B.G.K (B.G.ca c) xs)(a:fV B.G.K aC x=some (some (.ref (B.G.ca c))))(hg:g=fnI c np n b)(q:GJ B.G.K (B.G.ca c) qual st (dds.map vD))(hl:oY st=s0::l)(hp:psO st=p::ps)(body:Bdz B (nmO st) qual st (s0::l) k b)(j:Nat)(S:okO (nmO st) (p::ps) st (np+1) n=true:=by kernel_rfl)(hf:dds.all qG=true:=by rfl)
  (bd:FH (dds.map vD).length λdl=>FH ((p::ps).length - ((dds.map vD).drop j).length) λus=>∀(T:Addr) (kV doc pm:aa) (an:Option Addr) (cdv ct:aa),∃k,bindArgs (fnOf "__init__" qual (qM st) (oY st) (oH st) (.ref T) kV doc pm an cdv ct) ⟨us,[]⟩=seqItems? (.ref T)>>=k/\k (some dl.toArray)=pure ((p::ps).zip (us++dl.drop j)):=by (repeat intro _);exact⟨_,rfl,rfl⟩):Kf B (k+1) x c g (dds.drop j):=
 ⟨⟨_,by rw[List.map_drop];exact gJ hg Y.y C a q (okk S).1 (body.ok hl) j (fM (okk S).2.1) (okk S).2.2 bd⟩,by
  rw[aS]at hf ⊢;exact λd h=>hf d (jX h)⟩
theorem vB(n:Nat)(ca:Nat->Addr):∀k,k<n->((aL n).map ca).getD k 0=ca k:=λk h=>by rw[cF,aV,ia h];rfl
theorem Ub{n:Nat}{ca:Nat->Addr}(h:decide ((aL n).map ca).Nodup=true):∀j k,j<n->k<n->ca j=ca k->j=k:=λj k hj hk e=>by rw[<-vB n ca j hj,<- vB n ca k hk]at e;exact Pk (gn h) (by simpa using hj) (by simpa using hk) e
def uB:Nat->(Nat->Prop)->Prop
 |0,_=>True
 |n+1,Q=>Q 0/\uB n λk=>Q (k+1)
theorem uB.at:∀{n:Nat} {Q:Nat->Prop},uB n Q->∀k,k<n->Q k
 |_+1,_,h,0,_=>h.1
 |_+1,_,h,k+1,hk=>uB.at (Q:=λk=>_) h.2 k (Nat.lt_of_succ_lt_succ hk)
end
section
variable{X:Cx}{B:Bz}{k j i n:Nat}{x y:Str}{e e' tg:Expr}{es:List Expr}{p p2 p3 pos apos:Pos}{f f':FE}{a:FA}{st:Stmt}{sts:List Stmt}{fs fs':FS}{ft:FT}
theorem QK{e2:Expr}{f2:FE}[C:Cz X B k](ha:ZE X B e f)(hb:ZE X B e' f')(hc:ZE X B e2 f2)(h1:Az X e "get")(h2:Ez apos pos)(h3:au [e',e2] X.env=[(false,eval e' X.env),(false,eval e2 X.env)]):ZE X B (.Call (.Attribute e "get" apos) [e',e2] [] pos) (AD f f' f2):=⟨JZ (DQ C.r) ha.p hb.p hc.p ⟨h1,by rw[h3];rfl,h2,by rw[h3];rfl⟩⟩
theorem QL{gg:FG}(hn:X.N.length=n)(he:ZE X B e f)(hg:ZG X B tg n gg)(hs:swapsWithSole [tg] e pos.line X.env=pure false)(hw:swappedStores [tg] e X.env=pure none)(h1:(bJ [tg] X.env).map (·.2)=[assign tg X.env]):ZS X B (.Assign [tg] e pos) (HD f gg):=⟨LW (IC he.p hg.p hs hw h1)⟩
theorem QM [C:Cz X B k][N:Nb B "int"](hg:Gz X "int")(hs:S1 X e)(ha:ZE X B e f):ZE X B (.Call (.Name "int" p) [e] [] pos) (c1 JI f):=⟨JH O4 (ctI hg (by decide) hs Hh ml (pG ha.p ql hs))⟩
end
end L4
namespace L4
open PySem PySem.Spec PyProof.Rows L2 L3
theorem Nr{α:Type}[DecidableEq α]:∀{l L:List α},l.Nodup->(∀x∈l,x∈L)->l.length<=L.length
 |[],L,_,_=>ba _
 |a::l,L,nd,h=>by have h1:=h a aH;have nd':=eK.mp nd;have:=Nr (l:=l) (L:=L.erase a) nd'.2 λx hx=>(List.mem_erase_of_ne (λe:x=a=>nd'.1 (by rw[<-e];exact hx))).mpr (h x (aG _ hx));rw[List.length_erase_of_mem h1]at this;have:=List.length_pos_of_mem h1;rw[aI];omega
structure Tb(t:aP)(m n:Nat):Prop where
 mask:t.mask=m
 dm:t.dummies=#[]
 pl:t.place.size=n
variable{i q:Nat}
section
variable{t:aP}{m n:Nat}
theorem Tb.slot(T:Tb t m n)(j:Nat):(∃i,t.slot j=.live i/\t.place[i]?=some j)\/t.slot j=.empty:=by
 unfold lP;by_cases h:(t.place[aR t.place j]?==some j)=true
 ·left;simp only[h,if_true];exact⟨_,rfl,eT h⟩
 ·right;rw[kM]at h;rw[T.dm];simp[h,ja]
theorem Tb.free(T:Tb t m n)(h:n<=m):∃r,r<=m/\t.slot r=.empty:=by
 apply jC;intro no;have:(aL (m+1)).length<=t.place.toList.length:=Nr kN λr hr=>by
  rcases T.slot r with ⟨i,_,e⟩|e
  ·rw[<-bu]at e;exact bg e
  ·exact ai ⟨r,by have:=bh.mp hr;omega,e⟩ no
 rw[b8,bc,T.pl]at this;omega
def Emp(t:aP):Nat->bU->Prop
 |0,_=>False
 |f+1,p=>t.slot p.j=.empty\/Emp t f (t.advance p)
theorem Emp.mono:∀{f f':Nat} {p:bU},Emp t f p->f<=f'->Emp t f' p
 |0,_,_,h,_=>h.elim
 |f+1,0,_,_,h=>ai h (by omega)
 |f+1,f'+1,p,h,hl=>h.imp id λh=>h.mono (by omega)
def rs(m i q:Nat):bU:=⟨i,bC m i - i,i,q,none⟩
theorem QN(m i:Nat):bC m i - i<=9:=by unfold bC;split<;>omega
theorem Emp.run(T:Tb t m n){f:Nat}(h:Emp t f (rs m ((i * 5+1+q / 32) % (m+1)) (q / 32))):∀(k j:Nat),Emp t (f+k+1) ⟨j,k,i,q,none⟩
 |0,j=>.inr (by
   have e:t.advance ⟨j,0,i,q,none⟩=rs m ((i * 5+1+q / 32) % (m+1)) (q / 32):=by unfold eC lQ;rw[T.mask];rfl
   rw[e];exact h)
 |k+1,j=>.inr (by
   have e:t.advance ⟨j,k+1,i,q,none⟩=⟨j+1,k,i,q,none⟩:=by unfold eC;rw[ah (cU k)];rfl
   rw[e];exact Emp.run T h k (j+1))
theorem Emp.leap(T:Tb t m n){f:Nat}(h:Emp t f (rs m ((i * 5+1+q / 32) % (m+1)) (q / 32))):Emp t (f+10) (rs m i q):=
 (Emp.run T h (bC m i - i) i).mono (by have:=QN m i;omega)
def orb(m:Nat):Nat->Nat->List Nat
 |0,_=>[]
 |k+1,i=>i::orb m k ((i * 5+1) % (m+1))
theorem Emp.orb(T:Tb t m n){r:Nat}(hr:t.slot r=.empty):∀(k i:Nat),r∈orb m k i->Emp t (10 * k) (rs m i 0)
 |0,i,h=>by cases h
 |k+1,i,h=>by
  rcases aF.mp h with e|h
  ·exact Emp.mono (f:=1) (.inl (by rw[e]at hr;exact hr)) (by omega)
  ·have:=Emp.leap T (q:=0) (i:=i) (Emp.orb T hr k _ h);exact this.mono (by omega)
theorem Do{p:bU}(h:p.dummy=none):(t.advance p).dummy=none:=by unfold eC;split<;>exact h
end
theorem QO{t:aP}{F F':Nat->Int}{h:Int}(e:∀i,F i=F' i)(g:Nat)(p:bU):cO t F h g p=cO t F' h g p:=by obtain rfl:F=F':=funext e;rfl
section
variable{prog:aq}{w:aj}{A:ar}{E:aa->ab->Prop}{s:ab}
theorem Kn{a2:Addr}{k2:List Key}{l:List aa}{Q:Bool->ab->Prop}(h1:∀v∈l,∃k a,v=.ref a/\TK prog w s.heap k a)(h2:TK prog w s.heap k2 a2)(h:Q false s):ae (model prog w) A (searchCouldBeSeen (.ref a2) l) Q E s:=by
 unfold searchCouldBeSeen;refine af ?_;show ae _ _ (forIn l _ _) _ _ s;refine iE _ (λrest r s'=>r=(none,())/\s'=s/\∀v∈rest,∃k a,v=.ref a/\TK prog w s.heap k a) _ ?_ ?_ _ _ ⟨rfl,rfl,h1⟩
 ·rintro v rest r s' ⟨rfl,rfl,hall⟩;obtain⟨k,a1,rfl,h1⟩:=hall v aH;have go:∀v∈rest,∃k a,v=Value.ref a/\TK prog w s'.heap k a:=λu hu'=>hall u (aG _ hu');dsimp only;split
  ·exact ao ⟨rfl,rfl,go⟩
  ·refine af (jO h2 ?_);refine af (jO h1 ?_);refine af (Gs h2 ?_);refine af (Gs h1 ?_);exact ao ⟨rfl,rfl,go⟩
 ·rintro r s' ⟨rfl,rfl,_⟩;exact ao h
end
def Nn(ow:Array (Option Nat))(j:Nat):Prop:=(ow.getD j (some 0)).isNone=true
section
variable{ow:Array (Option Nat)}
def lv(ow:Array (Option Nat)):List (Nat×Nat):=(aL 32).filterMap λj=>(ow.getD j none).map (j,·)
end
def Cz2(m n:Nat):Prop:=(m=7/\n<=4)\/(m=31/\n<=18)\/(m=127/\19<=n/\n<=63)
section
variable{prog:aq}{w:aj}{A:ar}{E:aa->ab->Prop}{s:ab}
theorem Ko{x:Str}{ks:List Key}{a:Addr}{Q:Bool->ab->Prop}(hk:TK prog w s.heap (Sum.inr x::ks) a)(h:Q false s):ae (model prog w) A (hashByValue 8 (.ref a)) Q E s:=by
 have hT:=hk.typeIs;obtain⟨o,items,n,ho,_,hd,hi⟩:=hk;unfold hashByValue;refine af (fH hT F.slot_tuple_hash.lookup ?_);show ae _ _ (seqItems? (.ref a)>>=_) _ _ s;refine af (iP ho hd ?_);refine af ?_;show ae _ _ (forIn items _ _) _ _ s;rw[<-kh];generalize items.toList=l at hi ⊢;cases hi with
 |@cons _ v _ vs h1 h2=>
  obtain⟨t,rfl⟩:∃t,v=.str x t:=Gv h1;refine iE _ (λrest r s'=>s'=s/\∃u,rest=.str x t::u) _ ?_ ?_ _ _ ⟨rfl,vs,rfl⟩
  ·rintro v rest r s' ⟨rfl,u,e⟩;cases e;refine af (m:=hashByValue 7 (.str x t)) (ao ?_);exact ao (ao h)
  ·rintro r s' ⟨rfl,u,e⟩;cases e
end
structure By(h:Heap)(S:Addr)(L:List (List Key×Addr))(led:Bool)(n:Nat)(o:Obj)(es:Array (Int×aa))(ep:Nat)(t:aP):Prop where
 at_:h.get? S=some o
 ex:o.ExactSet
 d:o.data=.set es ep t
 c:∃m,Tb t m n/\Cz2 m n
 led:t.led=led
 pl:0<n->t.plain=false
 p:(es.toList.map bw).Perm (L.map λq=>Value.ref q.2)
variable{led:Bool}{es:Array (Int×aa)}{ep:Nat}
theorem By.sz{h:Heap}{S:Addr}{L:List (List Key×Addr)}{n:Nat}{o:Obj}{t:aP}(x:By h S L led n o es ep t):es.size=L.length:=by have:=x.p.length_eq;rw[aw,aw,bc]at this;exact this
theorem By.fits{h:Heap}{S:Addr}{L:List (List Key×Addr)}{n:Nat}{o:Obj}{t:aP}(x:By h S L led n o es ep t)(hl:L.length=n):t.fits es.size=true:=by obtain⟨m,T,c⟩:=x.c;unfold dO gy;rw[x.sz,hl,T.pl,T.dm,T.mask,aE];exact⟨by simp,bj (by unfold Cz2 at c;simp;omega)⟩
theorem Dp{α:Type}:∀(l:List α) (j:Nat) (x:α),l[j]?=some x->(x::l.eraseIdx j).Perm l
 |[],j,x,h=>by cases h
 |a::l,0,x,h=>by cases h;exact .refl _
 |a::l,j+1,x,h=>(List.Perm.swap a x _).trans (List.Perm.cons a (Dp l j x h))
theorem GE{α:Type}(nx:Nat->Nat):∀(f k:Nat) (l:List α) (out:Array α),l.length=f->(l0 nx f k l out).toList.Perm (out.toList++l)
 |0,k,l,out,h=>by obtain rfl:=fY.mp h;rw[bI];exact .refl _
 |f+1,k,l,out,h=>by have hlt:nx k % l.length<l.length:=di _ (by omega);have e:l[nx k % l.length]?=some l[nx k % l.length]:=aJ hlt;unfold l0;rw[e];refine(GE nx f (k+1) _ _ (by rw[jY,ah hlt];omega)).trans ?_;rw[iw,cN];exact List.Perm.append_left _ (Dp l _ _ e)
theorem B6{α:Type}(nx:Nat->Nat)(xs:Array α):(pickOrder nx xs).toList.Perm xs.toList:=GE nx xs.size 0 xs.toList #[] bc
section
variable{prog:aq}{w:aj}{A:ar}{E:aa->ab->Prop}{s:ab}
theorem MP{n:Nat}{src:Source}{Q:Nat->ab->Prop}(hn:n≠0)(h:∀i d,i<n->Q i { s with drawn:=d }):ae (model prog w) A (choose src n) Q E s:=λΓ p hΓ=>by show Sem.wp _ Γ (.choose src n .pure) _ _ p s;rw[Sem.wp_choose];exact⟨hn,h _ _ (di _ (Nat.pos_of_ne_zero hn))⟩
theorem GF{α:Type}:∀(n:Nat) (xs:List α) (s:ab) {Q:List α->ab->Prop},xs.length=n->(∀ys d,ys.Perm xs->Q ys { s with drawn:=d })->ae (model prog w) A (drawOrder n xs) Q E s
 |0,xs,s,Q,hl,h=>by obtain rfl:=fY.mp hl;unfold drawOrder;exact ao (h [] s.drawn (.refl _))
 |n+1,[],s,Q,hl,h=>by cases hl
 |n+1,a::xs,s,Q,hl,h=>by unfold drawOrder;refine af (MP (by simp) λi d hi=>?_);have e:(a::xs)[i]?=some (a::xs)[i]:=aJ hi;rw[e];refine af (GF n _ _ (by rw[jY,ah hi];omega) λys d' p=>?_);exact ao (h _ d' ((List.Perm.cons _ p).trans (Dp _ _ _ e)))
end
theorem qS:Slot "set_iterator" "__next__" "set_iterator.__next__" :=
 .of (owner:="set_iterator") (n:="__next__") (by rw[kX,jP];kernel_rfl) (by decide +kernel) (by decide +kernel) (by decide +kernel)
  (by first|exact .inl (by decide +kernel)|exact .inr (by decide +kernel)) (by rw[gx];kernel_rfl)
theorem xI:Slot "set_iterator" "__iter__" "set_iterator.__iter__" :=
 .of (owner:="set_iterator") (n:="__iter__") (by rw[kX,jP];kernel_rfl) (by decide +kernel) (by decide +kernel) (by decide +kernel)
  (by first|exact .inl (by decide +kernel)|exact .inr (by decide +kernel)) (by rw[gx];kernel_rfl)
theorem BA:entryFor table "set_iterator.__next__" = some cf.«set_iterator.__next__»:=entryFor_of_tree (by kernel_rfl)
theorem Ew:Manifest.owners.lookup (String.ofList ['r','o','t','a','r','e','t','i','_','t','e','s'].reverse)=some Manifest.sig_set_iterator:=by kernel_rfl
theorem Dr(a:aa):argsOk "set_iterator.__next__" ⟨[a],[]⟩:=by unfold argsOk;rw[lS (id:="set_iterator.__next__") (n:=['_','_','t','x','e','n','_','_']) (o:=['r','o','t','a','r','e','t','i','_','t','e','s']) (by kernel_rfl) Ew];kernel_rfl
theorem Ds:entryFor table "set.__iter__" = some cf.«frozenset.__iter__»:=lC (id':="frozenset.__iter__") (by kernel_rfl) rfl (by decide +kernel) (by kernel_rfl)
inductive Md(w:aj) (h:Heap) (S TP:Addr) (i:Nat) (ord:List aa) (es:Array (Int×aa)) (ep:Nat) (t:aP):aa->Prop
 |txt {sl:Int} {tk:Tok}:w.params.followText "set-order" = true->ord=(pickOrder (w.params.setOrder S ep) es).toList.map bw->Md w h S TP i ord es ep t (.int sl tk)
 |drw {ps:List Nat} {vs:Array aa} {ot:Obj} {nt:Nat}:w.params.followText "set-order" = false->h.get? TP=some ot->ot.cls=.type "tuple" -> ot.data=.seq vs nt->vs=(ps.map λp:Nat=>rawInt p).toArray->ps.Perm (aL es.size)->ord=ps.filterMap (λp=>es[p]?.map bw)->Md w h S TP i ord es ep t (.ref TP)
 |one {sl:Int}:w.params.followText "set-order" = false->es.size<=1->t.led=true->(i=0->sl=0)->(∀j,i=1->t.place=#[j]->sl=(j+1:Nat))->ord=es.toList.map bw->Md w h S TP i ord es ep t (.int sl 0)
structure ItS(w:aj)(I S TP:Addr)(ord:List aa)(o:Obj)(es:Array (Int×aa))(ep:Nat)(t:aP)(i:Nat)(h:Heap):Prop where
 it:∃oi first,h.get? I=some oi/\oi.cls=.type "set_iterator" /\ oi.data=.fields #[first,.int i 0,.ref S,.int es.size 0,.int ep 0]/\Md w h S TP i ord es ep t first
 at_:h.get? S=some o
 d:o.data=.set es ep t
 f:t.fits es.size=true
variable{sl:Int}{tk:Tok}{h':Heap}
section
variable{prog:aq}{w:aj}{A:ar}{E:aa->ab->Prop}{s:ab}{I S TP:Addr}{ord:List aa}{o:Obj}{es:Array (Int×aa)}{ep:Nat}{t:aP}{i:Nat}
theorem yL{Q:Bool->ab->Prop}(h:Q (w.params.followText "set-order") s):ae (model prog w) A setsByText Q E s:=by unfold setsByText;exact af (iF (ao h))
theorem FJ{Q:Option (aa×Nat)->ab->Prop}(x:ItS w I S TP ord o es ep t i s.heap)(hm:Md w s.heap S TP i ord es ep t (.int sl tk))(hi:i<=1\/w.params.followText "set-order" = true)
  (hQ:∀(v:aa) (nx:Nat),ord[i]?=some v->Md w s.heap S TP (i+1) ord es ep t (.int nx 0)->Q (some (v,nx)) s) (hN:ord[i]?=none->Q none s):ae (model prog w) A (setNext S sl.toNat i ep) Q E s:=by
 unfold setNext;refine af (bR x.at_ x.d x.f ?_);dsimp only;refine af (yL ?_);cases hm with
 |txt h1 h2=>
  rw[h1,ah rfl];rw[ag (by simp)];refine af ?_;unfold setWalk;refine af (bR x.at_ x.d x.f ?_);dsimp only;refine af (yL ?_);rw[h1,ah rfl];refine af (iF ?_);refine ao ?_;refine ao ?_;show Q (mn (λe=>(e.snd,sl.toNat)) (pickOrder (w.params.setOrder S ep) es)[i]?) s;have e:ord[i]?=((pickOrder (w.params.setOrder S ep) es)[i]?).map bw:=by rw[h2,aV,bu]
  cases hp:(pickOrder (w.params.setOrder S ep) es)[i]? with
  |none=>rw[hp]at e;exact hN e
  |some q=>rw[hp]at e;exact hQ q.2 _ e (.txt h1 h2)
 |one h1 h2 h3 h4 h5 h6=>
  have fs:t.place.size=es.size:=by have:=x.f;unfold dO at this;rw[aE,beq_iff_eq]at this;exact this.1
  rw[h1,ag (by decide)];rw[ag (λhh=>by
   have:(!t.plain&&decide (es.size > 1))=true:=hh;simp at this;omega)]
  refine af ?_;wp_delta;rw[ag (by rw[h3];simp)];refine ao ?_;refine ao ?_;have c:es.size=0\/es.size=1:=by omega
  rcases c with c|c
  ·have e1:es=#[]:=Array.eq_empty_of_size_eq_zero c;subst e1;exact hN (by rw[h6];rfl)
  ·obtain⟨e,rfl⟩:=jQ.mp c;obtain⟨j,ej⟩:=jQ.mp (fs.trans c);rw[ej];have hi1:i<=1:=hi.resolve_right λe=>by rw[h1]at e;cases e
   have:i=0\/i=1:=by omega
   rcases this with rfl|rfl
   ·rw[h4 rfl];show Q (match #[e][aR #[j] 0]?,#[j][aR #[j] 0]? with|some (_,x),some j=>some (x,j+1)|_,_=>none) s;rw[show aR #[j] 0=0 from by simp[aR,dy]];exact hQ e.2 (j+1) (by rw[h6];rfl) (.one h1 h2 h3 (λz=>by cases z) (λj' _ e'=>by rw[ej]at e';cases e';rfl) h6)
   ·rw[h5 j rfl ej];show Q (match #[e][aR #[j] (j+1)]?,#[j][aR #[j] (j+1)]? with|some (_,x),some j=>some (x,j+1)|_,_=>none) s;rw[show aR #[j] (j+1)=1 from by simp[aR,dy]];exact hN (by rw[h6];rfl)
theorem ItS.ty(x:ItS w I S TP ord o es ep t i s.heap):s.TypeIs (.ref I) "set_iterator" := let ⟨⟨oi,_,h1,h2,_⟩,_,_,_⟩:=x;⟨oi,h1,h2⟩
theorem ItS.ordlen(x:ItS w I S TP ord o es ep t i s.heap):ord.length=es.size:=by
 obtain⟨⟨oi,first,_,_,_,hm⟩,_,_,_⟩:=x;cases hm with
 |txt h1 h2=>rw[h2,aw,(B6 _ es).length_eq,bc]
 |drw h1 h2 h3 h4 h5 h6 h7=>rw[h7,(h6.filterMap _).length_eq];have:=gZ es;rw[show (aL es.size).filterMap (λp=>es[p]?.map bw)=((aL es.size).filterMap λp=>es[p]?).map bw from(km ..).symm,this,aw,bc]
 |one h1 h2 h3 h4 h5 h6=>rw[h6,aw,bc]
theorem Kp{α β:Type}(f:α->Option β):∀(ps:List α),(∀p∈ps,∃v,f p=some v)->∀i:Nat,(ps.filterMap f)[i]?=ps[i]?.bind f
 |[],_,i=>rfl
 |p::ps,h,i=>by
  obtain⟨v,e⟩:=h p aH;rw[bZ,e];cases i with
  |zero=>show some v=f p;rw[e]
  |succ i=>exact Kp f ps (λq hq=>h q (aG _ hq)) i
theorem Md.mv{h:Heap}(m:Md w h S TP i ord es ep t (.int sl tk)):Md w h' S TP i ord es ep t (.int sl tk):=by
 cases m with
 |txt h1 h2=>exact .txt h1 h2
 |one h1 h2 h3 h4 h5 h6=>exact .one h1 h2 h3 h4 h5 h6
theorem GH{B:ar}{R:Fin->ab->Prop}{s0:ab}{Q:Option aa->ab->Prop}(hh:B.handled=none)(hN:∀h',(∀b o,s0.heap.get? b=some o->h'.get? b=some o)->Q none { s0 with heap:=h' }):
  ae (model prog w) B (do let e<-newExc (.type "StopIteration") [];raiseNew e) R (λe s'=>ae (model prog w) A (do if<-isInstance e (.type "StopIteration")then pure none else throw e) Q E s') s0:=by
 refine af ?_;simp only[newExc,newTuple];refine af (d9 ?_ (by size_fits));refine af (m:=firstArgMember _ _) (jf (a:=Value.none) (by first|rfl|(simp only[firstArgMember];rfl)) ?_);refine d9 ?_ (by size_fits);simp only[raiseNew];refine af (wpAny_handled ?_);rw[hh];refine af (ao (wpAny_throw ?_));refine af (kO (T:="StopIteration") (b:=true) ⟨_,aQ _ rfl,rfl⟩ isSubtype_stop ?_);exact ao (hN _ λb o e=>az _ (az _ e))
theorem Kq{Q:Option aa->ab->Prop}(hh:A.handled=none)(x:ItS w I S TP ord o es ep t i s.heap)(hi:i<=ord.length)(hS:S≠I)(hT:TP≠I)
  (hQ:∀v h',ord[i]?=some v->de I s.heap h'->ItS w I S TP ord o es ep t (i+1) h'->Q (some v) { s with heap:=h' }) (hN:∀h',ord[i]?=none->Heap.ExtBut I s.heap h'->Q none { s with heap:=h' }):
  ae (model prog w) A (pyNext (.ref I)) Q E s:=by
 have ol:=x.ordlen;obtain⟨oi,first,hoi,hci,hdi,hm⟩:=x.it;unfold pyNext;refine af (wpAny_attempt (wpAny_callSpecial?_slot (name:=jb "__next__") x.ty qS (eB qS x.ty BA ?_ (Dr _))));show ae _ _ (fieldsOf (.ref I)>>=_) _ _ s;refine af (wpAny_fieldsOf hoi hdi ?_);show ae _ _ (setEntries S>>=_) _ _ s;refine af ?_;unfold setEntries;refine af (bR x.at_ x.d x.f ?_);refine ao ?_;dsimp only;rw[ag (by simp)];simp only[ix];have byint:∀(sl:Int) (tk:Tok),first=.int sl tk->(i<=1\/w.params.followText "set-order" = true)->ae (model prog w) A.in1 (do
   let r<-setNext S sl.toNat i ep
   match r with
    |some (x,next)=>do
     setField (Value.ref I) 0 (rawInt ↑next)
     setField (Value.ref I) 1 (rawInt (↑i+1))
     ret x
    |none=>do
     setField (Value.ref I) 2 Value.none
     let e<-newExc (Value.type "StopIteration") []
     raiseNew e) (λfin s'=>∃v,fin=Fin.done (Flow.ret v)/\ae (model prog w) A (pure (some v)) Q E s') (λe s'=>ae (model prog w) A (do if<-isInstance e (.type "StopIteration")then pure none else throw e) Q E s') s:=λsl tk e hi'=>by
  subst e;refine af (FJ x hm hi' (λv nx ev m=>?_) λev=>?_)
  ·refine af (eN hoi hdi (by simp) ?_);have g1:=c4 (h:=s.heap) (dP (·.setIfInBounds 0 (rawInt (nx:Int)))) hoi (f7 (c6 hdi _))
   have d1:=c6 hdi (·.setIfInBounds 0 (rawInt (nx:Int)))
   refine af (eN g1 d1 (by simp) ?_);have g2:=c4 (dP (·.setIfInBounds 1 (rawInt ((i:Int)+1)))) g1 (f7 (c6 d1 _))
   have d2:=c6 d1 (·.setIfInBounds 1 (rawInt ((i:Int)+1)))
   have sb:=(cm s.heap I (dP (·.setIfInBounds 0 (rawInt (nx:Int))))).trans (cm _ I (dP (·.setIfInBounds 1 (rawInt ((i:Int)+1)))))
   refine ao ⟨v,rfl,ao (hQ v _ ev sb ⟨⟨_,.int nx 0,g2,(iy ..).trans ((iy ..).trans hci),?_,m.mv⟩,?_,x.d,x.f⟩)⟩
   ·rw[d2];simp[rawInt]
   ·rw[sb.2 S hS];exact x.at_
  ·refine af (eN hoi hdi (by simp) ?_);exact GH (by simp[hh]) λh' k=>hN h' ev λb o hb e=>k b o (by rw[(cm ..).2 b hb];exact e)
 cases hm with
 |txt h1 h2=>exact byint _ _ rfl (.inr h1)
 |one h1 h2 h3 h4 h5 h6=>exact byint _ _ rfl (.inl (by omega))
 |@drw ps vs ot nt h1 h2 h3 h4 h5 h6 h7=>
  show ae _ _ (seqItems? (.ref TP)>>=_) _ _ s;refine af (iP h2 h4 ?_);have al:∀p∈ps,∃v,(es[p]?.map bw)=some v:=λp hp=>by have:=bh.mp (h6.mem_iff.mp hp);exact⟨es[p].2,by rw[cH this];rfl⟩
  have eg:ord[i]?=ps[i]?.bind λp=>es[p]?.map bw:=by rw[h7];exact Kp _ ps al i
  have ev:vs[i]?=ps[i]?.map λp:Nat=>rawInt p:=by rw[h5,f6,aV]
  cases ep':ps[i]? with
  |none=>
   rw[ep']at ev eg;dsimp only;rw[ev];refine af (eN hoi hdi (by simp) ?_);have g1:=c4 (h:=s.heap) (dP (·.setIfInBounds 0 (rawInt 0))) hoi (f7 (c6 hdi _))
   have d1:=c6 hdi (·.setIfInBounds 0 (rawInt 0))
   refine af (eN g1 d1 (by simp) ?_);exact GH (by simp[hh]) λh' k=>hN h' eg λb o hb e=>k b o (by rw[(cm ..).2 b hb,(cm ..).2 b hb];exact e)
  |some p=>
   rw[ep']at ev eg;obtain⟨v,e1⟩:=al p (bg ep');dsimp only;rw[ev];show ae _ _ (setNextDrawn S (p:Int).toNat ep>>=_) _ _ s;rw[ix];refine af ?_;unfold setNextDrawn;refine af (bR x.at_ x.d x.f ?_);dsimp only;rw[ag (by simp)];cases e2:es[p]? with
   |none=>rw[e2]at e1;cases e1
   |some q=>
    rw[e2]at e1;refine ao ?_;refine af (eN hoi hdi (by simp) ?_);have g1:=c4 (h:=s.heap) (dP (·.setIfInBounds 1 (rawInt ((i:Int)+1)))) hoi (f7 (c6 hdi _))
    have d1:=c6 hdi (·.setIfInBounds 1 (rawInt ((i:Int)+1)))
    have sb:=cm s.heap I (dP (·.setIfInBounds 1 (rawInt ((i:Int)+1))))
    refine ao ⟨_,rfl,ao (hQ _ _ (by rw[eg];show es[p]?.map bw=_;rw[e2];rfl) sb ⟨⟨_,.ref TP,g1,(iy ..).trans hci,?_,.drw h1 (by rw[sb.2 TP hT];exact h2) h3 h4 h5 h6 h7⟩,?_,x.d,x.f⟩)⟩
    ·rw[d1];simp[rawInt]
    ·rw[sb.2 S hS];exact x.at_
end
theorem BB:entryFor table "set_iterator.__iter__" = some cf.«dict_keyiterator.__iter__»:=lC (id':="dict_keyiterator.__iter__") (by kernel_rfl) rfl (by decide +kernel) (by kernel_rfl)
theorem Dt(a:aa):argsOk "set_iterator.__iter__" ⟨[a],[]⟩:=by unfold argsOk;rw[lS (id:="set_iterator.__iter__") (n:=['_','_','r','e','t','i','_','_']) (o:=['r','o','t','a','r','e','t','i','_','t','e','s']) (by kernel_rfl) Ew];kernel_rfl
section
variable{prog:aq}{w:aj}{A:ar}{E:aa->ab->Prop}{s:ab}{I S TP:Addr}{ord:List aa}{o:Obj}{es:Array (Int×aa)}{ep:Nat}{t:aP}
theorem Md.at{h:Heap}{f:aa}(m:Md w h S TP i ord es ep t f)(k:∀o,h.get? TP=some o->h'.get? TP=some o):Md w h' S TP i ord es ep t f:=by
 cases m with
 |txt h1 h2=>exact .txt h1 h2
 |one h1 h2 h3 h4 h5 h6=>exact .one h1 h2 h3 h4 h5 h6
 |drw h1 h2 h3 h4 h5 h6 h7=>exact .drw h1 (k _ h2) h3 h4 h5 h6 h7
theorem QP(hh:A.handled=none)(hS:S≠I)(hT:TP≠I):Walks prog w A I [I,S,TP] [I] ord.length (λi v=>ord[i]?=some v) (λi h=>ItS w I S TP ord o es ep t i h/\i<=ord.length) where
 sub:=λb hb=>by simp at hb;simp[hb]
 frame:=λi h h' st hk=>by obtain⟨⟨⟨oi,f,h1,h2,h3,hm⟩,h4,h5,h6⟩,h7⟩:=st;exact⟨⟨⟨oi,f,hk I (by simp) _ h1,h2,h3,hm.at λo e=>hk TP (by simp) o e⟩,hk S (by simp) _ h4,h5,h6⟩,h7⟩
 item:=λi s Q E hi st hQ=>Kq hh st.1 st.2 hS hT (λv h' ev sb x=>hQ v h' s.toks ev ⟨x,by omega⟩ λb o hb e=>by rw[sb.2 b λz=>hb (by simp[z])];exact e) λh' en _=>by rw[aJ hi]at en;cases en
 done:=λs Q E st hQ=>Kq hh st.1 st.2 hS hT (λv h' ev _ _=>by rw[dY (ay _)]at ev;cases ev) λh' _ k=>hQ h' s.toks λb o hb e=>k b o (λz=>hb (by simp[z])) e
 self:=λi s Q E st h=>by refine kz st.1.ty xI (eB xI st.1.ty BB ?_ (Dt _));show ae _ _ (ret (.ref I)) _ _ s;exact ao ⟨_,rfl,"set_iterator", _,st.1.ty,qS.lookup,h⟩
end
end L4
namespace L4
open PySem PySem.Spec PySem.Calls PyProof.Rows PySem.W L2 L3
section
variable{prog:aq}{w:aj}{A:ar}{E:aa->ab->Prop}{s:ab}
abbrev TkS(k:List Str):List Key:=k.map Sum.inr
end
section
variable{X:Cx}{G:Bg}{H:Hp}{pins:List (Addr×Obj)}{σ:St}{s:ab}
theorem Inv.drw(I:Inv X pins σ H s)(d:Drawn):Inv X pins σ H { s with drawn:=d }:=⟨I.ok,I.os,I.bare,I.base,I.loc,I.cell,I.free,I.freeC,I.pin,I.hok,I.len⟩
end
section
variable{X:Cx}{G:Bg}{H:Hp}{pins:List (Addr×Obj)}{σ:St}{s:ab}
theorem GI:∀{ds:List D} {ks:List (List Str)} {xs:List V},og G H ds xs->sR ds=some ks->∃L:List (List Str×Addr),xs=L.map (λq=>V.ref q.2)/\ks=L.map bG/\∀q∈L,∃p r,q.1=[p,r]/\SqT G.K H q.2 [.str p,.str r]
 |[],ks,xs,r,e=>by cases e;unfold og at r;subst r;exact⟨[],rfl,rfl,λq hq=>by cases hq⟩
 |d::ds,ks,xs,r,e=>by
  unfold sR at e;cases e1:Il d with
  |none=>rw[e1]at e;cases e
  |some k=>
   cases e2:sR ds with
   |none=>rw[e1,e2]at e;cases e
   |some ks'=>
    rw[e1,e2]at e;cases e;unfold og at r;obtain⟨v,r',rfl,q1,q2⟩:=r;obtain⟨L,rfl,rfl,h3⟩:=GI q2 e2;obtain⟨a,p,q,rfl,rfl,h1⟩:=Es q1 e1;refine⟨([p,q],a)::L,rfl,rfl,λz hz=>?_⟩;rcases aF.mp hz with rfl|hz
    ·exact⟨p,q,rfl,h1⟩
    ·exact h3 z hz
end
noncomputable abbrev cS(s:Str):FE:=cC (.str s)
noncomputable abbrev a1(e:FE):FA:=aCons e oT
section
variable{X:Cx}{G:Bg}{H:Hp}{pins:List (Addr×Obj)}{σ:St}{s:ab}
def Ta(K:ak)(H:Hp)(a:Addr)(n:Nat):Prop:=Pe K H a n\/
 ∃L:List (List Str×Addr),SqL K H a (L.map λq=>V.ref q.2)/\L.length<=8/\(L.map bG).Nodup/\(∀q∈L,∃p r,q.1=[p,r]/\SqT K H q.2 [.str p,.str r])/\n=L.length
def Du(ds:List D):Option D:=match sR ds with
 |some ks=>if ks.Nodup/\ds.length<=8 then some (.int ds.length)else none
 |none=>none
theorem Im(hK:X.K=G.K):∀{ds d H1 H1' a xs},Du ds=some d->SqL X.K H1' a xs->og G H1 ds xs->oA H1 H1'->∃n:Nat,Ta X.K H1' a n/\d=.int n:=λ{ds d H1 H1' a xs} e hq h2 s=>by
 unfold Du at e;cases e2:sR ds with
 |none=>simp only[e2]at e;cases e
 |some ks=>
  simp only[e2]at e;split at e
  ·rename_i hc;cases e;obtain⟨L,rfl,rfl,h3⟩:=GI h2 e2;have hl:=oj h2;rw[aw]at hl;refine⟨_,.inr ⟨L,hq,by omega,hc.1,λq hq=>?_,hl⟩,rfl⟩;obtain⟨p,r,e,h4⟩:=h3 q hq;rw[<-hK]at h4;exact⟨p,r,e,SqT.mono s h4⟩
  ·cases e
end
end L4
namespace L4
open PySem PySem.Spec PyProof.Rows L2 L3
section
variable{X:Cx}{B:Bz}{k j i m:Nat}{x:Str}{e e':Expr}{es:List Expr}{d:D}{p pos:Pos}{g:D->D->Option D}
theorem Tc{l:List Stmt}:ZB X B l Mt:=⟨λpins s σ H D I h=>by
 obtain⟨F,ρ,H0,o,R,e,_⟩:=h;cases e⟩
end
variable{j:Nat}
theorem ur.mono{G:Bg}{P:aq}{w:aj}{mg:Str->Option aa}{base:Heap}{k:Nat}{m:Str}{c:Nat}{h:List D->Option D}(M:ur G P w mg base j m c h)(hk:dr j k=true):ur G P w mg base k m c h:=by obtain⟨f,fd,ps,a,b,c,F⟩:=M;exact⟨f,fd,ps,a,b,c,F.mono (dh.mp hk)⟩
mutual
def AK:D->Bool
 |.non=>true
 |.bl _=>true
 |.int _=>true
 |.str _=>true
 |.tup ds=>AL ds
 |.lst ds=>AL ds
 |_=>false
def AL:List D->Bool
 |[]=>true
 |d::ds=>AK d&&AL ds
end
mutual
theorem Rep.but{G:Bg}{H H1:Hp}(e:∀b o,H b=some o->(∀u kvs,o≠HO.frz u (.dK kvs))->H1 b=some o):∀(d:D) (v:V),AK d=true->Rep G H d v->Rep G H1 d v
 |.non,v,_,h=>by unfold Rep at h ⊢;exact h
 |.bl b,v,_,h=>by unfold Rep at h ⊢;exact h
 |.int i,v,_,h=>by unfold Rep at h ⊢;exact h
 |.str x,v,_,h=>by unfold Rep at h ⊢;exact h
 |.tup ds,v,n,h=>by
  unfold Rep at h ⊢;unfold AK at n;obtain⟨a,xs,rfl,h1,h2⟩:=h;refine⟨a,xs,rfl,?_,og.but e ds xs n h2⟩;rcases h1 with (h|⟨o,h⟩)|h
  ·exact .inl (.inl (e _ _ h λ_ _ z=>nomatch z))
  ·exact .inl (.inr ⟨o,e _ _ h λ_ _ z=>nomatch z⟩)
  ·exact .inr h
 |.lst ds,v,n,h=>by unfold Rep at h ⊢;unfold AK at n;obtain⟨a,xs,rfl,h1,h2⟩:=h;exact⟨a,xs,rfl,e _ _ h1 (λ_ _ z=>nomatch z),og.but e ds xs n h2⟩
 |.fzl ds,v,n,h=>by unfold AK at n;cases n
 |.obj c ns ds,v,n,h=>by unfold AK at n;cases n
 |.dic ks ds,v,n,h=>by unfold AK at n;cases n
theorem og.but{G:Bg}{H H1:Hp}(e:∀b o,H b=some o->(∀u kvs,o≠HO.frz u (.dK kvs))->H1 b=some o):∀(ds:List D) (xs:List V),AL ds=true->og G H ds xs->og G H1 ds xs
 |[],xs,_,h=>by unfold og at h ⊢;exact h
 |d::ds,xs,n,h=>by unfold og at h ⊢;unfold AL at n;rw[aE]at n;obtain⟨v,r,rfl,h1,h2⟩:=h;exact⟨v,r,rfl,Rep.but e d v n.1 h1,og.but e ds r n.2 h2⟩
end
abbrev Upw(xs:Array Nat):Prop:=xs.toList.Pairwise (· < ·)
variable{i:Nat}
theorem FK{xs:Array Nat}(h:Upw xs){k a b:Nat}(hik:i<k)(ha:xs[i]?=some a)(hb:xs[k]?=some b):a<b:=by rw[<-bu]at ha hb;obtain⟨h1,rfl⟩:=bb.mp ha;obtain⟨h2,rfl⟩:=bb.mp hb;exact jB.mp h i k h1 h2 hik
theorem AM{xs:Array Nat}(h:Upw xs)(j:Nat):∀(f lo hi:Nat),hi<=xs.size->lo<=hi->hi - lo<=f->(∀i a,i<lo->xs[i]?=some a->a<j)->(∀i a,hi<=i->xs[i]?=some a->j<=a)->
  dy xs j f lo hi<=xs.size/\(∀i a,i<dy xs j f lo hi->xs[i]?=some a->a<j)/\∀i a,dy xs j f lo hi<=i->xs[i]?=some a->j<=a
 |0,lo,hi,h1,h2,h3,h4,h5=>⟨bF h2 h1,h4,λi a hi'=>h5 i a (bF (by omega) (show lo<=i from hi'))⟩
 |f+1,lo,hi,h1,h2,h3,h4,h5=>by
  unfold dy;by_cases hl:lo<hi
  ·rw[ah hl];have hm:(lo+hi) / 2<xs.size:=by omega
   have e:xs[(lo+hi) / 2]?=some xs[(lo+hi) / 2]:=cH hm;have g:xs.getD ((lo+hi) / 2) j=xs[(lo+hi) / 2]:=by rw[dt,e];rfl
   dsimp only;rw[g];by_cases hc:xs[(lo+hi) / 2]<j
   ·rw[ah hc];refine AM h j f _ hi h1 (by omega) (by omega) (λi a hi' ea=>?_) h5;rcases l3 i ((lo+hi) / 2)with z|z
    ·exact gz (FK h z ea e) hc
    ·have:i=(lo+hi) / 2:=by omega
     rw[this,e]at ea;cases ea;exact hc
   ·rw[ag hc];refine AM h j f lo _ (by omega) (by omega) (by omega) h4 λi a hi' ea=>?_;rcases l3 ((lo+hi) / 2) i with z|z
    ·have:=FK h z e ea;omega
    ·have:i=(lo+hi) / 2:=by omega
     rw[this,e]at ea;cases ea;omega
  ·rw[ag hl];exact⟨by omega,h4,λi a hi'=>h5 i a (by omega)⟩
theorem AN{xs:Array Nat}(h:Upw xs)(j:Nat):aR xs j<=xs.size/\(∀i a,i<aR xs j->xs[i]?=some a->a<j)/\∀i a,aR xs j<=i->xs[i]?=some a->j<=a:=
 AM h j xs.size 0 xs.size (ay _) (ba _) (by omega) (λi a z=>ai z (by omega)) λi a z e=>by have:=(fW.mp e).1;omega
theorem below_at{xs:Array Nat}(h:Upw xs)(e:xs[i]?=some j):aR xs j=i:=by
 obtain⟨h1,h2,h3⟩:=AN h j;rcases ky (aR xs j) i with z|z|z
 ·have hb:aR xs j<xs.size:=gz z (fW.mp e).1;have eb:xs[aR xs j]?=some xs[aR xs j]:=cH hb;have:=h3 _ _ (ay _) eb;have:=FK h z eb e;omega
 ·exact z
 ·have:=h2 i j z e;omega
theorem Ex{α:Type}(xs:Array α)(p:Nat)(x:α):(bE xs p x).toList=xs.toList.take p++x::xs.toList.drop p:=by unfold bE;simp;rw[hG];rw[fE,bc];exact ay _
theorem sI{α:Type}(xs:Array α){p:Nat}(hp:p<=xs.size)(x:α)(i:Nat):(bE xs p x)[i]?=if i<p then xs[i]? else if i=p then some x else xs[i - 1]?:=by
 have len:(xs.toList.take p).length=p:=by rw[b9,bc];omega
 rw[<-bu,Ex,List.getElem?_append,len];by_cases h:i<p
 ·rw[ah h,ah h,List.getElem?_take,ah h,bu]
 ·rw[ag h,ag h];by_cases h2:i=p
  ·subst h2;rw[ah rfl,gA];rfl
  ·rw[ag h2];obtain⟨k,rfl⟩:∃k,i=p+(k+1):=⟨i - p - 1,by omega⟩;rw[show p+(k+1) - p=k+1 by omega,jH,cM,bu];congr 1
theorem QQ{xs:Array Nat}(h:Upw xs)(hj:j∉xs.toList):Upw (bE xs (aR xs j) j):=by
 obtain⟨h1,h2,h3⟩:=AN h j;have h':=h;unfold Upw at h' ⊢;rw[Ex,jZ];rw[<-jR (aR xs j) xs.toList,jZ]at h';have lo:∀a∈xs.toList.take (aR xs j),a<j:=λa ha=>by obtain⟨i,hi,rfl⟩:=c5.mp ha;have hi':=hi;rw[b9]at hi';refine h2 i _ (by omega) ?_;rw[<-bu,List.getElem_take,aJ]
 have hg:∀a∈xs.toList.drop (aR xs j),j<a:=λa ha=>by
  have ma:a∈xs.toList:=jX ha;obtain⟨i,hi,rfl⟩:=c5.mp ha;have hi':=hi;rw[fE]at hi';have:=h3 (aR xs j+i) (xs.toList.drop (aR xs j))[i] (by omega) (by rw[<-bu,List.getElem_drop,aJ]);rcases Nat.lt_or_eq_of_le this with z|z
  ·exact z
  ·exact ai (z▸ma) hj
 refine⟨h'.1,List.pairwise_cons.mpr ⟨hg,h'.2.1⟩,λa ha b hb=>?_⟩;rcases aF.mp hb with rfl|hb
 ·exact lo a ha
 ·exact gz (lo a ha) (hg b hb)
structure Tu(t:aP)(m n:Nat):Prop extends Tb t m n where
 up:Upw t.place
section
variable{t:aP}{m n:Nat}
theorem Tu.live(T:Tu t m n)(e:t.place[i]?=some j):t.slot j=.live i:=by unfold lP;rw[below_at T.up e];dsimp only;rw[e];simp
theorem Tu.emp(T:Tu t m n)(e:t.slot j=.empty):j∉t.place.toList:=λh=>by obtain⟨i,hi,rfl⟩:=c5.mp h;rw[T.live (i:=i) (by rw[<-bu,aJ hi])]at e;cases e
def tM(m:Nat):aP:=⟨m,#[],#[],0,false,0,false⟩
def Wy(m:Nat)(O:Nat->Prop)(j:Nat):Nat->bU->Prop
 |0,_=>False
 |f+1,p=>p.j=j\/(O p.j/\Wy m O j f ((tM m).advance p))
theorem Wy.mono{O O':Nat->Prop}(h:∀x,O x->O' x):∀{f f':Nat} {p:bU},Wy m O j f p->f<=f'->Wy m O' j f' p
 |0,_,_,w,_=>w.elim
 |f+1,0,_,_,l=>ai l (by omega)
 |f+1,f'+1,p,w,l=>w.imp id λw=>⟨h _ w.1,w.2.mono h (by omega)⟩
theorem Dv(T:Tb t m n)(p:bU):t.advance p=(tM m).advance p:=by obtain⟨rfl,_,_⟩:=T;rfl
theorem Nt(T:Tb t m n)(h:Int):t.probeStart h=(tM m).probeStart h:=by obtain⟨rfl,_,_⟩:=T;rfl
abbrev Oc(t:aP)(x:Nat):Prop:=x∈t.place.toList
theorem QR{x:Nat}(h:Oc t x):∃i:Nat,t.place[i]?=some x:=by obtain⟨i,hi,rfl⟩:=c5.mp h;exact⟨i,by rw[<-bu,aJ hi]⟩
theorem Nu(T:Tu t m n)(F:Nat->Int)(h:Int){i0 j0:Nat}(e0:t.place[i0]?=some j0)(h0:F i0=h):∀(f:Nat) (p:bU),p.dummy=none->Wy m (Oc t) j0 f p->∀g,f<=g->
  ∃j i next f',f'<f/\t.slot j=.live i/\t.place[i]?=some j/\F i=h/\cO t F h g p=some (.candidate j i next)/\next.dummy=none/\(i=i0\/Wy m (Oc t) j0 f' next)
 |0,p,_,he,g,_=>he.elim
 |f+1,p,hd,he,0,hg=>ai hg (by omega)
 |f+1,p,hd,he,g+1,hg=>by
  unfold cO;obtain⟨i,ei,hi⟩:∃i:Nat,t.place[i]?=some p.j/\(i=i0\/Wy m (Oc t) j0 f ((tM m).advance p)):=by
   rcases he with e|⟨e,w⟩
   ·exact⟨i0,by rw[e];exact e0,.inl rfl⟩
   ·obtain⟨i,ei⟩:=QR e;exact⟨i,ei,.inr w⟩
  rw[T.live ei];dsimp only;rw[Dv T.toTb];by_cases hh:F i=h
  ·exact⟨p.j,i,(tM m).advance p,f,bS f,T.live ei,ei,hh,by rw[ah (by rw[hh];simp)],Do hd,hi⟩
  ·rw[ag (by simpa using hh)];have w:=hi.resolve_left λe=>hh (by rw[e];exact h0);obtain⟨j,i',nx,f',h1,h2⟩:=Nu T F h e0 h0 f _ (Do hd) w g (by omega);exact⟨j,i',nx,f',by omega,h2⟩
theorem Nv(T:Tu t m n)(F:Nat->Int)(h:Int):∀(f:Nat) (p:bU),p.dummy=none->Emp t f p->∀g,f<=g->(∃j,t.slot j=.empty/\cO t F h g p=some (.empty j none)/\Wy m (Oc t) j f p)\/
  ∃j i next f',f'<f/\t.slot j=.live i/\t.place[i]?=some j/\F i=h/\cO t F h g p=some (.candidate j i next)/\next.dummy=none/\Emp t f' next/\∀x,Wy m (Oc t) x f' next->Wy m (Oc t) x f p
 |0,p,_,he,g,_=>he.elim
 |f+1,p,hd,he,0,hg=>ai hg (by omega)
 |f+1,p,hd,he,g+1,hg=>by
  unfold cO;rcases T.slot p.j with ⟨i,e1,e2⟩|e1
  ·have he:Emp t f (t.advance p):=he.resolve_left λe=>by rw[e1]at e;cases e
   have oc:Oc t p.j:=by rw[<-bu]at e2;exact bg e2
   rw[e1];dsimp only;by_cases hh:F i=h
   ·right;exact⟨p.j,i,t.advance p,f,bS f,e1,e2,hh,by rw[ah (by rw[hh];simp)],Do hd,he,λx w=>.inr ⟨oc,by rw[<-Dv T.toTb];exact w⟩⟩
   ·rw[ag (by simpa using hh)];rcases Nv T F h f (t.advance p) (Do hd) he g (by omega)with ⟨j,h1,h2,h3⟩|⟨j,i',nx,f',h1,h2,h3,h4,h5,h6,h7,h8⟩
    ·exact .inl ⟨j,h1,h2,.inr ⟨oc,by rw[<-Dv T.toTb];exact h3⟩⟩
    ·exact .inr ⟨j,i',nx,f',by omega,h2,h3,h4,h5,h6,h7,λx w=>.inr ⟨oc,by rw[<-Dv T.toTb];exact h8 x w⟩⟩
  ·left;rw[e1];exact⟨p.j,e1,by rw[hd],.inl rfl⟩
end
noncomputable abbrev hkE(prog:aq) (w:aj) (q:List Key×Addr):Int×aa:=(tupleKeyHash (oF prog w) q.1,.ref q.2)
structure Eh(prog:aq)(w:aj)(h:Heap)(L:List (List Key×Addr))(es:Array (Int×aa)):Prop where
 tk:∀q∈L,TK prog w h q.1 q.2
 p:es.toList.Perm (L.map (hkE prog w))
section
variable{prog:aq}{w:aj}{A:ar}{E:aa->ab->Prop}{s:ab}{L:List (List Key×Addr)}{es:Array (Int×aa)}{t:aP}{m n ep:Nat}{S a2:Addr}{k2:List Key}{o:Obj}{h:Int}
theorem Eh.at(l:Eh prog w s.heap L es){i:Nat}{e:Int×aa}(he:es[i]?=some e):∃q∈L,e=hkE prog w q:=by rw[<-bu]at he;obtain⟨q,hq,rfl⟩:=bD.mp (l.p.mem_iff.mp (bg he));exact⟨q,hq,rfl⟩
theorem AO{Q:jv->ab->Prop}{R:Nat->bU->Prop}{Z:Nat->Prop}(hu:A.units<cLine)(T:Tb t m n)(hm:m % 2=1)(hf:t.fits es.size=true)(l:Eh prog w s.heap L es)(t2:TK prog w s.heap k2 a2)
  (ho:s.heap.get? S=some o) (hd:o.data=.set es ep t) (hZ:∀j,Z j->Q (.free j false) s) (hT:k2∈L.map bG->Q (.there none) s)
  (step:∀f p,p.dummy=none->R f p->f<=10 * bp m->(∃j,cO t (λi=>(es[i]?.map (·.1)).getD 0) h (10 * bp m) p=some (.empty j none)/\Z j)\/∃j i next f',f'<f/\t.slot j=.live i/\t.place[i]?=some j/\
   cO t (λi=>(es[i]?.map (·.1)).getD 0) h (10 * bp m) p=some (.candidate j i next)/\next.dummy=none/\((∃q∈L,es[i]?=some (hkE prog w q)/\q.1=k2)\/R f' next)):∀(fuel f:Nat) (st:Option bU),f<fuel->f<=10 * bp m->(st.getD (t.probeStart h)).dummy=none->R f (st.getD (t.probeStart h))->
   ae (model prog w) A (setSearchFrom S (.ref a2) h true fuel st) Q E s
 |0,f,st,hl,_,_,_=>ai hl (by omega)
 |fuel+1,f,st,hl,hg,hdm,he=>by
  have sz:es.size=n:=by unfold dO at hf;rw[aE,beq_iff_eq,T.pl]at hf;exact hf.1.symm
  unfold setSearchFrom;refine af (bR ho hd hf ?_);dsimp only;rw[ag (by unfold SetTable.gaveWay;rw[T.mask,hm];decide)];unfold SetTable.probe;rw[QO (F':=λi=>(es[i]?.map (·.1)).getD 0),T.mask]
  rotate_left
  ·intro i;rfl
  rcases step f _ hdm he hg with ⟨j,e2,z⟩|⟨j,i,nx,f',h1,h2,h3,h5,h6,h7⟩
  ·rw[e2];exact ao (hZ j z)
  ·rw[h5];dsimp only;have hi:i<es.size:=by rw[sz,<- T.pl];exact(fW.mp h3).1
   obtain⟨q,hq,ey,c⟩:∃q∈L,es[i]?=some (hkE prog w q)/\(q.1=k2\/R f' nx):=by
    rcases h7 with ⟨q,hq,e,k⟩|h7
    ·exact⟨q,hq,e,.inl k⟩
    ·obtain⟨q,hq,e⟩:=l.at (cH hi);exact⟨q,hq,by rw[<-e,cH hi],.inr h7⟩
   have t1:=l.tk q hq;have si:t.sameMemory t.moves m=some true:=by unfold SetTable.sameMemory;simp
   have sb:∀v∈List.map (λx:Int×aa=>x.snd) (Array.filter (λx=>x.fst==h) es).toList,∃k a,v=Value.ref a/\TK prog w s.heap k a:=λv hv=>by
    obtain⟨e,he,rfl⟩:=bD.mp hv;have he:e∈es.toList:=by rw[Array.toList_filter]at he;exact(fG.mp he).1
    obtain⟨q,hq,rfl⟩:=bD.mp (l.p.mem_iff.mp he);exact⟨q.1,q.2,rfl,l.tk q hq⟩
   cases hb:t.led;refine af (Kn sb t2 ?_)
   all_goals
    rw[ey];refine af (bz (wpAny_eqBool_tuple hu t1 t2 ?_));refine af (bR ho hd hf ?_);by_cases hk:q.1=k2
    ·rw[bj hk];exact ao (hT (bD.mpr ⟨q,hq,hk⟩))
    rw[aY hk];dsimp only;rw[ag (by decide),si];dsimp only;rw[ah rfl,h2];dsimp only;rw[ey];refine af (wpAny_isSame_ref_self ?_);refine af (ao ?_);exact AO hu T hm hf l t2 ho hd hZ hT step fuel f' (some nx) (by omega) (by omega) h6 (c.resolve_left hk)
def MQ(m:Nat)(t:aP)(es:Array (Int×aa)):Prop:=∀(i:Nat) (e:Int×aa) (j:Nat),es[i]?=some e->t.place[i]?=some j->Wy m (Oc t) j (10 * bp m) ((tM m).probeStart e.1)
theorem Kr{Q:jv->ab->Prop}(hu:A.units<cLine)(T:Tu t m n)(hm:m % 2=1/\10 * bp m<100000)(hf:t.fits es.size=true)(l:Eh prog w s.heap L es)(W:MQ m t es)(t2:TK prog w s.heap k2 a2)(ho:s.heap.get? S=some o)(hd:o.data=.set es ep t)
  (he:k2∈L.map bG) (hT:Q (.there none) s):ae (model prog w) A (setSearchFrom S (.ref a2) (tupleKeyHash (oF prog w) k2) true 100000 none) Q E s:=by
 obtain⟨q,hq,rfl⟩:=bD.mp he;obtain⟨i0,hi,e0⟩:=c5.mp (l.p.mem_iff.mpr (j6 (f:=hkE prog w) hq));have e0:es[i0]?=some (hkE prog w q):=by rw[<-bu,aJ hi,e0]
 have sz:es.size=t.place.size:=by unfold dO at hf;rw[aE,beq_iff_eq]at hf;exact hf.1.symm
 rw[bc]at hi;have p0:t.place[i0]?=some t.place[i0]:=cH (by omega);refine AO (Z:=λ_=>False) (R:=λf p=>Wy m (Oc t) t.place[i0] f p) hu T.toTb hm.1 hf l t2 ho hd (λj z=>z.elim) (λ_=>hT) (λf p hdm wy hg=>.inr ?_) 100000 _ none hm.2 (ay _) rfl (by
  rw[gu,Nt T.toTb];exact W i0 _ _ e0 p0)
 obtain⟨j,i,nx,f',h1,h2,h3,h4,h5,h6,h7⟩:=Nu T (λi=>(es[i]?.map (·.1)).getD 0) (tupleKeyHash (oF prog w) q.1) p0 (by show (es[i0]?.map (·.1)).getD 0=_;rw[e0];rfl) f p hdm wy _ hg
 refine⟨j,i,nx,f',h1,h2,h3,h5,h6,?_⟩;rcases h7 with rfl|h7
 ·exact .inl ⟨q,hq,e0,rfl⟩
 ·exact .inr h7
theorem Ks{Q:jv->ab->Prop}(hu:A.units<cLine)(T:Tu t m n)(hm:m % 2=1/\10 * bp m<100000)(hf:t.fits es.size=true)(l:Eh prog w s.heap L es)(t2:TK prog w s.heap k2 a2)(ho:s.heap.get? S=some o)(hd:o.data=.set es ep t)
  (he:k2∉L.map bG) (em:Emp t (10 * bp m) (t.probeStart h)) (hZ:∀j,t.slot j=.empty->Wy m (Oc t) j (10 * bp m) ((tM m).probeStart h)->Q (.free j false) s):ae (model prog w) A (setSearchFrom S (.ref a2) h true 100000 none) Q E s:=by
 refine AO (Z:=λj=>t.slot j=.empty/\Wy m (Oc t) j (10 * bp m) ((tM m).probeStart h)) (R:=λf p=>Emp t f p/\∀x,Wy m (Oc t) x f p->Wy m (Oc t) x (10 * bp m) ((tM m).probeStart h)) hu T.toTb hm.1 hf l t2 ho hd (λj z=>hZ j z.1 z.2) (λz=>ai z he) (λf p hdm wy hg=>?_) 100000 _ none hm.2 (ay _) rfl ⟨em,λx w=>by
  rw[gu,Nt T.toTb]at w;exact w⟩
 rcases Nv T (λi=>(es[i]?.map (·.1)).getD 0) h f p hdm wy.1 _ hg with ⟨j,h1,h2,h3⟩|⟨j,i',nx,f',h1,h2,h3,h4,h5,h6,h7,h8⟩
 ·exact .inl ⟨j,h2,h1,wy.2 j h3⟩
 ·exact .inr ⟨j,i',nx,f',h1,h2,h3,h5,h6,.inr ⟨h7,λx z=>wy.2 x (h8 x z)⟩⟩
end
def Mm(m:Nat):Prop:=m=7\/m=31\/m=127
def QS(m:Nat):Nat->Nat->Nat->Nat
 |0,_,z=>z
 |k+1,i,z=>QS m k ((i * 5+1) % (m+1)) (z|||2 ^ i)
theorem GK{m r:Nat}:∀(k i z:Nat),(QS m k i z).testBit r=true->r∈orb m k i\/z.testBit r=true
 |0,i,z,h=>.inr h
 |k+1,i,z,h=>by
  rcases GK k _ _ h with h|h
  ·exact .inl (aG _ h)
  ·rw[Nat.testBit_or,Nat.testBit_two_pow,iJ,aX]at h;rcases h with h|rfl
   ·exact .inr h
   ·exact .inl aH
theorem Kt{m:Nat}(hm:Mm m){r:Nat}(hi:i<=m)(hr:r<=m):r∈orb m (m+1) i:=by
 have h:∀m∈[7,31,127],((aL (m+1)).all λi=>QS m (m+1) i 0==2 ^ (m+1) - 1)=true:=by decide +kernel
 have:=aS.mp (h m (by rcases hm with rfl|rfl|rfl<;>simp)) i (bh.mpr (by omega));refine(GK (m+1) i 0 ?_).resolve_right (by simp);rw[eT this,Nat.testBit_two_pow_sub_one,aX];omega
theorem Mm.odd{m:Nat}(h:Mm m):m % 2=1/\10 * bp m<100000:=by rcases h with rfl|rfl|rfl<;>decide
variable{led:Bool}
section
variable{t:aP}{m n:Nat}
theorem Emp.al(T:Tb t m n)(hm:Mm m)(hn:n<=m):∀(k i q:Nat),i<=m->q<32 ^ k->Emp t (10 * (k+(m+1))) (rs m i q)
 |0,i,q,hi,hq=>by
  obtain⟨r,hr,e⟩:=T.free hn;have q0:q=0:=by simpa using hq
  rw[q0,iZ];exact Emp.orb T e _ _ (Kt hm hi hr)
 |k+1,i,q,hi,hq=>by have:=Emp.leap T (Emp.al T hm hn k ((i * 5+1+q / 32) % (m+1)) (q / 32) (dA (di _ (cU m))) (by rw[l4]at hq;omega));exact this.mono (by omega)
theorem GL(h:Int):bA h<32 ^ 13:=by unfold bA;omega
theorem Emp.st(T:Tb t m n)(hm:Mm m)(hn:n<=m)(h:Int):Emp t (10 * bp m) (t.probeStart h):=by
 have:=Emp.al T hm hn 13 (bA h % (m+1)) (bA h) (dA (di _ (cU m))) (GL h);have e:t.probeStart h=rs m (bA h % (m+1)) (bA h):=by unfold SetTable.probeStart;rw[T.mask];rfl
 rw[e];exact this.mono (by unfold bp;omega)
variable{ow:Array (Option Nat)}{O:Nat->Prop}{j:Nat}
theorem Ku{i q:Nat}:∀(k mo x:Nat),k<=mo->(∀k',k'<k->O (x+k'))->x+k=j->Wy m O j (k+1) ⟨x,mo,i,q,none⟩
 |0,mo,x,_,_,e=>.inl e
 |k+1,0,x,h,_,_=>ai h (by omega)
 |k+1,mo+1,x,h,ho,e=>.inr ⟨ho 0 (by omega),by
   have e1:(tM m).advance ⟨x,mo+1,i,q,none⟩=⟨x+1,mo,i,q,none⟩:=by unfold eC;rw[ah (cU mo)];rfl
   rw[e1];exact Ku k mo (x+1) (by omega) (λk' hk=>by rw[show x+1+k'=x+(k'+1) by omega];exact ho _ (by omega)) (by omega)⟩
theorem GN{i q f:Nat}(h:Wy m O j f (rs m ((i * 5+1+q / 32) % (m+1)) (q / 32))):∀(mo x:Nat),(∀k,k<=mo->O (x+k))->Wy m O j (f+mo+1) ⟨x,mo,i,q,none⟩
 |0,x,ho=>.inr ⟨ho 0 (ay _),by
   have e:(tM m).advance ⟨x,0,i,q,none⟩=rs m ((i * 5+1+q / 32) % (m+1)) (q / 32):=by unfold eC lQ;rfl
   rw[e];exact h⟩
 |mo+1,x,ho=>.inr ⟨ho 0 (by omega),by
   have e1:(tM m).advance ⟨x,mo+1,i,q,none⟩=⟨x+1,mo,i,q,none⟩:=by unfold eC;rw[ah (cU mo)];rfl
   rw[e1];exact GN h mo (x+1) λk hk=>by rw[show x+1+k=x+(k+1) by omega];exact ho _ (by omega)⟩
abbrev Oo(m:Nat)(ow:Array (Option Nat))(x:Nat):Prop:=x<=m/\¬Nn ow x
theorem Nw(hi:i<=m):i<=bC m i/\bC m i<=m/\bC m i<=i+9:=by unfold bC;split<;>omega
theorem Dw{f q:Nat}(hi:i<=m):(∃k,k<=bC m i - i/\Nn ow (i+k)/\(∀k',k'<k->¬Nn ow (i+k'))/\cj m ow (f+1) i q=some (i+k))\/
  ((∀k,k<=bC m i - i->¬Nn ow (i+k))/\cj m ow (f+1) i q=cj m ow f ((i * 5+1+q / 32) % (m+1)) (q / 32)):=by
 have ef:cj m ow (f+1) i q=match (aL (bC m i+1 - i)).find? λk=>(ow.getD (i+k) (some 0)).isNone with
  |some k=>some (i+k)
  |none=>cj m ow f ((i * 5+1+q / 32) % (m+1)) (q / 32):=rfl
 have rm:=Nw hi;rw[ef];cases e:(aL (bC m i+1 - i)).find? λk=>(ow.getD (i+k) (some 0)).isNone with
 |some k=>
  obtain⟨h1,a,b,h2,h3⟩:=List.find?_eq_some_iff_append.mp e;have hl:a.length=k/\∀x,x<k->x∈a:=by
   have ek:(aL (bC m i+1 - i))[a.length]?=some k:=by rw[h2];simp
   obtain⟨z1,z2⟩:=bb.mp ek;rw[List.getElem_range]at z2;refine⟨z2,λx hx=>?_⟩;have ex:(aL (bC m i+1 - i))[x]?=some x:=by rw[ia];rw[b8]at z1;omega
   rw[h2,cG (by omega)]at ex;exact bg ex
  have hk:k∈aL (bC m i+1 - i):=jD e;rw[bh]at hk;have h5:∀k',k'<k->¬Nn ow (i+k'):=λk' hk' z=>by have:=h3 k' (hl.2 k' hk');unfold Nn at z;rw[z]at this;cases this
  exact .inl ⟨k,by omega,h1,h5,rfl⟩
 |none=>refine .inr ⟨λk hk h=>?_,rfl⟩;have:=List.find?_eq_none.mp e k (bh.mpr (by omega));exact this h
theorem B7{r:Nat}(hr:Nn ow r):∀(k f i:Nat),k<=f->i<=m->r∈orb m k i->∃j,cj m ow f i 0=some j
 |0,f,i,_,_,h=>by cases h
 |k+1,0,i,hf,_,_=>ai hf (by omega)
 |k+1,f+1,i,hf,hi,h=>by
  rcases Dw (ow:=ow) (f:=f) (q:=0) hi with ⟨k',_,_,_,e⟩|⟨h1,h2⟩
  ·exact⟨_,e⟩
  ·rcases aF.mp h with e|h
   ·exact ai (e▸hr) (h1 0 (ba _))
   ·rw[h2];exact B7 hr k f _ (by omega) (dA (di _ (cU m))) h
theorem GO(hm:Mm m){r:Nat}(hr:Nn ow r)(h32:r<=m):∀(k f i q:Nat),k+(m+1)<=f->i<=m->q<32 ^ k->∃j,cj m ow f i q=some j
 |0,f,i,q,hf,hi,hq=>by
  have q0:q=0:=by simpa using hq
  rw[q0];exact B7 hr (m+1) f i (by omega) hi (Kt hm hi h32)
 |k+1,0,i,q,hf,_,_=>ai hf (by omega)
 |k+1,f+1,i,q,hf,hi,hq=>by
  rcases Dw (ow:=ow) (f:=f) (q:=q) hi with ⟨k',_,_,_,e⟩|⟨_,h2⟩
  ·exact⟨_,e⟩
  ·rw[h2];exact GO hm hr h32 k f _ _ (by omega) (dA (di _ (cU m))) (by rw[l4]at hq;omega)
theorem GP:∀(f i q:Nat),i<=m->cj m ow f i q=some j->Nn ow j/\Wy m (Oo m ow) j (10 * f) (rs m i q)
 |0,i,q,_,e=>by cases e
 |f+1,i,q,hi,e=>by
  have rm:=Nw hi;rcases Dw (ow:=ow) (f:=f) (q:=q) hi with ⟨k,h1,h2,h3,h4⟩|⟨h1,h2⟩
  ·rw[h4]at e;cases e;exact⟨h2,(Ku k _ i h1 (λk' hk=>⟨by omega,h3 k' hk⟩) rfl).mono (λ_ h=>h) (by omega)⟩
  ·rw[h2]at e;obtain⟨h3,h4⟩:=GP f _ _ (dA (di _ (cU m))) e;exact⟨h3,(GN h4 (bC m i - i) i λk hk=>⟨by omega,h1 k hk⟩).mono (λ_ h=>h) (by omega)⟩
def lvm(m:Nat)(ow:Array (Option Nat)):List (Nat×Nat):=(aL (m+1)).filterMap λj=>(ow.getD j none).map (j,·)
theorem QT(hs:ow.size=m+1){j:Nat}(h:Nn ow j):j<m+1/\ow.getD j none=none:=by
 unfold Nn at h;by_cases hj:j<ow.size
 ·refine⟨by omega,?_⟩;rw[dt,cH hj]at h ⊢;simpa using h
 ·rw[dt,Array.getElem?_eq_none (by omega)]at h;cases h
theorem Kv(hs:ow.size=m+1){j:Nat}(hj:j<=m)(e:ow.getD j none=none):Nn ow j:=by unfold Nn;rw[dt,cH (by omega)]at e ⊢;simpa using e
theorem GQ{k:Nat}(hj:j<ow.size)(i:Nat):(ow.setIfInBounds j (some k)).getD i none=if i=j then some k else ow.getD i none:=by
 rw[dt,dt,Array.getElem?_setIfInBounds];by_cases hi:j=i
 ·subst hi;rw[ah rfl,ah (by omega),ah rfl];rfl
 ·rw[ag hi,ag (λe=>hi e.symm)]
theorem MR(hs:ow.size=m+1){k:Nat}(h:Nn ow j):(lvm m (ow.setIfInBounds j (some k))).Perm ((j,k)::lvm m ow):=by
 obtain⟨hj,e⟩:=QT hs h;have get:=GQ (ow:=ow) (k:=k) (j:=j) (by omega);obtain⟨a,b,sp⟩:=List.append_of_mem (bh.mpr hj);have nd:(aL (m+1)).Nodup:=kN;rw[sp,gp,eK]at nd;unfold lvm;rw[sp,jS,jS,bZ,bZ,get j,ah rfl,e];have eq:∀l:List Nat,j∉l->l.filterMap (λi=>((ow.setIfInBounds j (some k)).getD i none).map (i,·))=l.filterMap λi=>(ow.getD i none).map (i,·):=λl hl=>by
  induction l with
  |nil=>rfl
  |cons i l ih=>rw[bZ,bZ,ih λz=>hl (aG _ z),get i,ag λe=>hl (by rw[<-e];exact aH)]
 rw[eq a λz=>nd.2.2 j z j aH rfl,eq b nd.2.1.1];exact List.perm_middle
theorem Kw(hs:ow.size=m+1)(hl:(lvm m ow).length<=m):∃r,r<=m/\Nn ow r:=by
 apply jC;intro no;have:∀l:List Nat,(∀j∈l,j<=m)->(l.filterMap λj=>(ow.getD j none).map (j,·)).length=l.length:=λl hl=>by
  induction l with
  |nil=>rfl
  |cons j l ih=>
   have hj:=hl j aH;cases e:ow.getD j none with
   |none=>exact ai ⟨j,hj,Kv hs hj e⟩ no
   |some x=>rw[bZ,e];show (List.filterMap _ l).length+1=l.length+1;rw[ih λz hz=>hl z (aG _ hz)]
 have:=this (aL (m+1)) λj hj=>by have:=bh.mp hj;omega
 unfold lvm at hl;rw[this,b8]at hl;omega
def Lw(m:Nat)(ow:Array (Option Nat))(hs:List Int):Prop:=∀j k,j<=m->ow.getD j none=some k->∃h,hs[k]?=some h/\Wy m (Oo m ow) j (10 * bp m) ((tM m).probeStart h)
theorem Nx(hm:Mm m):∀(hs pre:List Int) (ow:Array (Option Nat)),ow.size=m+1->((lvm m ow).map bw).Perm (aL pre.length)->Lw m ow pre->pre.length+hs.length<=m->∃ow',ow'.size=m+1/\((lvm m ow').map bw).Perm (aL (pre.length+hs.length))/\Lw m ow' (pre++hs)/\
  (hs.foldl (λacc h=>do
   let (owner,k)<-acc;let j<-cj m owner (bp m) (bA h % (m+1)) (bA h)
   pure (owner.setIfInBounds j (some k),k+1)) (some (ow,pre.length)))=some (ow',pre.length+hs.length)
 |[],pre,ow,h1,h2,h4,_=>⟨ow,h1,h2,by rw[bI];exact h4,rfl⟩
 |h::hs,pre,ow,h1,h2,h4,h3=>by
  rw[aI]at h3;have ll:=h2.length_eq;rw[aw,b8]at ll;obtain⟨r,hr,nr⟩:=Kw h1 (by omega);have mo:bA h % (m+1)<=m:=dA (di _ (cU m));obtain⟨j,ej⟩:=GO hm nr hr 13 (bp m) (bA h % (m+1)) (bA h) (by unfold bp;omega) mo (GL h);obtain⟨nj,wj⟩:=GP _ _ _ mo ej;have jl:=(QT h1 nj).1;have get:=GQ (ow:=ow) (k:=pre.length) (j:=j) (by omega);have up:∀x,Oo m ow x->Oo m (ow.setIfInBounds j (some pre.length)) x:=λx hx=>⟨hx.1,λz=>by
   have:=(QT (m:=m) (by rw[jF];exact h1) z).2;rw[get x]at this;split at this
   ·cases this
   ·exact hx.2 (Kv h1 hx.1 this)⟩
  obtain⟨ow',q1,q2,q4,q3⟩:=Nx hm hs (pre++[h]) (ow.setIfInBounds j (some pre.length)) (by rw[jF];exact h1) (by
   refine((MR h1 nj).map bw).trans ?_;rw[aW,aM,ck,List.range_succ];exact((List.Perm.cons _ h2).trans (gX _ _).symm)) (λx k hx e=>by
    rw[get x]at e;split at e
    ·rename_i ex;cases e;subst ex;exact⟨h,by rw[cZ (ay _),gA];rfl,wj.mono up (ay _)⟩
    ·obtain⟨h',e1,w⟩:=h4 x k hx e;exact⟨h',by rw[cG (bb.mp e1).1];exact e1,w.mono up (ay _)⟩) (by rw[aM,ck];omega)
  rw[aM,ck]at q2 q3;refine⟨ow',q1,by rw[aI,show pre.length+(hs.length+1)=pre.length+1+hs.length by omega];exact q2,by rw[cN]at q4;exact q4,?_⟩;rw[eL,aI,show pre.length+(hs.length+1)=pre.length+1+hs.length by omega,<- q3];congr 1;show (cj m ow (bp m) (bA h % (m+1)) (bA h)).bind _=_;rw[ej];rfl
theorem QU{fg mv:Nat}{pl:Bool}(hm:Mm m)(hs:Array Int)(hn:hs.size<=m):∃t order,lU m fg mv led pl hs=some (t,order)/\Tu t m hs.size/\t.led=led/\t.plain=pl/\order.toList.Perm (aL hs.size)/\
  ∀(i j k:Nat),t.place[i]?=some j->order[i]?=some k->∃h,hs[k]?=some h/\Wy m (Oc t) j (10 * bp m) ((tM m).probeStart h):=by
 have no:∀j,(iN (m+1) (none:Option Nat)).getD j none=none:=λj=>by rw[dt,Array.getElem?_replicate];split<;>rfl
 obtain⟨ow,h1,h2,h4,h3⟩:=Nx hm hs.toList [] (iN (m+1) none) (by simp) (by
  have:lvm m (iN (m+1) none)=[]:=by unfold lvm;rw[List.filterMap_eq_nil_iff];intro j hj;rw[no j];rfl
  rw[this];exact .nil) (λj k _ e=>by rw[no j]at e;cases e) (by rw[bc];simpa using hn)
 rw[dF,iZ,bc]at h2 h3;have e:kA m hs=some ow:=by unfold kA;rw[<-Array.foldl_toList];exact bf (mn bG) h3
 have mem:∀q∈lvm m ow,q.1<=m/\ow.getD q.1 none=some q.2:=λq hq=>by
  unfold lvm at hq;obtain⟨j,hj,e⟩:=fq.mp hq;cases e2:ow.getD j none with
  |none=>rw[e2]at e;cases e
  |some x=>rw[e2]at e;cases e;exact⟨dA (bh.mp hj),e2⟩
 refine⟨⟨m,((lvm m ow).map (·.1)).toArray,#[],fg,led,mv,pl⟩,((lvm m ow).map (·.2)).toArray,by unfold lU;rw[e];rfl,⟨⟨rfl,rfl,?_⟩,?_⟩,rfl,rfl,h2,λi j k ej ek=>?_⟩
 ·have:=h2.length_eq;rw[aw,b8]at this;rw[aK,aw,this]
 ·show List.Pairwise _ ((lvm m ow).map (·.1))
  have sub:∀l:List Nat,((l.filterMap λj=>(ow.getD j none).map (j,·)).map (·.1)).Sublist l:=λl=>by
   induction l with
   |nil=>exact .slnil
   |cons x l ih=>
    rw[bZ];cases ow.getD x none with
    |none=>exact ih.cons x
    |some y=>exact ih.cons_cons x
  exact nq (sub _) List.pairwise_lt_range
 ·rw[f6,aV]at ej ek;obtain⟨q,e1,rfl⟩:=hE.mp ej;rw[e1]at ek;cases ek;obtain⟨m1,m2⟩:=mem q (bg e1);obtain⟨h,g1,g2⟩:=h4 q.1 q.2 m1 m2;refine⟨h,by rw[dG,bu]at g1;exact g1,g2.mono (λx hx=>?_) (ay _)⟩;show x∈(lvm m ow).map (·.1)
  cases e2:ow.getD x none with
  |none=>exact ai (Kv h1 hx.1 e2) hx.2
  |some y=>exact bD.mpr ⟨(x,y),fq.mpr ⟨x,bh.mpr (by have:=hx.1;omega),by rw[e2];rfl⟩,rfl⟩
end
theorem Ny{α β:Type}(f:α->Option β):∀(l:List α),(∀k∈l,∃e,f k=some e)->∀i:Nat,(l.filterMap f)[i]?=l[i]?.bind f
 |[],_,i=>rfl
 |a::l,h,i=>by
  obtain⟨e,ea⟩:=h a aH;rw[bZ,ea];cases i with
  |zero=>exact ea.symm
  |succ i=>exact Ny f l (λk hk=>h k (aG _ hk)) i
section
variable{prog:aq}{w:aj}{A:ar}{E:aa->ab->Prop}{s:ab}{L:List (List Key×Addr)}{es:Array (Int×aa)}{t:aP}{m n ep:Nat}{S a2:Addr}{k2:List Key}{o:Obj}{h:Int}
theorem MS{Q:Unit->ab->Prop}(hc:(t.mask=7/\es.size=5/\m=31)\/(t.mask=31/\es.size=19/\m=127))(ho:s.heap.get? S=some o)(hd:o.data=.set es ep t)(hf:t.fits es.size=true)
  (hQ:∀h' es' t',de S s.heap h'->h'.get? S=some { o with data:=.set es' (ep+1) t' }->Tu t' m es.size->MQ m t' es'->t'.led=t.led->t'.plain=t.plain->es'.toList.Perm es.toList->Q () { s with heap:=h' }):ae (model prog w) A (setRelay S (fK es.size)) Q E s:=by
 have hm:Mm m:=by unfold Mm;omega
 have hg:kn (fK es.size) - 1=m/\¬kn (fK es.size) > 1000:=by rcases hc with ⟨_,e,rfl⟩|⟨_,e,rfl⟩<;>rw[e]<;>decide
 unfold setRelay;refine af (bR ho hd hf ?_);dsimp only;rw[ag (by rw[aZ];omega)];obtain⟨t',order,e1,T,e2,e3,e4,e5⟩:=QU (fg:=t.finger) (mv:=t.movedTo m) (led:=t.led) (pl:=t.plain) hm (es.map (·.1)) (by rw[lD];omega)
 rw[lD]at T e4;have all:∀k∈order.toList,∃e,es[k]?=some e:=λk hk=>⟨es[k]'(bh.mp (e4.mem_iff.mp hk)),cH _⟩;have hp:(order.filterMap (es[·]?)).toList.Perm es.toList:=by rw[jL];exact(e4.filterMap _).trans (by rw[gZ])
 have er:t.relaid (es.map (·.1)) (fK es.size)=some (t',order):=by unfold SetTable.relaid;rw[hg.1];exact e1
 rw[er];have sz:(order.filterMap (es[·]?)).size=es.size:=by have:=hp.length_eq;rw[bc,bc]at this;exact this
 refine af ?_;wp_delta;dsimp only;rw[ag (by rw[sz];simp)];refine ao ?_;refine iz ho hd ?_ (by show (order.filterMap (es[·]?)).size<=av;rw[sz,aZ];omega)
 refine hQ _ _ _ (cm ..) (Fu ho hd) T (λi e j he hj=>?_) e2 e3 hp;rw[<-bu,jL,Ny _ _ all]at he;obtain⟨k,ek,he⟩:=Option.bind_eq_some_iff.mp he;rw[bu]at ek;obtain⟨h,eh,w⟩:=e5 i j k hj ek;rw[Array.getElem?_map,he]at eh;cases eh;exact w
def Cw(m n:Nat)(t:aP)(es:Array (Int×aa)):Prop:=Tu t m n/\Cz2 m n/\MQ m t es
theorem Td{x:Str}{Q:Bool->ab->Prop}(hu:A.units<cLine)(C:Cw m n t es)(h60:n<63)(hf:t.fits es.size=true)(l:Eh prog w s.heap L es)(t2:TK prog w s.heap (Sum.inr x::k2) a2)
  (ho:s.heap.get? S=some o) (hd:o.data=.set es ep t) (hT:(Sum.inr x::k2)∈L.map bG->Q false s)
  (hQ:(Sum.inr x::k2)∉L.map bG->∀h' es' t' ep' m',de S s.heap h'->h'.get? S=some { o with data:=.set es' ep' t' }->Cw m' (n+1) t' es'->t'.led=t.led->t'.plain=false->es'.toList.Perm ((tupleKeyHash (oF prog w) (Sum.inr x::k2),.ref a2)::es.toList)->Q true { s with heap:=h' }):
  ae (model prog w) A (setAddHashed S (.ref a2) (tupleKeyHash (oF prog w) (Sum.inr x::k2))) Q E s:=by
 obtain⟨T,hc,W⟩:=C;have hm:Mm m:=by unfold Cz2 at hc;unfold Mm;omega
 have sz:es.size=n:=by unfold dO at hf;rw[aE,beq_iff_eq,T.pl]at hf;exact hf.1.symm
 unfold setAddHashed setAddHashedIn;refine bz (af (bR ho hd hf ?_));dsimp only;rw[ag (by simp[byScan,kY])];have nm:n<=m:=by unfold Cz2 at hc;omega
 by_cases ne:(Sum.inr x::k2)∈L.map bG
 ·refine af (Kr hu T hm.odd hf l W t2 ho hd ne ?_);exact ao (hT ne)
 generalize hh:tupleKeyHash (oF prog w) (Sum.inr x::k2)=h at hQ ⊢;refine af (Ks hu T hm.odd hf l t2 ho hd ne (Emp.st T.toTb hm nm h) λj hj wj=>?_);dsimp only;refine af (bR ho hd hf ?_);dsimp only;have p1:(t.put j).1.mask=m:=T.mask;have p2:(t.put j).1.dummies=#[]:=by show (if ja t.dummies j then _ else t.dummies)=_;rw[T.dm];rfl
 have bl:=(AN T.up j).1;have p3:(t.put j).1.place.size=n+1:=by have:=(hJ t.place (aR t.place j) j).length_eq;rw[bc,bc,Array.size_push,T.pl]at this;exact this
 have p4:(bE es (t.put j).2 (h,Value.ref a2)).toList.Perm ((h,.ref a2)::es.toList):=by refine(hJ es _ _).trans ?_;rw[iw];exact gX _ _
 have p5:(bE es (t.put j).2 (h,Value.ref a2)).size=n+1:=by have:=p4.length_eq;rw[bc,aI,bc,sz]at this;exact this
 let t1:aP:={ (t.put j).1 with plain:=false };have T1:Tu t1 m (n+1):=⟨⟨p1,p2,p3⟩,QQ T.up (T.emp hj)⟩;have up:∀x,Oc t x->Oc t1 x:=λx hx=>by show x∈(bE t.place (aR t.place j) j).toList;rw[(hJ _ _ _).mem_iff,iw];exact f9 _ hx
 have W1:MQ m t1 (bE es (t.put j).2 (h,Value.ref a2)):=λi e r he hr=>by
  have he:(bE es (aR t.place j) (h,Value.ref a2))[i]?=some e:=he;have hr:(bE t.place (aR t.place j) j)[i]?=some r:=hr;rw[sI _ (by rw[sz,<- T.pl];exact bl)]at he;rw[sI _ bl]at hr;by_cases c1:i<aR t.place j
  ·rw[ah c1]at he hr;exact(W i e r he hr).mono up (ay _)
  ·rw[ag c1]at he hr;by_cases c2:i=aR t.place j
   ·rw[ah c2]at he hr;cases he;cases hr;exact wj.mono up (ay _)
   ·rw[ag c2]at he hr;exact(W (i - 1) e r he hr).mono up (ay _)
 have f1:t1.fits (bE es (t.put j).2 (h,Value.ref a2)).size=true:=by unfold dO gy;rw[p5,T1.pl,T1.dm,T1.mask,aE];exact⟨by simp,bj (by unfold Cz2 at hc;simp;omega)⟩
 have fin:∀t0:aP,t0=t1->ae (model prog w) A (do
   storeSet S (bE es (t.put j).2 (h,.ref a2)) t0
   if (!false&&t0.tooFull)=true then do setRelay S (fK (es.size+1));pure true else pure true) Q E s:=λt0 e=>by
  subst e;refine af (iz ho hd ?_ (by rw[p5,aZ];omega));have g1:=Fu (es':=bE es (t.put j).2 (h,Value.ref a2)) (t':=t1) ho hd;have tf:t1.tooFull=decide ((n+1) * 5 >= m * 3):=by unfold SetTable.tooFull gy;rw[T1.pl,T1.dm,T1.mask];rfl
  rw[tf];by_cases h5:(n+1) * 5 >= m * 3
  ·rw[bj h5,ah (by decide),sz,<- p5];obtain⟨m',hm'⟩:∃m',(t1.mask=7/\n+1=5/\m'=31)\/(t1.mask=31/\n+1=19/\m'=127):=by
    rw[T1.mask];unfold Cz2 at hc;by_cases z:m=7
    ·exact⟨31,.inl (by omega)⟩
    ·exact⟨127,.inr (by omega)⟩
   refine af (MS (m:=m') (s:={ s with heap:=s.heap.update S (jr (bE es (t.put j).2 (h,.ref a2)) t1) }) (by rw[p5];exact hm') g1 rfl f1 λh' es' t' b1 b2 b3 b3' b4 b5 b6=>?_);rw[p5]at b3;exact ao (hQ ne h' es' t' _ m' ((cm ..).trans b1) b2 ⟨b3,by unfold Cz2;omega,b3'⟩ b4 b5 (b6.trans p4))
  ·rw[aY h5,ag (by decide)];exact ao (hQ ne _ _ _ _ m (cm ..) g1 ⟨T1,by unfold Cz2 at hc ⊢;omega,W1⟩ rfl rfl p4)
 split
 ·refine af (Ko t2 ?_);exact fin _ rfl
 ·rename_i hp;refine af (ao (fin _ ?_));rw[kM]at hp;rw[ah rfl];show (t.put j).1={ (t.put j).1 with plain:=false };rw[<-hp]
end
section
variable{κ α:Type}[DecidableEq κ]
def ust(acc:List (κ×α))(q:κ×α):List (κ×α):=if q.1∈acc.map bG then acc else acc++[q]
def uqP(l:List (κ×α)):List (κ×α):=l.foldl ust []
theorem Dx(acc:List (κ×α)):∀l:List (κ×α),∃r,l.foldl ust acc=acc++r/\∀q∈r,q∈l
 |[]=>⟨[],(bI _).symm,λq hq=>by cases hq⟩
 |q::l=>by
  obtain⟨r,e,h⟩:=Dx (ust acc q) l;rw[eL,e];unfold ust;split
  ·exact⟨r,rfl,λq hq=>aG _ (h q hq)⟩
  ·refine⟨q::r,by rw[cN];rfl,λx hx=>?_⟩;rcases aF.mp hx with rfl|hx
   ·exact aH
   ·exact aG _ (h x hx)
theorem Kx(l:List (κ×α))(q:κ×α):uqP (l++[q])=ust (uqP l) q:=by unfold uqP;rw[iu];rfl
theorem GR(l:List (κ×α))(i:Nat):(uqP (l.take i)).length<=(uqP l).length:=by
 have e:uqP l=(l.drop i).foldl ust (uqP (l.take i)):=by unfold uqP;rw[<-iu,jR]
 obtain⟨r,h,_⟩:=Dx (uqP (l.take i)) (l.drop i);rw[e,h,aM];omega
theorem MU{l:List (κ×α)}{q:κ×α}(h:q∈uqP l):q∈l:=by obtain⟨r,e,h'⟩:=Dx ([]:List (κ×α)) l;unfold uqP at h;rw[e]at h;exact h' q h
theorem MV{κ':Type}[DecidableEq κ']{g:κ->κ'}(hg:∀a b,g a=g b->a=b)(l:List (κ×α)):uqP (l.map λq=>(g q.1,q.2))=(uqP l).map λq=>(g q.1,q.2):=by
 have:∀(l acc:List (κ×α)),(l.map λq=>(g q.1,q.2)).foldl ust (acc.map λq=>(g q.1,q.2))=(l.foldl ust acc).map λq=>(g q.1,q.2):=λl=>by
  induction l with
  |nil=>intro acc;rfl
  |cons q l ih=>
   intro acc;rw[aW,eL,eL,<- ih];congr 1;unfold ust;have:g q.1∈(acc.map λq=>(g q.1,q.2)).map bG ↔ q.1∈acc.map bG:=by rw[gB,bD,bD];exact⟨λ⟨a,h1,h2⟩=>⟨a,h1,hg _ _ h2⟩,λ⟨a,h1,h2⟩=>⟨a,h1,bf g h2⟩⟩
   by_cases hk:q.1∈acc.map bG
   ·rw[ah hk,ah (this.mpr hk)]
   ·rw[ag hk,ag λz=>hk (this.mp z),cR];rfl
 exact this l []
end
structure MW(prog:aq)(w:aj)(h:Heap)(S:Addr)(L:List (List Key×Addr))(led:Bool)(n:Nat)(o:Obj)(es:Array (Int×aa))(ep:Nat)(t:aP):Prop extends By h S L led n o es ep t where
 cw:∃m,Cw m n t es
 pe:es.toList.Perm (L.map (hkE prog w))
section
variable{prog:aq}{w:aj}{A:ar}{R:cE->ab->Prop}{I:Addr}{fp wr:List Addr}{GG:Array dS->Array dS->Prop}{n:Nat}{PP:Nat->aa->Prop}{SS:Nat->ab->Prop}
theorem Io(W:WalksS prog w A.in1 I fp wr GG n PP SS){S:Addr}(hSf:S∉fp)(hu:A.in1.units<cLine)(L:List (List Key×Addr))(hn:L.length=n)(h8:(uqP L).length<63)(hk:∀q∈L,∃x k,q.1=Sum.inr x::k)(far:∀q∈L,q.2∉S::wr)
  (hval:∀i v,PP i v->∃q,L[i]?=some q/\v=.ref q.2):∀(k i:Nat) (s:ab) (o:Obj) (es:Array (Int×aa)) (ep:Nat) (t:aP),n - i=k->i<=n->SS i s->(∀q∈L,TK prog w s.heap q.1 q.2)->MW prog w s.heap S (uqP (L.take i)) led (uqP (L.take i)).length o es ep t->
   (∀s' o es ep t,Moved (S::wr) GG s s'->MW prog w s'.heap S (uqP L) led (uqP L).length o es ep t->R (.ok (.ret .none)) s')->
   bH (model prog w) A (.builtin "set.update.loop" ⟨[.ref S,.ref I],[]⟩) R s:=by
 have hSw:S∉wr:=λz=>hSf (W.sub _ z);have up:∀b∈wr,b∈S::wr:=λb z=>aG _ z;intro k
 induction k with
 |zero=>
  intro i s o es ep t hk' hi hst tk x hR;obtain rfl:i=n:=by omega
  refine cu dW ?_;rw[cI cg _];show ae _ A.in1 (pyNext (.ref I)>>=_) _ _ s;refine af (W.done s _ _ hst λs' hm=>?_);show ae _ A.in1 (ret Value.none) _ _ s';rw[hG (by omega)]at x;exact ao (hR s' o es ep t (hm.mono up) { x with at_:=hm.heap S _ hSw x.at_ })
 |succ k ih=>
  intro i s o es ep t hk' hi hst tk x hR;have hlt:i<n:=by omega
  refine cu dW ?_;rw[cI cg _];show ae _ A.in1 (pyNext (.ref I)>>=_) _ _ s;refine af (W.item i s _ _ hlt hst λv s' hP hst' hm=>?_);obtain⟨q,eq,rfl⟩:=hval i v hP;have mq:q∈L:=bg eq;have tk':∀q∈L,TK prog w s'.heap q.1 q.2:=λq hq=>(tk q hq).kept λo=>hm.heap q.2 o λz=>far q hq (up _ z);show ae _ A.in1 (holding _ (setAdd S _)>>=_) _ _ s';refine af (bz ?_);unfold setAdd;refine bz ?_;refine af (wpAny_pyHash_tuple hu (tk' q mq) ?_);obtain⟨m,C⟩:=x.cw;obtain⟨z,kk,ez⟩:=hk q mq;have tq:TK prog w s'.heap (Sum.inr z::kk) q.2:=by rw[<-ez];exact tk' q mq
  have split:uqP (L.take (i+1))=ust (uqP (L.take i)) q:=by rw[kx,eq];exact Kx _ _
  have sub:∀r∈uqP (L.take i),r∈L:=λr hr=>(ko _ _).subset (MU hr);have x':MW prog w s'.heap S (uqP (L.take i)) led (uqP (L.take i)).length o es ep t:={ x with at_:=hm.heap S _ hSw x.at_ };have ul:=GR L i;have ul1:=GR L (i+1);rw[ez];refine Td (s:={ s' with toks:=s'.toks+((Sum.inr z::kk:List Key).length+1) }) (L:=uqP (L.take i)) hu C (by omega) (By.fits ⟨x'.at_,x'.ex,x'.d,x'.c,x'.led,x'.pl,x'.p⟩ rfl) ⟨λr hr=>tk' r (sub r hr),x'.pe⟩ tq x'.at_ x'.d (λinn=>?_) λnin h' es' t' ep' m' b1 b2 b3 b5 b6 b7=>?_
  ·rw[<-ez]at inn;have e:uqP (L.take (i+1))=uqP (L.take i):=by rw[split];unfold ust;rw[ah inn]
   refine ao ⟨dN cg _,ih (i+1) _ o es ep t (by omega) hlt (W.frame _ s' s'.heap _ hst' (eE _ _) λb z o e=>e) tk' (by rw[e];exact x') λs'' o2 es2 ep2 t2 hm'' x2=>?_⟩;exact hR s'' o2 es2 ep2 t2 (gG W.gtrans ((hm.mono up).then_heap (eE _ _) λb o z e=>e) hm'') x2
  rw[<-ez]at nin;have e:uqP (L.take (i+1))=uqP (L.take i)++[q]:=by rw[split];unfold ust;rw[ag nin]
  have y:MW prog w h' S (uqP (L.take (i+1))) led (uqP (L.take (i+1))).length { o with data:=.set es' ep' t' } es' ep' t':=by
   have pe:es'.toList.Perm ((uqP (L.take (i+1))).map (hkE prog w)):=by rw[e,cR];refine b7.trans (.trans ?_ (gX _ _).symm);rw[show hkE prog w q=(tupleKeyHash (oF prog w) (Sum.inr z::kk),.ref q.2) by unfold hkE;rw[ez]];exact List.Perm.cons _ x.pe
   have hl:(uqP (L.take (i+1))).length=(uqP (L.take i)).length+1:=by rw[e,aM];rfl
   rw[hl];exact⟨⟨b2,x.ex,rfl,⟨m',b3.1.toTb,b3.2.1⟩,b5.trans x.led,λ_=>b6,by have:=pe.map bw;rw[gB]at this;exact this⟩,⟨m',b3⟩,pe⟩
  refine ao ⟨dN cg _,ih (i+1) _ _ _ _ _ (by omega) hlt (W.frame _ s' h' _ hst' (eE _ _) λb z o e=>?_) (λr hr=>(tk' r hr).kept λo e=>?_) y λs'' o2 es2 ep2 t2 hm'' x2=>?_⟩
  ·rw[b1.2 b (λy:b=S=>hSf (by rw[<-y];exact z))];exact e
  ·rw[b1.2 r.2 (λy:r.2=S=>far r hr (by rw[y];exact aH))];exact e
  ·refine hR s'' o2 es2 ep2 t2 (gG W.gtrans ((hm.mono up).then_heap (eE _ _) λb o z e=>?_) hm'') x2;rw[b1.2 b (λy:b=S=>z (by rw[y];exact aH))];exact e
end
end L4
namespace L4
open PySem PySem.Spec PySem.Calls PyProof.Rows PySem.W L2 L3
variable{led:Bool}{Q:aa->ab->Prop}{a:Addr}
section
variable{X:Cx}{G:Bg}{H:Hp}{pins:List (Addr×Obj)}{σ:St}{s:ab}
theorem NA(L:List (List Str×Addr)):uqP (L.map λq=>(TkS q.1,q.2))=(uqP L).map λq=>(TkS q.1,q.2):=MV (g:=TkS) (λa b h=>(List.map_inj_right λ_ _ h=>l7 h).mp h) L
theorem Ky{prog:aq}{w:aj}{A:ar}{ax:Addr}{its:List aa}{L:List (List Str×Addr)}{itO:Obj}{SS:Nat->Heap->Prop}(hlt:ax<s.heap.objs.size)(ht:∀q∈L,∃p r,q.1=[p,r])(tk:∀q∈L,TK prog w s.heap (TkS q.1) q.2)
  (ev:∀(i:Nat) (v:aa),its[i]?=some v->∃q,L[i]?=some q/\v=.ref q.2) (li:L.length=its.length) (h8:(uqP L).length<63) (hu:A.in1.units<cLine)
  (W:Walks prog w A.in1 (s.heap.objs.size+1) [s.heap.objs.size+1,ax] [s.heap.objs.size+1] its.toArray.size (λi v=>its.toArray[i]?=some v) SS) (st:SS 0 ((s.heap.push (rS led)).push itO)) {R:cE->ab->Prop}
  (hR:∀h2 k2,(∃o es ep t,By h2 s.heap.objs.size ((uqP L).map λq=>(TkS q.1,q.2)) led (uqP L).length o es ep t)->(∀b o,b<s.heap.objs.size->s.heap.get? b=some o->h2.get? b=some o)->R (.ok (.ret .none)) { s with heap:=h2,toks:=k2 }) (tk':Nat):
  bH (model prog w) A (.builtin "set.update.loop" ⟨[.ref s.heap.objs.size,.ref (s.heap.objs.size+1)],[]⟩) R { s with heap:=(s.heap.push (rS led)).push itO,toks:=tk' }:=by
 have notin:s.heap.objs.size∉[s.heap.objs.size+1,ax]:=by
  intro z;rcases aF.mp z with z|z
  ·exact ai z (aD (bS _))
  ·exact ai (aU.mp z) (dQ hlt)
 have ke:∀{b:Addr} {o':Obj},s.heap.get? b=some o'->((s.heap.push (rS led)).push itO).get? b=some o':=λe=>az _ (az _ e);refine Io (S:=s.heap.objs.size) (led:=led) W.toS notin hu (L.map λq=>(TkS q.1,q.2)) (by rw[aw,aK,li]) (by rw[NA,aw];exact h8) ?_ ?_ ?_ (its.toArray.size - 0) 0 _ (rS led) #[] 0 (.fresh 0 0 led) rfl (ba _) st ?_ ?_ λs2 o2 es2 ep2 t2 mv S2=>?_
 ·intro q hq;obtain⟨r,hr,rfl⟩:=bD.mp hq;obtain⟨p,z,e⟩:=ht r hr;exact⟨p,[.inr z],by show TkS r.1=_;rw[e];rfl⟩
 ·intro q hq z;obtain⟨r,hr,rfl⟩:=bD.mp hq;obtain⟨ob,_,_,e,_⟩:=tk r hr;have:=aA e;rcases aF.mp z with z|z
  ·exact ai z (aD this)
  ·exact ai (aU.mp z) (aD (cn this))
 ·intro i v e;rw[f6]at e;obtain⟨q,e1,e2⟩:=ev i v e;exact⟨(TkS q.1,q.2),by rw[aV,e1];rfl,e2⟩
 ·intro q hq;obtain⟨r,hr,rfl⟩:=bD.mp hq;exact(tk r hr).kept λo=>ke
 ·exact⟨⟨az _ (aQ _ rfl),⟨rfl,rfl,rfl⟩,rfl,⟨7,⟨rfl,rfl,rfl⟩,.inl ⟨rfl,ba 4⟩⟩,rfl,λz=>ai z (dH 0),.nil⟩,⟨7,⟨⟨rfl,rfl,rfl⟩,.nil⟩,.inl ⟨rfl,ba 4⟩,λi e j he _=>by cases he⟩,.nil⟩
 ·obtain⟨h2,g2,d2,k2,o2'⟩:=s2;have eg:g2=s.gens:=mv.gens;have ed:d2=s.drawn:=mv.drawn;have eo:o2'=s.os:=mv.os;subst eg ed eo;rw[NA,aw]at S2;refine hR h2 k2 ⟨o2,es2,ep2,t2,⟨S2.at_,S2.ex,S2.d,S2.c,S2.led,S2.pl,S2.p⟩⟩ λb o hb e=>mv.heap b o (λz=>?_) (ke e);rcases aF.mp z with z|z
  ·exact ai z (aD hb)
  ·exact ai (aU.mp z) (aD (cn hb))
theorem Uc{A:ar}{E:aa->ab->Prop}{L:List (List Str×Addr)}(I:Inv X pins σ H s)(hh:A.handled=none)(hu:A.units+8<cLine)(hq:SqL X.K H a (L.map λq=>V.ref q.2)\/SqT X.K H a (L.map λq=>V.ref q.2))(h8:(uqP L).length<63)
  (ht:∀q∈L,∃p r,q.1=[p,r]/\SqT X.K H q.2 [.str p,.str r])
  (h:∀h2 k2 o es ep t,By h2 s.heap.objs.size ((uqP L).map λq=>(TkS q.1,q.2)) (!X.w.params.followText "set-order") (uqP L).length o es ep t->(∀b o,b<s.heap.objs.size->s.heap.get? b=some o->h2.get? b=some o)->Q (.ref s.heap.objs.size) { s with heap:=h2,toks:=k2 }):
  ae (model X.prog X.w) A (call (.type "set") [.ref a]) Q E s:=by
 have h3:A.in1.in1.in1.handled=none:=by simp[hh]
 have h4:A.in1.in1.in1.units<cLine:=by show A.units+1+1+1<cLine;omega
 have tk:∀q∈L,TK X.prog X.w s.heap (TkS q.1) q.2:=λq hq=>by obtain⟨p,r,e,h1⟩:=ht q hq;rw[e];exact SQ (ks:=[.inr p,.inr r]) I h1
 have ev:∀{its:List aa},Vals (L.map λq=>V.ref q.2) its->L.length=its.length/\∀(i:Nat) (v:aa),its[i]?=some v->∃q,L[i]?=some q/\v=.ref q.2:=λ{its} r=>by
  have li:L.length=its.length:=by have:=r.length;rw[aw]at this;exact this
  refine⟨li,λi v e=>?_⟩;have hi:i<L.length:=by rw[li];exact(bb.mp e).1
  obtain⟨u,e2,ru⟩:=r.get (i:=i) (x:=V.ref L[i].2) (by rw[aV,aJ hi];rfl);rw[e]at e2;cases e2;exact⟨L[i],aJ hi,ru⟩
 have it:∀{o:Obj} {led:Bool},o.isFreed=false->((s.heap.push (rS led)).push o).get? (s.heap.objs.size+1)=some o:=λ{o led} z=>by rw[show s.heap.objs.size+1=(s.heap.push (rS led)).objs.size from(bT _ _).symm];exact aQ _ z
 have ht':∀q∈L,∃p r,q.1=[p,r]:=λq hq=>by obtain⟨p,r,e,_⟩:=ht q hq;exact⟨p,r,e⟩
 rcases hq with hq|hq
 ·obtain⟨its,r,pp,_⟩:=I.list hq;obtain⟨o,ho,hc,n,hd⟩:=pp.isList;have hne:a≠s.heap.objs.size+1:=aD (cn (aA ho));exact vz (PS:=λh2=>∃o es ep t,By h2 s.heap.objs.size ((uqP L).map λq=>(TkS q.1,q.2)) (!X.w.params.followText "set-order") (uqP L).length o es ep t) ho hc iQ hX (by decide) (itO:={ cls:=.type "list_iterator", data:=.fields #[.ref a,.int 0 0] })
   (λA Q E s1 e k=>d0 ⟨o,e,hc,n,hd⟩ k) (λtk' R hR=>Ky (aA ho) ht' tk (ev r).2 (ev r).1 h8 h4 (fP h3 _ a hne its.toArray) ⟨⟨_,it rfl,rfl,rfl⟩,⟨o,az _ (az _ ho),hc,n,hd⟩⟩ hR tk') λh2 k2 ⟨o,es,ep,t,x⟩ kk=>h h2 k2 o es ep t x kk
 ·obtain⟨its,r,p,_⟩:=I.tuple hq;obtain⟨o,ho,hc,n,hd⟩:=p;have hne:a≠s.heap.objs.size+1:=aD (cn (aA ho));exact vz (PS:=λh2=>∃o es ep t,By h2 s.heap.objs.size ((uqP L).map λq=>(TkS q.1,q.2)) (!X.w.params.followText "set-order") (uqP L).length o es ep t) ho hc sub_tuple_set sub_tuple_frozenset (by decide) (itO:={ cls:=.type "tuple_iterator", data:=.fields #[.ref a,.int 0 0] })
   (λA Q E s1 e k=>ie ⟨o,e,hc,n,hd⟩ k) (λtk' R hR=>Ky (aA ho) ht' tk (ev r).2 (ev r).1 h8 h4 (mi h3 _ a hne its.toArray) ⟨⟨_,it rfl,rfl,rfl⟩,⟨o,az _ (az _ ho),hc,n,hd⟩⟩ hR tk') λh2 k2 ⟨o,es,ep,t,x⟩ kk=>h h2 k2 o es ep t x kk
end
section
variable{prog:aq}{w:aj}{A:ar}{E:aa->ab->Prop}{s:ab}
theorem Ip{Q:Int->ab->Prop}(h:Q 0xFCA86420 { s with toks:=s.toks+1 }):ae (model prog w) A (pyHash .none) Q E s:=by
 show ae _ _ (pyHashByItsType .none) Q E s;unfold pyHashByItsType;refine af ?_;rw[cRoomFor,ag (by rw[show [Value.none].any Value.onHeap=false from rfl];exact aN)];refine ao ?_;refine af (fH (gH s) gb.lookup ?_);show ae _ _ (if (some (Value.builtin "NoneType.__hash__")==some Value.none)=true then _ else _) Q E s;rw[ag (by rw[beq_builtin_none];exact aN)];refine af (fH (gH s) gb.lookup ?_);show ae _ _ (callSpecialIfBoundUnlessNone? .none "__hash__" _>>=_) Q E s;refine af (wpAny_callSpecialIfBoundUnlessNone?_slot (gH s) gb
  (eB gb (gH s) F.entry_NoneType_hash
   (show ae _ _ (do ret (<-mkInt 0xFCA86420)) _ _ s from wpAny_ret_mkInt ?_) (F.args_NoneType_hash_1 _)))
 exact ao h
theorem MX{Q:Bool->ab->Prop}(h:Q true s):ae (model prog w) A (eqBool .none .none) Q E s:=by unfold eqBool;refine bz ?_;rw[ah (show (Value.none==Value.none)=true from rfl)];exact af (js (ao h))
def oIs:Option Key->aa->Bool
 |none,.none=>true
 |none,_=>false
 |some k,v=>z8 k v
theorem rZ{k:Option Key}{v:aa}(h:oIs k v=true):(k=none/\v=.none)\/(∃i t,k=some (Sum.inl i)/\v=Value.int i t)\/∃x t,k=some (Sum.inr x)/\v=Value.str x t:=by
 cases k with
 |none=>cases v<;>first|exact .inl ⟨rfl,rfl⟩|cases h
 |some k=>
  rcases pf (k:=k) h with ⟨i,t,rfl,rfl⟩|⟨x,t,rfl,rfl⟩
  ·exact .inr (.inl ⟨i,t,rfl,rfl⟩)
  ·exact .inr (.inr ⟨x,t,rfl,rfl⟩)
def optKind(prog:aq)(w:aj):lG prog w (Option Key) where
 is:=oIs
 hash:=λk=>match k with|none=>0xFCA86420|some k=>RA w k
 inj:=λv a b ha hb=>by rcases rZ ha with ⟨rfl,rfl⟩|⟨i,t,rfl,rfl⟩|⟨x,t,rfl,rfl⟩<;>rcases rZ hb with ⟨rfl,e⟩|⟨j,u,rfl,e⟩|⟨y,u,rfl,e⟩<;>first|rfl|(cases e;rfl)|cases e
 byValue:=λk v h=>by rcases rZ h with ⟨rfl,rfl⟩|⟨i,t,rfl,rfl⟩|⟨x,t,rfl,rfl⟩<;>rfl
 pyHash:=λ{A E s k v Q} hv h=>by
  cases k with
  |some k=>exact(oF prog w).pyHash (k:=k) hv h
  |none=>
   rcases rZ hv with ⟨_,rfl⟩|⟨i,t,e,_⟩|⟨x,t,e,_⟩
   ·exact Ip h
   ·cases e
   ·cases e
 eqBool:=λ{A E s a b u v Q} hu hv h=>by
  rcases rZ hu with ⟨rfl,rfl⟩|⟨i,t,rfl,rfl⟩|⟨x,t,rfl,rfl⟩<;>rcases rZ hv with ⟨rfl,rfl⟩|⟨j,u,rfl,rfl⟩|⟨y,u,rfl,rfl⟩
  ·exact MX h
  ·exact j1 j u _ _ _ _ h
  ·exact j2 y u _ _ _ _ h
  ·exact j3 i t _ _ _ _ h
  ·exact(oF prog w).eqBool (a:=Sum.inl i) (b:=Sum.inl j) hu hv (by simpa using h)
  ·exact(oF prog w).eqBool (a:=Sum.inl i) (b:=Sum.inr y) hu hv (by simpa using h)
  ·exact j4 x t _ _ _ _ h
  ·exact(oF prog w).eqBool (a:=Sum.inr x) (b:=Sum.inl j) hu hv (by simpa using h)
  ·exact(oF prog w).eqBool (a:=Sum.inr x) (b:=Sum.inr y) hu hv (by simpa using h)
 «strs»:=λk x t v h=>by
  cases k with
  |none=>cases h
  |some k=>exact(oF prog w).strs k x t v h
theorem MY{h:Heap}{f:Key->Option aa}(m:h.MapOf (oF prog w) a f):h.MapOf (optKind prog w) a (λk=>match k with|none=>none|some k=>f k):=by
 obtain⟨o,es,ep,h1,h2,h3,h4,h5⟩:=m;refine⟨o,es,ep,h1,h2,h3,λe he=>?_,λk=>?_⟩
 ·obtain⟨k,k1,k2⟩:=h4 e he;exact⟨some k,k1,k2⟩
 ·cases k with
  |some k=>exact h5 k
  |none=>
   unfold findBy;rw[Array.find?_eq_none.mpr λe he=>?_]
   ·rfl
   ·obtain⟨k,k1,_⟩:=h4 e he;rcases pf k1 with ⟨i,t,_,e1⟩|⟨x,t,_,e1⟩<;>(rw[e1];exact aN)
end
variable{e:Expr}{apos cpos:Pos}{f f':FE}
section
variable{X:Cx}{G:Bg}{H:Hp}{pins:List (Addr×Obj)}{σ:St}{s:ab}
theorem QV{A:ar}{E:aa->ab->Prop}{kvs:List (Key×V)}(I:Inv X pins σ H s)(e:Rd H a (.dK kvs))(h:∀s',Inv X pins σ H s'->Q .none s'):ae (model X.prog X.w) A (call (.builtin "dict.get") [.ref a,.none]) Q E s:=by obtain⟨z,hd,vs,rel,dd⟩:=zb I.hok e;exact eQ c8 dd.typeIs fF (ir _ _) (lh (optKind X.prog X.w) a (k:=none) rfl hd) ⟨_,MY dd.mapOf,h _ (I.tok _)⟩
def QW(td ty:TE):TE:=λσ H Q=>td σ H λx H1=>∃a,x=.ref a/\IsD H1 a/\ty σ H1 λy H2=>(∃o,DGet H2 a y o/\Q (o.getD .non) H2)\/(y=.non/\(∃kvs,Rd H2 a (.dK kvs))/\Q .non H2)
theorem Kz{o:Expr}{td ty:TE}(hu:X.A.units+1<cLine)(ho:PE X o td)(he:PE X e ty)(m:M1 X o "get" apos e cpos):PE X (.Call (.Attribute o "get" apos) [e] [] cpos) (QW td ty):=by
 intro pins s σ H Q I h;refine gj m.base m.few m.line gm c8 iI (thn (ho pins s σ H _ I h) λu s1 hh=>?_);obtain⟨x,H1,I1,rx,a,ex,d,q1⟩:=hh;subst ex;obtain rfl:u=Value.ref a:=rx;obtain⟨t1,t2,_⟩:=CZ I1 d;refine⟨t1,t2,?_⟩;rw[m.trees];refine fi rfl (fm (cJ (thn (he pins s1 σ H1 _ I1 q1) λiv s2 hh=>dw ?_)));obtain⟨y,H2,I2,ry,⟨ov,g,q2⟩|⟨rfl,⟨kvs,e⟩,q2⟩⟩:=hh
 ·exact Ja hu I2 g ry λw' s3 I3 rw'=>⟨_,H2,I3,rw',q2⟩
 ·obtain rfl:iv=.none:=ry;exact QV I2 e λs3 I3=>⟨.non,H2,I3,rfl,q2⟩
def Ey:D->D->Option D:=λx y=>match y with
 |.non=>match x with
  |.dic _ _=>some .non
  |_=>none
 |y=>wz x y
theorem KA{a b:Expr}(hu:X.A.units+1<cLine)(ha:PE X a (tF G f))(hb:PE X b (tF G f'))(m:M1 X a "get" apos b cpos):PE X (.Call (.Attribute a "get" apos) [b] [] cpos) (tF G (c2 Ey f f')):=PE.weak (Kz hu ha hb m) λσ H Q hh=>by
 obtain⟨F,ρ,H0,d,ρ',R,e,k⟩:=hh;obtain⟨x,y,ρ1,e1,e2,e3⟩:=v7 e;cases x with
 |dic ks ds=>
  refine⟨F,ρ,H0,_,ρ1,R,e1,λv H1 H1' s1 R1 r1=>?_⟩;have r1':=r1;unfold Rep at r1';obtain⟨p,ob,xs,rfl,h1,h2,h3⟩:=r1';refine⟨p,rfl,.inl ⟨_,.inr ⟨_,R1.sub _ _ h1⟩⟩,F,ρ1,H1,y,ρ',R1,e2,λu H2 H2' s2 R2 r2=>?_⟩;by_cases hy:y=.non
  ·subst hy;cases e3;unfold Rep at r2;subst r2;exact .inr ⟨rfl,⟨_,.inr ⟨_,R2.sub _ _ (s2 _ _ h1)⟩⟩,k _ H2 H2' (s1.trans s2) R2 sL⟩
  ·left;have e3:wz (.dic ks ds) y=some d:=by
    unfold Ey at e3;split at e3
    ·exact ai rfl hy
    ·exact e3
   unfold wz at e3;cases ek:uu y with
   |none=>simp only[ek]at e3;cases e3
   |some j=>
    simp only[ek]at e3;cases e3;have lv:=vy (ks:=ks) j (og.mono s2 _ _ h3) h2;refine⟨qL (ks.zip xs) j,?_,?_⟩
    ·rw[uv r2 ek];exact DGet.kf (R2.sub _ _ (s2 _ _ h1))
    ·cases el:vx ks ds j with
     |none=>rw[el]at lv k;rw[lv];exact k _ H2 H2' (s1.trans s2) R2 sL
     |some z=>rw[el]at lv k;obtain⟨w,w1,w2⟩:=lv;rw[w1];exact k _ H2 H2' (s1.trans s2) R2 w2
 |_=>
  unfold Ey at e3;split at e3
  ·cases e3
  ·unfold wz at e3;cases e3
end
section
variable{X:Cx}{B:Bz}{k:Nat}{e e':Expr}{f f':FE}{apos pos:Pos}
theorem QX [C:Cz X B k](ha:ZE X B e f)(hb:ZE X B e' f')(h1:Az X e "get")(h2:Ez apos pos)(h3:S1 X e'):ZE X B (.Call (.Attribute e "get" apos) [e'] [] pos) (c2 Ey f f'):=⟨KA (DQ C.r) ha.p hb.p ⟨h1,by rw[h3];rfl,h2,by rw[h3];rfl⟩⟩
end
theorem uqP_nd{κ α:Type}[DecidableEq κ]:∀(l acc:List (κ×α)),((acc++l).map bG).Nodup->l.foldl ust acc=acc++l
 |[],acc,_=>(bI _).symm
 |q::l,acc,h=>by
  have hq:q.1∉acc.map bG:=λz=>by rw[cR,gp]at h;exact h.2.2 _ z _ (j6 aH) rfl
  rw[eL,show ust acc q=acc++[q] by unfold ust;rw[ag hq],uqP_nd l _ (by rw[cN];exact h),cN];rfl
section
variable{X:Cx}
theorem set_GU:Pf X Ta:=by
 intro pins σ H s A E Q a n I hh hu hq h;rcases hq with hq|⟨L,h1,h8,nd,ht,rfl⟩
 ·exact SR I hh hu hq h
 ·have e:uqP L=L:=uqP_nd L [] nd;refine Uc I hh hu (.inl h1) (by rw[e];omega) ht λh2 k2 o es ep t x kk=>?_;rw[e]at x;refine h h2 k2 ⟨o,es,ep,t,x.at_,x.ex,x.d,?_,x.fits (aw _),x.sz.trans (aw _)⟩ kk;rw[x.sz,aw];unfold scanBound;omega
end
section
variable{X:Cx}{B:Bz}{k:Nat}{e:Expr}{f:FE}{p p2 p3 pos:Pos}
theorem zr_luI [C:Cz X B k][N:Nb B "len"][N':Nb B "set"](hs:S1 X e)(hg:Gz X "len")(hg':Gz X "set")(ha:ZE X B e f)(z:au [Expr.Call (.Name "set" p2) [e] [] p3] X.env=[(false,eval (.Call (.Name "set" p2) [e] [] p3) X.env)]):ZE X B (.Call (.Name "len" p) [.Call (.Name "set" p2) [e] [] p3] [] pos) (c1 (AF Du) f):=⟨Fw C.K .inl (Im C.K) (HZ set_GU C.r.units C.c hg (C.mg▸N.p) hg' (C.mg▸N'.p) ha.p z hs)⟩
end
section
variable{X:Cx}{G:Bg}
def dStrI:D->Option D
 |.int i=>if i.natAbs.log2<1920 then some (.str (toString i))else none
 |_=>none
theorem cd_str:Av G (λxs H Q=>∃i,xs=[.int i]/\i.natAbs.log2<1920/\Q (.str (toString i)) H) dStrI:=λx z H0 H v Q e s rx k=>by
 cases x with
 |int i=>
  rw[show dStrI (.int i)=if i.natAbs.log2<1920 then some (.str (toString i))else none from rfl]at e;split at e
  ·rename_i hi;cases e;unfold Rep at rx;subst rx;exact⟨i,rfl,hi,k _ λ_ _=>rR _⟩
  ·cases e
 |_=>cases e
theorem pf_b2{r:List V->Hp->VK->Prop}{g:Int->Int->Int}(hr:∀i j H Q,Q (.int (g i j)) H->r [.int i,.int j] H Q)(h:PE X e (tCB r (tFA G (aCons f (aCons f' oT))))):PE X e (tF G (c2 (λx y=>match x,y with|.int i,.int j=>some (.int (g i j))|_,_=>none) f f')):=PE.weak h λσ H Q hh=>by
 obtain⟨F,ρ,H0,d,ρ',R,e,k⟩:=hh;obtain⟨x,y,ρ1,e1,e2,e3⟩:=v7 e;split at e3
 ·cases e3;rename_i i j;refine⟨F,ρ,H0,[.int i,.int j],ρ',R,by unfold aCons;rw[e1];simp only[e2];rfl,λys H1 H1' s R' rs=>?_⟩;unfold og at rs;obtain⟨v,r0,rfl,rv,rn⟩:=rs;unfold og at rn;obtain⟨v',r1,rfl,rv',rn'⟩:=rn;unfold og at rn';subst rn';unfold Rep at rv rv';subst rv rv';exact hr i j _ _ (k _ _ _ s R' (pY _))
 ·cases e3
def dMax2:D->D->Option D:=λx y=>match x,y with|.int i,.int j=>some (.int (if j > i then j else i))|_,_=>none
def dMin2:D->D->Option D:=λx y=>match x,y with|.int i,.int j=>some (.int (if j<i then j else i))|_,_=>none
def iR2(f f':FE):FA:=λρ=>match f ρ with
 |some (.int i,ρ1)=>match f' ρ1 with
  |some (.int j,ρ2)=>if (-1000000<=i/\i<=1000000)/\-1000000<=j/\j<=1000000 then some (Bs i (j - i).toNat,ρ2)else none
  |_=>none
 |_=>none
theorem pfi_range2{tg:Expr}(h:PI X tg e (Na (tFA G (aCons f (aCons f' oT))))):PI X tg e (tFI G (iR2 f f')):=PI.weak h λσ H R hh=>by
 obtain⟨F,ρ,H0,ds,ρ',R,e,k⟩:=hh;unfold iR2 at e;split at e
 ·rename_i i ρ1 e1;split at e
  ·rename_i j ρ2 e2;split at e
   ·rename_i hn;cases e;refine⟨F,ρ,H0,[.int i,.int j],_,R,by unfold aCons;rw[e1];simp only[e2];rfl,λxs H1 H1' s R' rs=>?_⟩;unfold og at rs;obtain⟨v,r0,rfl,rv,rn⟩:=rs;unfold og at rn;obtain⟨v',r1,rfl,rv',rn'⟩:=rn;unfold og at rn';subst rn';unfold Rep at rv rv';subst rv rv';refine⟨i,j,rfl,⟨by omega,by omega,by omega,by omega⟩,?_⟩;exact k _ _ _ s R' D7
   ·cases e
  ·cases e
 ·cases e
theorem mt_starts:MtR X "str.startswith" (λx vs H Q=>∃z y:Str,x=.str z/\vs=[.str y]/\Q (.bl (0+y.length<=z.length&&iA z y 0)) H):=by intro pins s σ H x vs v us Q I rx rv h;obtain⟨z,y,rfl,rfl,q⟩:=h;obtain⟨t,rfl⟩:=rx;obtain⟨u,rfl,ru⟩:=rv.one;obtain⟨t',rfl⟩:=ru;exact call_gives jT (jm _ _ _) F.entry_str_startswith (F.args_str_startswith_2 _ _) (gives_str_startswith z y t t') ⟨.bl _,H,I,rfl,q⟩
def dSw:D->D->Option D:=λx y=>match x,y with
 |.str z,.str y=>some (.bl (0+y.length<=z.length&&iA z y 0))
 |_,_=>none
theorem pf_starts(h:PE X e (tBM G.K "str" (λx vs H Q=>∃z y:Str,x=.str z/\vs=[.str y]/\Q (.bl (0+y.length<=z.length&&iA z y 0)) H) (tF G f) (tFA G (aCons f' oT)))):PE X e (tF G (c2 dSw f f')):=PE.weak h λσ H Q hh=>by
 obtain⟨F,ρ,H0,d,ρ',R,e,k⟩:=hh;obtain⟨x,y,ρ1,e1,e2,e3⟩:=v7 e;unfold dSw at e3;split at e3
 ·rename_i z y;cases e3;refine⟨F,ρ,H0,_,ρ1,R,e1,λv H1 H1' s1 R1 r1=>?_⟩;unfold Rep at r1;subst r1;refine⟨rfl,F,ρ1,H1,[.str y],ρ',R1,by unfold aCons;rw[e2];rfl,λys H2 H2' s2 R2 rs=>?_⟩;unfold og at rs;obtain⟨v,r0,rfl,rv,rn⟩:=rs;unfold og at rn;unfold Rep at rv;subst rn rv;exact⟨z,y,rfl,rfl,k _ H2 H2' (s1.trans s2) R2 (pZ _)⟩
 ·cases e3
end
section
variable{X:Cx}{B:Bz}{k:Nat}{e e' tg:Expr}{f f':FE}{p p2 p3 pos apos:Pos}
theorem zr_srI [C:Cz X B k][N:Nb B "str"](hg:Gz X "str")(hs:S1 X e)(ha:ZE X B e f):ZE X B (.Call (.Name "str" p) [e] [] pos) (c1 dStrI f):=⟨JH cd_str (ctI hg (by decide) hs CM (by decide +kernel) (pG ha.p ql hs))⟩
theorem zr_mxI [C:Cz X B k][N:Nb B "max"](hg:Gz X "max")(hs:au [e,e'] X.env=[(false,eval e X.env),(false,eval e' X.env)])(hs':S1 X e')(ha:ZE X B e f)(hb:ZE X B e' f'):ZE X B (.Call (.Name "max" p) [e,e'] [] pos) (c2 dMax2 f f'):=
 ⟨pf_b2 (g:=λi j=>if j > i then j else i) (λi j H Q q=>⟨i,j,rfl,q⟩) (tQ (Hf C.c) hg (C.mg▸N.p) boot_max (pG ha.p (pG hb.p ql hs') (by rw[hs,hs'])) (by decide) (by decide) (by rw[hs,hs']) (by rw[hs'];rfl))⟩
theorem zr_mnI [C:Cz X B k][N:Nb B "min"](hg:Gz X "min")(hs:au [e,e'] X.env=[(false,eval e X.env),(false,eval e' X.env)])(hs':S1 X e')(ha:ZE X B e f)(hb:ZE X B e' f'):ZE X B (.Call (.Name "min" p) [e,e'] [] pos) (c2 dMin2 f f'):=
 ⟨pf_b2 (g:=λi j=>if j<i then j else i) (λi j H Q q=>⟨i,j,rfl,q⟩) (tQ (Hg C.c) hg (C.mg▸N.p) boot_min (pG ha.p (pG hb.p ql hs') (by rw[hs,hs'])) (by decide) (by decide) (by rw[hs,hs']) (by rw[hs'];rfl))⟩
theorem zr_r2I [C:Cz X B k][N:Nb B "range"](hg:Gz X "range")(hs:au [e,e'] X.env=[(false,eval e X.env),(false,eval e' X.env)])(hs':S1 X e')(ha:ZE X B e f)(hb:ZE X B e' f'):ZI X B tg (.Call (.Name "range" p) [e,e'] [] pos) (iR2 f f'):=⟨pfi_range2 (G9 hg (C.mg▸N.p) (pG ha.p (pG hb.p ql hs') (by rw[hs,hs'])) hs hs')⟩
theorem zr_swI [C:Cz X B k](ha:ZE X B e f)(hb:ZE X B e' f')(h1:Az X e "startswith")(h2:Ez apos pos)(hs:S1 X e'):ZE X B (.Call (.Attribute e "startswith" apos) [e'] [] pos) (c2 dSw f f'):=⟨pf_starts (bmI h1 h2 hs F.plainAttrs_str jT F.type_str_startswith mt_starts ha.p (pG hb.p ql hs))⟩
end
def tOr(t t':Ty->Option Bool):Ty->Option Bool:=λy=>match t y with
 |some true=>match t' y with
  |some _=>some true
  |none=>none
 |some false=>t' y
 |none=>none
variable{t t':Ty->Option Bool}
theorem inst_or{G:Bg}{c c':Nat}(h:AE G c t)(h':AE G c' t'):Gq G [c,c'] (tOr t t'):=by
 refine⟨λy b e=>?_,λj b e=>?_⟩
 ·unfold tOr at e;show kitAny G.K (y.val G) [.ref (G.ca c),.ref (G.ca c')]=some b;unfold kitAny;cases e1:t y with
  |none=>simp only[e1]at e;cases e
  |some v=>
   simp only[e1]at e;rw[h.1 y v e1];cases v with
   |true=>
    cases e2:t' y with
    |none=>simp only[e2]at e;cases e
    |some w=>simp only[e2]at e;cases e;rfl
   |false=>simp only at e;unfold kitAny;simp only;rw[h'.1 y b e];cases b<;>rfl
 ·unfold tOr at e;cases e1:t (.c j)with
  |none=>simp only[e1]at e;cases e
  |some v=>exact h.2 j v e1
section
variable{X:Cx}{B:Bz}{k:Nat}{e:Expr}{f:FE}{p p2 p3 p4 pos:Pos}{x y:Str}
theorem zr_i2I{z1}[Q:Ic B x t][Q':Ic B y t'][C:Cz X B k][N:Nb B "isinstance"](hi:Gz X "isinstance")(hg:Gz X x)(hg':Gz X y)(hs:au [e,.Tuple [.Name x p2,.Name y p3] z1 p4] X.env=[(false,eval e X.env),(false,eval (.Tuple [.Name x p2,.Name y p3] z1 p4) X.env)])(hs':S1 X (.Tuple [.Name x p2,.Name y p3] z1 p4))(hs2:au [.Name x p2,.Name y p3] X.env=[(false,eval (.Name x p2) X.env),(false,eval (.Name y p3) X.env)])(hs3:S1 X (.Name y p3))(ha:ZE X B e f)(hd:Dz x)(hd':Dz y):ZE X B (.Call (.Name "isinstance" p) [e,.Tuple [.Name x p2,.Name y p3] z1 p4] [] pos) (c1 (pj (tOr t t')) f):=by
 obtain⟨c,q1,q2⟩:=Q.p;obtain⟨c',r1,r2⟩:=Q'.p;refine⟨J4 (cs:=[c,c']) (tQ (Ft (inst_or q1 r1) C.K) hi (C.mg▸N.p) iM (pW ha.p (pW (IR (pW (zV (v:=.ref (B.G.ca c)) hg (C.mg▸q2) rfl hd) (pW (zV (v:=.ref (B.G.ca c')) hg' (C.mg▸r2) rfl hd') sj hs3) ?_)) sj hs') ?_) (by decide) (by decide) ?_ ?_) (by show 2<=1000;decide)⟩
 ·rw[hs2,hs3]
 ·rw[hs,hs']
 ·rw[hs,hs']
 ·rw[hs'];rfl
end
structure SetW(h:Heap)(S:Addr)(vs:List aa)(led:Bool)(n:Nat)(o:Obj)(es:Array (Int×aa))(ep:Nat)(t:aP):Prop where
 at_:h.get? S=some o
 ex:o.ExactSet
 d:o.data=.set es ep t
 c:∃m,Tb t m n/\Cz2 m n
 led:t.led=led
 pl:0<n->t.plain=false
 p:(es.toList.map bw).Perm vs
variable{es:Array (Int×aa)}{ep:Nat}
theorem SetW.sz{h:Heap}{S:Addr}{vs:List aa}{n:Nat}{o:Obj}{t:aP}(x:SetW h S vs led n o es ep t):es.size=vs.length:=by have:=x.p.length_eq;rw[aw,bc]at this;exact this
theorem SetW.fits{h:Heap}{S:Addr}{vs:List aa}{n:Nat}{o:Obj}{t:aP}(x:SetW h S vs led n o es ep t)(hl:vs.length=n):t.fits es.size=true:=by obtain⟨m,T,c⟩:=x.c;unfold dO gy;rw[x.sz,hl,T.pl,T.dm,T.mask,aE];exact⟨by simp,bj (by unfold Cz2 at c;simp;omega)⟩
section
variable{prog:aq}{w:aj}{A:ar}{E:aa->ab->Prop}{s:ab}{S:Addr}{o:Obj}{es:Array (Int×aa)}{ep:Nat}{t:aP}
theorem iter_W{vs:List aa}{n:Nat}(x:SetW s.heap S vs (!w.params.followText "set-order") n o es ep t)(hl:vs.length=n)
  (hQ:∀(h':Heap) (I TP:Addr) (ord:List aa) (d:Drawn),s.heap.objs.size<=I->I<h'.objs.size->TP≠I->(TP=S\/s.heap.objs.size<=TP)->(∀b o,s.heap.get? b=some o->h'.get? b=some o)->ItS w I S TP ord o es ep t 0 h'->ord.Perm vs->Q (.ref I) { s with heap:=h',drawn:=d }):
  ae (model prog w) A (pyIter (.ref S)) Q E s:=by
 have hf:=x.fits hl;have ty:s.TypeIs (.ref S) "set" := ⟨o,x.at_,x.ex.1⟩;have hlt:=aA x.at_;refine kz ty kZ (eB kZ ty Ds ?_ (F.args_set_iter_1 _));unfold cf.«frozenset.__iter__»;refine af (m:=m6 _ _) (ao ?_);refine af ?_;unfold m4 setEntries;refine af (af (bR x.at_ x.d hf (ao ?_)));refine ao ?_;refine af ?_;unfold setDrawn;refine af (bR x.at_ x.d hf ?_);dsimp only;refine af (yL ?_);refine ao ?_;have plain0:(w.params.followText "set-order" = true\/(w.params.followText "set-order" = false/\es.size<=1))->ae (model prog w) A.in1 (do
   let first<-pure (rawInt 0)
   let e<-setEpoch S;let r<-newFields "set_iterator" [first,rawInt 0,Value.ref S,rawInt ↑es.size,rawInt ↑e]
   ret r) (λfin s'=>∃v,fin=Fin.done (Flow.ret v)/\∃T' r,s'.TypeIs v T'/\typeLookup (Value.type T') (jb "__next__")=pure (some r)/\Q v s') E s:=λc=>by
  refine af (ao ?_);refine af (kB x.at_ x.d hf ?_);refine af (d9 ?_);have kk:∀(o':Obj) (b:Addr) (o:Obj),s.heap.get? b=some o->(s.heap.push o').get? b=some o:=λo' b o e=>az _ e;have it:∀ord,Md w (s.heap.push { cls:=.type "set_iterator", data:=.fields [rawInt 0,rawInt 0,Value.ref S,rawInt ↑es.size,rawInt ↑ep].toArray }) S S 0 ord es ep t (.int 0 0)->ord.Perm vs->_:=λord m p=>ao (M:=model prog w) (A:=A.in1) (E:=E) (Q:=λfin s'=>∃v,fin=Fin.done (Flow.ret v)/\∃T' r,s'.TypeIs v T'/\typeLookup (Value.type T') (jb "__next__")=pure (some r)/\Q v s') ⟨.ref s.heap.objs.size,rfl,"set_iterator", _,⟨_,aQ _ rfl,rfl⟩,qS.lookup,hQ _ s.heap.objs.size S ord s.drawn (ay _) (by rw[bT];exact bS _) (aD hlt) (.inl rfl) (kk _) ⟨⟨_,.int 0 0,aQ _ rfl,rfl,rfl,m⟩,kk _ _ _ x.at_,x.d,hf⟩ p⟩;rcases c with c|⟨c1,c2⟩
  ·exact it _ (.txt c rfl) (((B6 _ es).map _).trans x.p)
  ·exact it _ (.one c1 c2 (by rw[x.led,c1];rfl) (λ_=>rfl) (λj e=>by cases e) rfl) x.p
 cases c:w.params.followText "set-order" with
 |true=>rw[ag (by simp)];exact plain0 (.inl c)
 |false=>
  by_cases h1:es.size<=1
  ·rw[ag λhh=>by
    have:(!false&&(!t.plain&&decide (es.size > 1)))=true:=hh;simp at this;omega]
   exact plain0 (.inr ⟨c,h1⟩)
  ·have pl:t.plain=false:=x.pl (by have:=x.sz;omega);rw[ah (by show (!false&&(!t.plain&&decide (es.size > 1)))=true;rw[pl];simp;omega)];refine af (GF es.size _ s b8 λys d p=>?_);refine af (lu ?_ (by
    rw[aw,p.length_eq,b8,x.sz,hl,aZ];obtain⟨m,T,c⟩:=x.c;unfold Cz2 at c;omega))
   refine af (kB (az _ x.at_) x.d hf ?_);refine af (d9 ?_);have kk:∀(o1 o2:Obj) (b:Addr) (o:Obj),s.heap.get? b=some o->((s.heap.push o1).push o2).get? b=some o:=λo1 o2 b o e=>az _ (az _ e);have ord:(ys.filterMap λp=>es[p]?.map bw).Perm vs:=by refine(p.filterMap _).trans ?_;rw[show (aL es.size).filterMap (λp=>es[p]?.map bw)=((aL es.size).filterMap λp=>es[p]?).map bw from(km ..).symm,gZ];exact x.p
   refine ao ⟨_,rfl,"set_iterator", _,⟨_,aQ _ rfl,rfl⟩,qS.lookup,hQ _ _ s.heap.objs.size _ d ?_ ?_ ?_ (.inr (ay _)) (kk _ _) ⟨⟨_,.ref s.heap.objs.size,aQ _ rfl,rfl,rfl,.drw c (az _ (aQ _ rfl)) rfl rfl rfl p rfl⟩,kk _ _ _ _ x.at_,x.d,hf⟩ ord⟩
   ·rw[bT];exact eR _
   ·exact Nat.lt_of_lt_of_eq (bS _) (bT _ _).symm
   ·rw[bT];exact aD (bS _)
end
variable{x:Str}{tk:Tok}
section
variable{prog:aq}{w:aj}{A:ar}{E:aa->ab->Prop}{s:ab}{S:Addr}{o:Obj}{es:Array (Int×aa)}{ep:Nat}{t:aP}{vs:List aa}{n:Nat}
theorem SetW.kept{h h':Heap}(x:SetW h S vs led n o es ep t)(k:∀o,h.get? S=some o->h'.get? S=some o):SetW h' S vs led n o es ep t:={ x with at_:=k _ x.at_ }
theorem collect_W{Q:List aa->ab->Prop}(hh:A.handled=none)(x:SetW s.heap S vs (!w.params.followText "set-order") n o es ep t)(hl:vs.length=n)
  (hQ:∀h2 k2 d2 acc,s.heap.objs.size<=h2.objs.size->(∀b o,s.heap.get? b=some o->h2.get? b=some o)->acc.Perm vs->Q acc { s with heap:=h2,toks:=k2,drawn:=d2 }):ae (model prog w) A (collect (.ref S)) Q E s:=by
 have hlt:=aA x.at_;have n9:n<=63:=by obtain⟨m,T,c⟩:=x.c;unfold Cz2 at c;omega
 let lO:Obj:={ cls:=.type "list", data:=.seq ([]:List aa).toArray };unfold collect;refine af (lp (cu F.entry_proto_collect ?_));rw[cI F.plain_proto_collect _];show ae _ A.in1 (newList []>>=λl=>again (.builtin "list.__iadd__" ⟨[l,.ref S],[]⟩)) _ _ s;refine af (d9 ?_);refine ao ⟨dN kC _,cu F.entry_list_iadd ?_⟩;rw[cI kC _];show ae _ A.in1 (jw (.ref s.heap.objs.size) (.ref S) (.ref s.heap.objs.size)) _ _ _;have ez:(s.heap.push lO).objs.size=s.heap.objs.size+1:=bT _ _;have x1:SetW (s.heap.push lO) S vs (!w.params.followText "set-order") n o es ep t:=x.kept λo e=>az _ e;have T1:iW { s with heap:=s.heap.push lO } (.ref S) "set" := ⟨o,x1.at_,x.ex.1⟩;unfold jw;refine af (i9 T1 ?_);rw[ag (by
  have:jG (.ref s.heap.objs.size) (.ref S)=false:=by simp[jG];exact λe=>ai e (dQ hlt)
  rw[this];decide)]
 refine af (iter_W (s:={ s with heap:=s.heap.push lO }) x1 hl λh3 I TP ord d3 hI1 hI2 hTI hTP kk it po=>?_);have hI:s.heap.objs.size+1<=I:=by rw[<-ez];exact hI1
 have L3:h3.get? s.heap.objs.size=some lO:=kk _ _ (aQ _ rfl);have T3:iW { s with heap:=h3,drawn:=d3 } (.ref S) "set" := ⟨o,it.at_,x.ex.1⟩;have K3:∀b o,s.heap.get? b=some o->h3.get? b=some o:=λb o e=>kk b o (az _ e);show ae _ A.in1 (holding [.ref I] (jx (.ref S))>>=_) _ _ { s with heap:=h3,drawn:=d3 };refine af (bz ?_);unfold jx;refine af (fH T3 F.slot_set_len.lookup ?_);generalize hid:("set.__len__" : String)=id0;wp_delta;rw[show splitId id0=some ("set", "__len__") from by subst hid;decide +kernel];subst hid;refine af (kO T3 sub_set_self ?_);dsimp only;rw[ag (by decide),ah (by decide +kernel)];refine af (i9 T3 ?_);refine ao ?_;rw[ah (by decide +kernel)];refine af (js ?_);refine af ?_;show ae _ A.in1 (updateSeq s.heap.objs.size (·.push .none)>>=λ_=>updateSeq s.heap.objs.size (·.pop)) _ _ _
 refine af (iK L3 rfl ?_);have S2:=c4 (bK (·.push Value.none)) L3 rfl
 refine iK S2 rfl ?_;have S3:=c4 (bK (·.pop)) S2 rfl
 have oth:∀b o,b≠s.heap.objs.size->h3.get? b=some o->((h3.update s.heap.objs.size (bK (·.push Value.none))).update s.heap.objs.size (bK (·.pop))).get? b=some o:=
  λb o hb e=>(dX _ _ (bX hb)).trans ((dX _ _ (bX hb)).trans e)
 have hSI:S≠I:=aD (bx hlt (kD hI));have hSf:s.heap.objs.size∉[I,S,TP]:=by
  intro z;rcases aF.mp z with z|z
  ·exact ai z (aD hI)
  ·rcases aF.mp z with z|z
   ·exact ai z (dQ hlt)
   ·rw[aU]at z;rcases hTP with e|e
    ·exact ai (z.trans e) (dQ hlt)
    ·rw[<-z,ez]at e;exact ai e (Nat.not_succ_le_self _)
 have W:=QP (prog:=prog) (w:=w) (A:=A.in1) (I:=I) (S:=S) (TP:=TP) (ord:=ord) (o:=o) (es:=es) (ep:=ep) (t:=t) (by simp[hh]) hSI hTI;have ol:ord.length<=63:=by rw[po.length_eq,hl];exact n9
 refine ao ⟨dN F.plain_extend_loop _,codeAny_extend_loopS W.toS (by rw[aZ];omega) _ hSf _ ord.length 0 _ _ _ rfl (ba _)
  (W.frame 0 h3 _ ⟨it,ba _⟩ λb hb o e=>oth b o (λz=>hSf (by rw[<-z];exact hb)) e) S3 (ItemsOf.nil _) λs' acc' c' hm hS' hacc=>?_⟩
 show ae _ A (load s.heap.objs.size>>=_) _ _ s';refine af (wpAny_load hS' ?_);have ea:acc'.toList=ord:=by
  apply iq;intro j;cases e:acc'.toList[j]? with
  |none=>rw[List.getElem?_eq_none_iff,bc,hacc.1]at e;exact(dY e).symm
  |some v=>rw[bu]at e;exact(hacc.2 j v e).symm
 obtain⟨h2,g2,d2,k2,o2⟩:=s';have eg:g2=s.gens:=hm.gens;have eo:o2=s.os:=hm.os;subst eg eo;refine ao (hQ h2 k2 d2 acc'.toList (eO (aA hS')) (λb o e=>?_) (by rw[ea];exact po));have hb:=aA e;exact hm.heap b o (λz=>by
  rcases aF.mp z with z|z
  ·exact ai z (aD hb)
  ·exact ai (aU.mp z) (aD (bx hb (kD hI)))) (oth b o (aD hb) (K3 b o e))
theorem add_txt{h:Int}{Q:Bool->ab->Prop}(ho:s.heap.get? S=some o)(hd:o.data=.set #[] ep (.fresh 0 0 led))
  (hQ:∀h' j,de S s.heap h'->h'.get? S=some { o with data:=.set #[(h,.str x tk)] (ep+1) (one j led false) }->Q true { s with heap:=h' }):ae (model prog w) A (setAddHashed S (.str x tk) h) Q E s:=by
 unfold setAddHashed setAddHashedIn;refine bz (af (bR ho hd rfl ?_));dsimp only;rw[ah (by simp[byScan,kY,scanBound])];refine af ?_;unfold setAddByScan;refine af (js ?_);refine af (jf (show setScan S (.str x tk) h true #[]=pure .absent by unfold setScan setScanStrs;simp) ?_);have el:layNew (.fresh 0 0 led) #[] h (.str x tk)=(#[(h,.str x tk)],one (bA h % 8) led true,false,false):=by unfold layNew;rw[show SetTable.freeSlot (.fresh 0 0 led) h=some (bA h % 8,false) from rfl];dsimp only;rw[J5];rfl
 dsimp only;rw[el];dsimp only;refine af (ao ?_);rw[ah (show (one (bA h % 8) led true).plain=true from rfl)];refine af (m:=hashByValue 8 (.str x tk)) (ao ?_);refine af (iz ho hd ?_ (by rw[aZ];exact eO (by decide:1<_)));rw[ag aN];show ae _ _ (if (false:Bool)=true then _ else pure (some true)) _ _ _;rw[ag aN];refine ao (ao (hQ _ (bA h % 8) (cm ..) ?_));exact Fu ho hd
theorem set_txt{X:Cx}{pins:List (Addr×Obj)}{σ:St}{H:Hp}(I:Inv X pins σ H s)(hh:A.handled=none)(hq:SqL X.K H a [V.str x])
  (h:∀h2 k2 o es ep t u,RelV (V.str x) u->SetW h2 s.heap.objs.size [u] (!X.w.params.followText "set-order") 1 o es ep t->(∀b o,b<s.heap.objs.size->s.heap.get? b=some o->h2.get? b=some o)->Q (.ref s.heap.objs.size) { s with heap:=h2,toks:=k2 }):
  ae (model X.prog X.w) A (call (.type "set") [.ref a]) Q E s:=by
 have h3:A.in1.in1.in1.handled=none:=by simp[hh]
 obtain⟨its,r,pp,_⟩:=I.list hq;obtain⟨o,ho,hc,n,hd⟩:=pp.isList;obtain⟨u,rfl,ru⟩:=r.one;obtain⟨tk,rfl⟩:=ru;have hne:a≠s.heap.objs.size+1:=aD (cn (aA ho));refine vz (PS:=λh2=>∃o es ep t,SetW h2 s.heap.objs.size [Value.str x tk] (!X.w.params.followText "set-order") 1 o es ep t) ho hc iQ hX (by decide) (itO:={ cls:=.type "list_iterator", data:=.fields #[.ref a,.int 0 0] })
  (λA Q E s1 e k=>d0 ⟨o,e,hc,n,hd⟩ k) (λtk' R hR=>?_) λh2 k2 ⟨o,es,ep,t,x'⟩ kk=>h h2 k2 o es ep t _ ⟨tk,rfl⟩ x' kk
 have ke:∀{b:Addr} {o':Obj},s.heap.get? b=some o'->((s.heap.push (rS (!X.w.params.followText "set-order"))).push { cls:=.type "list_iterator", data:=.fields #[.ref a,.int 0 0] }).get? b=some o':=λe=>az _ (az _ e);have it:((s.heap.push (rS (!X.w.params.followText "set-order"))).push { cls:=.type "list_iterator", data:=.fields #[.ref a,.int 0 0] }).get? (s.heap.objs.size+1)=some { cls:=.type "list_iterator", data:=.fields #[.ref a,.int 0 0] }:=by rw[show s.heap.objs.size+1=(s.heap.push (rS (!X.w.params.followText "set-order"))).objs.size from(bT _ _).symm];exact aQ _ rfl
 have W:=(fP (prog:=X.prog) (w:=X.w) (A:=A.in1.in1.in1) h3 (s.heap.objs.size+1) a hne #[Value.str x tk]).toS;have notin:s.heap.objs.size∉[s.heap.objs.size+1,a]:=by
  intro z;rcases aF.mp z with z|z
  ·exact ai z (aD (bS _))
  ·exact ai (aU.mp z) (dQ (aA ho))
 have nw:s.heap.objs.size∉[s.heap.objs.size+1]:=λz=>ai (aU.mp z) (aD (bS _));refine cu dW ?_;rw[cI cg _];show ae _ A.in1.in1.in1 (pyNext (.ref (s.heap.objs.size+1))>>=_) _ _ _;refine af (W.item 0 _ _ _ Nat.zero_lt_one ⟨⟨_,it,rfl,rfl⟩,⟨o,ke ho,hc,n,hd⟩⟩ λv s1 hP st1 m1=>?_);obtain rfl:Value.str x tk=v:=bB hP;show ae _ A.in1.in1.in1 (holding _ (setAdd s.heap.objs.size _)>>=_) _ _ s1;refine af (bz ?_);unfold setAdd;refine bz ?_;refine af (kF ?_);refine add_txt (s:={ s1 with toks:=s1.toks+1 }) (m1.heap _ _ nw (az _ (aQ _ rfl))) rfl λh' j sb hg=>?_;refine ao ⟨dN cg _,?_⟩;refine cu dW ?_;rw[cI cg _];show ae _ A.in1.in1.in1 (pyNext (.ref (s.heap.objs.size+1))>>=_) _ _ _;refine af (W.done _ _ _ (W.frame 1 s1 h' _ st1 (eE _ 1) λb z o e=>by rw[sb.2 b (λy:b=s.heap.objs.size=>notin (y▸z))];exact e) λs2 m2=>?_);show ae _ A.in1.in1.in1 (ret Value.none) _ _ s2;have mv:=gG W.gtrans ((m1.mono (wr':=s.heap.objs.size::[s.heap.objs.size+1]) λb z=>aG _ z).then_heap (tk:=s1.toks+1) (eE _ _) λb o z e=>by rw[sb.2 b (λy:b=s.heap.objs.size=>z (by rw[y];exact aH))];exact e) (m2.mono λb z=>aG _ z);have hg2:=m2.heap _ _ nw hg;obtain⟨h2,g2,d2,k2,o2'⟩:=s2;have eg:g2=s.gens:=mv.gens;have ed:d2=s.drawn:=mv.drawn;have eo:o2'=s.os:=mv.os;subst eg ed eo;refine ao (hR h2 k2 ⟨_,_,_,_,⟨hg2,⟨rfl,rfl,rfl⟩,rfl,⟨7,⟨rfl,rfl,rfl⟩,.inl ⟨rfl,by decide⟩⟩,rfl,λ_=>rfl,.refl _⟩⟩ λb o hb e=>mv.heap b o (λz=>?_) (ke e));rcases aF.mp z with z|z
 ·exact ai z (aD hb)
 ·exact ai (aU.mp z) (aD (cn hb))
end
section
variable{prog:aq}{w:aj}{A:ar}{E:aa->ab->Prop}{s:ab}
theorem sort_one{l:Addr}{n:Nat}{P:mw->ab->Prop}(ho:s.heap.get? l=some (seqObj "list" [Value.str x tk].toArray n))
  (h:∀h' e tk',v9 l s.heap h'->h'.get? l=some (seqObj "list" [Value.str x tk'].toArray e)->P (.done (.ret .none)) { s with heap:=h' }):
  ae (model prog w) A (cf.«list.sort» ⟨[.ref l],[]⟩) P E s:=by
 have sa:nK [Value.str x tk] [x]:=by repeat constructor
 refine list_sort_treeK strKind_oneLt ho sa.keysOf (λv₁ v₂ rest e=>by cases e) (bY rfl) λst' a1 a2=>?_;obtain⟨ss',b1,b2,b3⟩:=sorted_out_str sa a1 a2;have e0:ss'=[x]:=j7.mp b2;subst e0;obtain⟨tk',e1⟩:∃tk',((arrOf st').map (·.2))=#[Value.str x tk']:=by
  cases b1':((arrOf st').map (·.2)).toList with
  |nil=>rw[b1']at b1;cases b1
  |cons a r=>
   rw[b1']at b1;cases b1 with
   |cons y t h'=>cases h';exact⟨t,by rw[<-Array.toList_inj,b1']⟩
 obtain⟨e,he⟩:=sortedHeap_at (vs:=[Value.str x tk]) (out:=(arrOf st').map (·.2)) ho
 rw[e1]at he ⊢;exact h _ e tk' (λb o hb z=>by rw[sortedHeap_old hb (aA z)];exact z) he
theorem sorted_txt{S:Addr}{o:Obj}{t:aP}(hh:A.handled=none)(X:SetW s.heap S [Value.str x tk] (!w.params.followText "set-order") 1 o es ep t)
  (hQ:∀(p:Addr) (h2:Heap) (k2:Nat) (d2:Drawn) (e:Nat) (tk':Tok),s.heap.objs.size<=p->(∀b o,s.heap.get? b=some o->h2.get? b=some o)->h2.get? p=some (seqObj "list" [Value.str x tk'].toArray e)->Q (.ref p) { s with heap:=h2,toks:=k2,drawn:=d2 }):
  ae (model prog w) A (call (.builtin "sorted") [.ref S]) Q E s:=by
 refine jA kind_sorted plain_sorted entry_sorted (args_sorted1 _) ?_;unfold cf.«sorted»;refine af (m:=checkCount "sorted" 1 1 _) (ao ?_);refine af (collect_W (by simp[hh]) X rfl λg k2 d2 acc hz kk pa=>?_);obtain rfl:=j7.mp pa;refine af (iY ?_ (by rw[aZ];exact bY rfl));have on:(g.push (seqObj "list" [Value.str x tk].toArray 0)).get? g.objs.size=some (seqObj "list" [Value.str x tk].toArray 0):=aQ _ rfl;show ae _ _ _ _ _ { s with heap:=g.push (seqObj "list" [Value.str x tk].toArray 0),toks:=k2,drawn:=d2 };refine af (bz (eB ly ⟨_,on,rfl⟩ kW ?_ (lA _)));refine sort_one (s:={ s with heap:=g.push (seqObj "list" [Value.str x tk].toArray 0),toks:=k2,drawn:=d2 }) on λh' e tk' kb he=>?_;exact⟨_,rfl,ao ⟨_,rfl,hQ g.objs.size h' k2 d2 e tk' hz (λb o z=>kb b o (aD (aA (kk b o z))) (az _ (kk b o z))) he⟩⟩
end
section
variable{X:Cx}{G:Bg}
def tSort1(K:ak)(te:TE):TE:=λσ H Q=>te σ H λx H1=>∃(a:Addr) (z:Str),x=.ref a/\SqL K H1 a [V.str z]/\∀(p:Addr),H1 p=none->Q (.ref p) (upd H1 p (.lst [V.str z]))
theorem pe_sort1{te:TE}{p1 p2 p3 p4:Pos}(hc:X.calm=true)(g1:Gl X "sorted")(m1:X.mg "sorted" = none)(g2:Gl X "set")(m2:X.mg "set" = none)(he:PE X e te)
  (z1:au [Expr.Call (.Name "set" p2) [e] [] p3] X.env=[(false,eval (.Call (.Name "set" p2) [e] [] p3) X.env)]:=by rfl) (z2:au [e] X.env=[(false,eval e X.env)]:=by rfl):PE X (.Call (.Name "sorted" p1) [.Call (.Name "set" p2) [e] [] p3] [] p4) (tSort1 X.K te):=by
 intro pins s σ H Q I h;refine cK (ue I g1 m1 boot_sorted ?_ (by decide) (by decide));refine callWith_builtin1 ?_ z1 rfl;rw[z1];show ae _ _ (spliced [(false,eval (.Call (.Name "set" p2) [e] [] p3) X.env)]) _ _ s;refine cJ ?_;refine cK (ue I g2 m2 mj ?_ (by decide) (by decide));refine callWith_type1 (thn (pW he sj z2 p3 pins s σ H (λvs H1=>match vs with
  |[x]=>∃(a:Addr) (z:Str),x=.ref a/\SqL X.K H1 a [V.str z]/\∀(p:Addr),H1 p=none->Q (.ref p) (upd H1 p (.lst [V.str z]))
  |_=>False) I h) λus s1 hh=>?_) z2 rfl
 obtain⟨vs,H1,I1,r1,q1⟩:=hh
 match vs,r1,q1 with
 |[x],r1,q1=>
 obtain⟨a,z,e1,hq,q⟩:=q1;subst e1;obtain⟨u,rfl,ru⟩:=vals1 r1;cases ru;refine set_txt I1 (I1.ok.hd hc) hq λh2 k2 o es ep t u ru x kk=>?_;obtain⟨tk,rfl⟩:=ru;refine dw ?_;have I2:Inv X pins σ H1 { s1 with heap:=h2,toks:=k2 }:=I1.kept λb o e=>kk b o (aA e) e;refine sorted_txt (s:={ s1 with heap:=h2,toks:=k2 }) (I1.ok.hd hc) x λp h3 k3 d3 e tk' hp k4 hg=>?_;have I3:=I2.laid (t':=k3) (o:=.lst [V.str z]) k4 hp ⟨by show 1<=av;rw[aZ];decide,[Value.str z tk'],e,.cons ⟨tk',rfl⟩ .nil,hg⟩;exact⟨.ref p,_,Inv.drw I3 d3,rfl,q p (I2.hok.fresh hp)⟩
def cSortSet1(f:FE):FA:=λρ=>match f ρ with
 |some (.lst [.str z],ρ')=>some ([.str z],ρ')
 |_=>none
theorem pfn_sort1(h:PE X e (tSort1 G.K (tF G f))):PE X e (tFN G (cSortSet1 f)):=PE.weak h λσ H Q hh=>by
 obtain⟨F,ρ,H0,es,ρ',R,e,k⟩:=hh;unfold cSortSet1 at e;split at e
 ·rename_i z ρ1 e1;cases e;refine⟨F,ρ,H0,_,_,R,e1,λv H1 H1' s R' r=>?_⟩;unfold Rep at r;obtain⟨a,xs,rfl,h1,h2⟩:=r;unfold og at h2;obtain⟨v,r0,rfl,rv,rn⟩:=h2;unfold og at rn;unfold Rep at rv;subst rn rv;exact⟨a,z,rfl,SqL.of (R'.sub _ _ h1),λp hp=>k p _ _ _ s (R'.newOwn hp _) ox (R'.h0none hp) (R'.bNone hp) (R'.apart hp) (oZ (rR z) oV)⟩
 ·cases e
end
section
variable{X:Cx}{B:Bz}{k:Nat}{e:Expr}{f:FE}{p p2 p3 pos:Pos}
theorem zr_w1I [C:Cz X B k][N:Nb B "sorted"][N':Nb B "set"](hs:S1 X e)(hg:Gz X "sorted")(hg':Gz X "set")(ha:ZE X B e f)(z:au [Expr.Call (.Name "set" p2) [e] [] p3] X.env=[(false,eval (.Call (.Name "set" p2) [e] [] p3) X.env)]):ZN X B (.Call (.Name "sorted" p) [.Call (.Name "set" p2) [e] [] p3] [] pos) (cSortSet1 f):=⟨pfn_sort1 (by rw[<-C.K];exact pe_sort1 C.c hg (C.mg▸N.p) hg' (C.mg▸N'.p) ha.p z hs)⟩
end
section
variable{P:aq}{w:aj}{mg:Str->Option aa}{base:Heap}{G:Bg}{x:Str}
def GX(K:ak)(x s:Str):Prop:=∃t:Tok,nsIn K aC x=some (some (.str s t))
theorem const_str{h:Heap}{z:Str}{t:Tok}(X:G.K.In h)(Gn:h.Ns aC mg)(e:nsIn G.K aC x=some (some (.str z t))):sP G mg x (.str z):=
 ⟨.str z,_,fT X Gn e,⟨_,rfl⟩,λ_=>rR _⟩
theorem Yw.cx(y:Yw P w mg base G){s:Str}(q:GX G.K x s):sP G mg x (.str s):=by obtain⟨h,X,Gn⟩:=y.m;obtain⟨t,e⟩:=q;exact const_str X Gn e
end
section
variable{X:Cx}{G:Bg}
def rInT(K:ak):R2:=λx y H Q=>∃p xs d l,y=.ref p/\SqL K H p xs/\L3.Rep K H d x/\L3.og K H l xs/\dpt d<=20/\(∀e∈l,dpt e<=20)/\Q (.bl (l.any λe=>eqD e d)) H
theorem reps_mem{K:ak}{H:Hp}:∀{l:List L3.Dq} {xs:List V} {us:List aa},L3.og K H l xs->Vals xs us->(∀u∈us,∃e∈l,∃x,L3.Rep K H e x/\RelV x u)/\∀e∈l,∃u∈us,∃x,L3.Rep K H e x/\RelV x u
 |[],xs,us,r,v=>by unfold L3.og at r;subst r;cases v;exact⟨λu hu=>(by cases hu),λe he=>(by cases he)⟩
 |d::l,xs,us,r,v=>by
  unfold L3.og at r;obtain⟨x,r',rfl,h1,h2⟩:=r;cases v with
  |cons v1 v2=>
   obtain⟨q1,q2⟩:=reps_mem h2 v2;refine⟨λu hu=>?_,λe he=>?_⟩
   ·rcases aF.mp hu with rfl|hu
    ·exact⟨d,aH,x,h1,v1⟩
    ·obtain⟨e,he,z⟩:=q1 u hu;exact⟨e,aG _ he,z⟩
   ·rcases aF.mp he with rfl|he
    ·exact⟨_,aH,x,h1,v1⟩
    ·obtain⟨u,hu,z⟩:=q2 e he;exact⟨u,aG _ hu,z⟩
theorem op_inT(hu:X.A.units+64<cLine):OpR X (aO .In) (rInT X.K):=by
 intro pins s σ H x y v u Q I rx ry h;obtain⟨p,xs,d,l,rfl,hq,rd,rl,hd,hl,q⟩:=h;cases ry;obtain⟨its,r,pl,hz⟩:=I.list hq;obtain⟨m1,m2⟩:=reps_mem rl r;have ea:∀e∈l,∀z w,L3.Rep X.K H e z->RelV z w->fO X.A.in1 s w v (eqD e d):=λe he z w h1 h2=>Jf I e d z x w v X.A.in1 h1 rd h2 rx (by have:=hl e he;show X.A.units+1+_+_<_;omega);let f:aa->Bool:=λw=>@decide (∃e∈l,∃z,L3.Rep X.K H e z/\RelV z w/\eqD e d=true) (eZ _);refine kP f pl.isList (λw hw=>?_) ⟨.bl _,H,I,rfl,?_⟩
 ·by_cases hf:∃e∈l,∃z,L3.Rep X.K H e z/\RelV z w/\eqD e d=true
  ·have ef:f w=true:=@bj _ (eZ _) hf;obtain⟨e,he,z,h1,h2,h3⟩:=hf;have:=ea e he z w h1 h2;rw[h3]at this;rw[ef];exact this
  ·have ef:f w=false:=@aY _ (eZ _) hf;obtain⟨e,he,z,h1,h2⟩:=m1 w (by simpa using hw);have:=ea e he z w h1 h2;rw[Bool.eq_false_iff.mpr λh3=>hf ⟨e,he,z,h1,h2,h3⟩]at this;rw[ef];exact this
 ·have eq:its.toArray.any f=l.any λe=>eqD e d:=by
   rw[show its.toArray.any f=its.any f by simp];refine cp.mpr ?_;rw[gv,gv];constructor
   ·rintro⟨w,hw,hf⟩;obtain⟨e,he,z,h1,h2,h3⟩:=@gn _ (eZ _) hf;exact⟨e,he,h3⟩
   ·rintro⟨e,he,h3⟩;obtain⟨w,hw,z,h1,h2⟩:=m2 e he;exact⟨w,hw,@bj _ (eZ _) ⟨e,he,z,h1,h2,h3⟩⟩
  rw[eq];exact q
def dInT:D->D->Option D:=λx y=>match y with
 |.lst ds=>match toD x,Au ds with
  |some d,some l=>if decide (dpt d<=20)&&l.all (λe=>decide (dpt e<=20))then some (.bl (l.any λe=>eqD e d))else none
  |_,_=>none
 |_=>none
theorem od_inT:OpD G (rInT G.K) dInT:=λx y z H0 H v u Q e s rx ry k=>by
 unfold dInT at e;split at e
 ·rename_i ds;cases e1:toD x with
  |none=>simp only[e1]at e;cases e
  |some d=>
   cases e2:Au ds with
   |none=>simp only[e1,e2]at e;cases e
   |some l=>
    simp only[e1,e2]at e;split at e
    ·rename_i hc;cases e;rw[aE,aX,aS]at hc;have ry:=Rep.mono s _ _ ry;unfold Rep at ry;obtain⟨a,xs,rfl,h1,h2⟩:=ry;exact⟨a,xs,d,l,rfl,SqL.of h1,zY x v d (Rep.mono s _ _ rx) e1,xC ds xs l h2 e2,hc.1,λe he=>gn (hc.2 e he),k _ λ_ _=>pZ _⟩
    ·cases e
 ·cases e
instance inT2:CmC .In dInT:=⟨λX G h hu=>⟨_,by rw[<-h];exact op_inT hu,od_inT⟩⟩
end
section
variable{X:Cx}{B:Bz}{k i:Nat}{e:Expr}{f:FE}{a:FA}{x:Str}{p p2 p3 pos apos:Pos}
theorem zr_xsI{j:Int}{jj}(h:sees X i x=true)(he:ZE X B e f)(hs:swapsWithSole [.Subscript (.Name x p) (.Constant (.int j) jj p2) p3] e pos.line X.env=pure false)(hw:swappedStores [.Subscript (.Name x p) (.Constant (.int j) jj p2) p3] e X.env=pure none)
  (h1:(bJ [.Subscript (.Name x p) (.Constant (.int j) jj p2) p3] X.env).map (·.2)=[assign (.Subscript (.Name x p) (.Constant (.int j) jj p2) p3) X.env]):ZS X B (.Assign [.Subscript (.Name x p) (.Constant (.int j) jj p2) p3] e pos) (tG i j f):=⟨HV (IC he.p (N4 (pvI h) ES set_list) hs hw h1)⟩
theorem zr_xeI [C:Cz X B k](h:sees X i x=true)(hb:Az X (.Name x p) "extend")(hl:Ez apos pos)(hs:S1 X e)(ha:ZN X B e a):ZE X B (.Call (.Attribute (.Name x p) "extend" apos) [e] [] pos) (Mb i a):=
 ⟨HJ (bmI hb hl hs gr gf kl Ht (pvI h) (pW ha.p sj hs))⟩
end
section
variable{B:Bz}[Y:Yb B]{k np n:Nat}{b:FS}{x p:Str}{ps:List Str}{st s0:Stmt}{l:List Stmt}
theorem gM5(N:List Str){g:List D->List D->Option (D×List D)}(hg:g=fnM np n b)(q:GD B.G.K x st)(hl:oY st=s0::l)(hp:psO st=p::ps)(body:Bdz B N x st (s0::l) k b)(S:okO N (p::ps) st (np+1) n=true:=by kernel_rfl)(bd:Bds x x st (p::ps):=by (repeat intro _);rfl):Df B (k+1) x (spM B.G g):=
 ⟨_,gM hg Y.y q (okk S).1 (body.ok hl) (fM (okk S).2.1) (okk S).2.2 bd⟩
end
end L4
namespace K35x
open PySem L2 L3 L4
abbrev D:=L4.D
def top(i:Nat):Stmt:=PySem.Challenge.pw_tellworld_k35_the_first_rule_that_fits.main.body.getD i (.Pass ⟨0,0,0,0⟩)
def tY:Nat->Bool:=λc=>c==14
def r6:Nat->Bool:=λc=>c==13
def sm:Nat->Bool:=λc=>c==2
def yM:Nat->Bool:=λc=>c==9
def rA:Nat->Bool:=λc=>c==2
def wC:Nat->Bool:=λc=>c==14
def sq:Nat->Bool:=λc=>c==14
def qA:Nat->Bool:=λc=>c==14
def vC:Nat->Bool:=λc=>c==14
def wF:Nat->Bool:=λc=>c==14
def pE:Nat->Bool:=λc=>c==0||c==7
def vE:Nat->Bool:=λc=>c==1
def sS:Nat->Bool:=λc=>c==14
def o7:Nat->Bool:=λc=>c==0||c==1||c==2
def Dy:Nat->Bool:=λc=>c==10
def yN:Nat->Bool:=λc=>c==10
def sr:Nat->Bool:=λc=>c==2
def yO:Nat->Bool:=λc=>c==3||c==11
def qe:Nat->Bool:=λc=>c==13
def p8:Nat->Bool:=λc=>c==14
def tZ:Nat->Bool:=λc=>c==14
def t6:Nat->Bool:=λc=>c==14
def qt:Nat->Bool:=λc=>c==0||c==1
def qT:Nat->Bool:=λc=>c==3||c==4||c==5||c==6||c==7||c==11||c==12
def r9:Nat->Bool:=λc=>c==13
def su:Nat->Bool:=λc=>c==13
def sv:Nat->Bool:=λc=>c==14
def sd:Nat->Bool:=λc=>c==6||c==12
def qy:Nat->Bool:=λc=>c==13
def sT:Nat->Bool:=λc=>c==14
def AQ:Nat->Bool:=λc=>c==8
def t7:Nat->Bool:=λc=>c==0
def tI:Nat->Bool:=λc=>c==14
abbrev Te:Ty->Option Bool:=qR 16 3
abbrev KB:Ty->Option Bool:=qR 16 10
abbrev NB:Ty->Option Bool:=qR 16 4
abbrev KC:Ty->Option Bool:=qR 16 7
abbrev NC:Ty->Option Bool:=qR 16 15
abbrev KD:Ty->Option Bool:=qR 16 1
abbrev EA:Ty->Option Bool:=qR 16 6
abbrev KE:Ty->Option Bool:=qR 16 11
abbrev ND:Ty->Option Bool:=qR 16 9
abbrev NF:Ty->Option Bool:=qR 16 12
abbrev KF:Ty->Option Bool:=qR 16 13
abbrev KG:Ty->Option Bool:=qR 16 5
abbrev GT:Ty->Option Bool:=qR 16 0
abbrev KH:Ty->Option Bool:=qR 16 2
abbrev KI:Ty->Option Bool:=qR 16 8
def vF:L4.D:=(D.int 8)
def vG:L4.D:=(D.int 12)
def AR:L4.D:=(D.tup [(D.str "it"),(D.str "other"),(D.str "here"),(D.str "the"),(D.str "a"),(D.str "undo"),(D.str "restart")])
def AS:L4.D:=(D.tup [(D.str "the"),(D.str "a")])
def rK:L4.D:=(D.str "Nothing comes of it.")
def vH:L4.D:=(D.str "That cannot be.")
def DA:L4.D:=(D.tup [(D.str "room"),(D.str "plain"),(D.str "fixed"),(D.str "box"),(D.str "lamp"),(D.str "you")])
def GU:L4.D:=(D.tup [(D.str "alone"),(D.str "one"),(D.str "two"),(D.str "way")])
def sU:L4.D:=(D.tup [(D.str "room"),(D.str "box"),(D.str "you")])
def sV:L4.D:=(D.tup [(D.str "box"),(D.str "lamp")])
def wG:L4.D:=(D.tup [(D.str "room"),(D.str "you")])
def xJ:L4.D:=(D.int 5)
def xK:L4.D:=(D.int 4)
def sW:L4.D:=(D.int 4)
def xM:L4.D:=(D.int 60)
def sX:L4.D:=(D.int 3)
def xN:L4.D:=(D.int 5)
def wH:L4.D:=(D.int 7)
def xO:L4.D:=(D.int 4)
def vI:L4.D:=(D.int 3)
def zi:L4.D:=(D.int 10)
def xP:L4.D:=(D.int 6)
def xQ:L4.D:=(D.int 4)
def sy:L4.D:=(D.tup [(D.str "the"),(D.str "a"),(D.str "undo"),(D.str "restart")])
def xR:L4.D:=(D.int 20)
def sA:FS:=(oo (ph (c1 (pj (pI "str")) (cV 0)) (ph (q9 uo uo (cC (.int 1)) (c1 uq (cV 0)) (cV 1)) (c1 rJ (cL (oS 1 [] (iS (cV 0)) (gN 0) pH (q9 JE JE (cS "a") (cV 0) (cS "z"))))))))
def qE:=fnD 2 2 sA
def B8:FS:=(oo (ph (oa qE (aCons (cV 0) (a1 (cC vF)))) (c2 (dIn true) (cV 0) (cC AR))))
def t8:=fnD 1 1 B8
def B9:FS:=(oo (ph (oa qE (aCons (cV 0) (a1 (cC vG)))) (c2 (dIn true) (cV 0) (cC AS))))
def t9:=fnD 1 1 B9
def zj:FS:=(oo (ph (c1 (pj (pI "str")) (cV 0)) (c2 (dIn false) (cV 0) (cV 1))))
def pJ:=fnD 2 2 zj
def AU:FS:=(oo (ph (c1 (pj (pI "int")) (cV 0)) (DX (c1 (pj (pI "bool")) (cV 0)))))
def uC:=fnD 1 1 AU
def uR:FS:=(oo (ph (c1 (pj (pI "list")) (cV 0)) (c2 uo (c1 uq (cV 0)) (cV 1))))
def pd:=fnD 2 2 uR
def AV:FS:=(oo (cIf (cT (c1 (pj (pI "list")) (cV 0))) (cL (sO (cV 0))) (cV 0)))
def xf:=fnD 1 1 AV
def uD:FS:=(oe (o5 0 0 "name" (cV 1))
 (oe (o5 0 0 "words" (cV 2))
 (oe (o5 0 0 "kind" (cV 3))
 (o5 0 0 "start" (cV 4)))))
def qu:=fnI 0 4 5 uD
def zk:FS:=(oe (o5 1 0 "name" (cV 1))
 (oe (o5 1 0 "start" (cV 2))
 (o5 1 0 "most" (cV 3))))
def sY:=fnI 1 3 4 zk
def vJ:FS:=(oe (o5 2 0 "name" (cV 1))
 (oe (o5 2 0 "others" (cIf (cT (c2 tV (cV 2) (cC D.non))) (oQ oT) (cV 2)))
 (oe (o5 2 0 "form" (cV 3))
 (o5 2 0 "joining" (cV 4)))))
def pz:=fnI 2 4 5 vJ
def Ca:FS:=(oe (o5 3 0 "term" (cV 1))
 (o5 3 0 "place" (cV 2)))
def yP:=fnI 3 2 3 Ca
def AW:FS:=(o5 4 0 "term" (cV 1))
def xg:=fnI 4 1 2 AW
def wI:FS:=(oe (o5 6 0 "term" (cV 1))
 (o5 6 0 "value" (cV 2)))
def o6:=fnI 6 2 3 wI
def zl:FS:=(oe (o5 7 0 "term" (cV 1))
 (o5 7 0 "kind" (cV 2)))
def qf:=fnI 7 2 3 zl
def zm:FS:=(o5 8 0 "word" (cV 1))
def zp:=fnI 8 1 2 zm
def AX:FS:=(o5 9 0 "inner" (cV 1))
def pR:=fnI 9 1 2 AX
def zq:FS:=(oe (o5 10 0 "one" (cV 1))
 (o5 10 0 "other" (cV 2)))
def zr:=fnI 10 2 3 zq
def zt:FS:=(oe (o5 11 0 "term" (cV 1))
 (o5 11 0 "place" (cV 2)))
def rD:=fnI 11 2 3 zt
def AY:FS:=(oe (o5 12 0 "term" (cV 1))
 (o5 12 0 "value" (cV 2)))
def pB:=fnI 12 2 3 AY
def vK:FS:=(oe (o5 13 0 "verb" (cV 1))
 (oe (o5 13 0 "tests" (oa xf (a1 (cV 2))))
 (oe (o5 13 0 "deeds" (oa xf (a1 (cV 3))))
 (oe (o5 13 0 "text" (cV 4))
 (o5 13 0 "refuses" (cV 5))))))
def o8:=fnI 13 5 6 vK
def ua:FS:=(oo (c2 (dIn false) (c1 (ou pE "kind") (cV 0)) (cC sU)))
def yQ:=fnD 1 1 ua
def qU:Nat->Option (List D->Option D):=λc=>match c with
 |0=>some yQ
 |_=>none
def ub:FS:=(oo (c2 (dIn false) (c1 (ou pE "kind") (cV 0)) (cC sV)))
def yR:=fnD 1 1 ub
def qV:Nat->Option (List D->Option D):=λc=>match c with
 |0=>some yR
 |_=>none
def sC:FS:=(oo (c2 (dIn true) (c1 (ou pE "kind") (cV 0)) (cC wG)))
def xh:=fnD 1 1 sC
def pV:Nat->Option (List D->Option D):=λc=>match c with
 |0=>some xh
 |_=>none
def uS:FS:=(sIf (pN (cT (cV 0))) Mt oI)
def oq:=fnD 2 2 uS
def AZ:FS:=(oo (c1 uq (cL (oS 1 [1] (iL (cV 0)) (gN 0) (cT (c2 (dEq false) (c1 (ou pE "kind") (cV 0)) (cV 1))) (cV 0)))))
def xi:=fnD 2 2 AZ
def xS:FS:=(qb (oS 1 [] (iL (cV 0)) (gN 0) (cT (oU pV "is_plainly" (cV 0) oT)) (cV 0)))
def rT:=fnN 1 1 xS
def Cb:FS:=(oe (sIf (rH (pN (cT (c1 (pj KD) (cV 0)))) (rH (pN (cT (oa uC (a1 (c1 (ou qt "start") (cV 0)))))) (pN (cT (oa uC (a1 (c1 (ou vE "most") (cV 0)))))))) (oo (cC (.bl false))) oI)
 (oo (ph (q9 uo uo (cC (.int 1)) (c1 (ou vE "most") (cV 0)) (cC vI)) (q9 uo uo (cC (.int 0)) (c1 (ou qt "start") (cV 0)) (c1 (ou vE "most") (cV 0))))))
def Cc:=fnD 1 1 Cb
def vL:FS:=(oe (oP 1 (ph (c1 (pj (pI "list")) (cV 0)) (c1 rJ (cL (oS 1 [] (iL (cV 0)) (gN 0) pH (c1 (pj GT) (cV 0)))))))
 (oe (o4 (oa oq (aCons (cV 1) (a1 (cS "things are a list of things")))))
 (oe (o4 (oa oq (aCons (c1 rJ (cL (oS 1 [] (iL (cV 0)) (gN 0) pH (oa pJ (aCons (c1 (ou pE "kind") (cV 0)) (a1 (cC DA))))))) (a1 (cS "a thing is of no kind")))))
 (oe (o4 (oa oq (aCons (q9 uo uo (cC (.int 1)) (oa xi (aCons (cV 0) (a1 (cS "room")))) (cC xN)) (a1 (cS "a world has 1 to 5 rooms")))))
 (oe (o4 (oa oq (aCons (c2 (dEq false) (oa xi (aCons (cV 0) (a1 (cS "you")))) (cC (.int 1))) (a1 (cS "a world has just one you")))))
 (o4 (oa oq (aCons (c2 uo (c1 uq (cL (pF rT (a1 (cV 0))))) (cC wH)) (a1 (cS "a world has at most 7 things beside rooms and you"))))))))))
def vM:=fnD 1 2 vL
def wJ:FS:=(oe (oP 1 (ph (oa pd (aCons (cV 0) (a1 (cC xO)))) (c1 rJ (cL (oS 1 [] (iL (cV 0)) (gN 0) pH (oa Cc (a1 (cV 0))))))))
 (o4 (oa oq (aCons (cV 1) (a1 (cS "marks are a list of at most 4 marks, each from 0 to at most 3"))))))
def wK:=fnD 1 2 wJ
def xT:FS:=(oo (c2 (dEq false) (c1 (AF Du) (cV 0)) (c1 uq (cV 0))))
def qv:=fnD 1 1 xT
def wL:FS:=(oe (oP 2 (cL (qQ (cL (oS 1 [] (iL (cV 0)) (gN 0) pH (c1 (ou o7 "name") (cV 0)))) (cL (oS 1 [] (iL (cV 1)) (gN 0) pH (c1 (ou o7 "name") (cV 0)))))))
 (oe (o4 (oa oq (aCons (c1 rJ (cL (oS 1 [] (iL (cV 2)) (gN 0) pH (oa t8 (a1 (cV 0)))))) (a1 (cS "a name is no name")))))
 (o4 (oa oq (aCons (oa qv (a1 (cV 2))) (a1 (cS "two things or marks have one name")))))))
def wM:=fnD 2 3 wL
def xU:FS:=(qb (qQ (cL (oS 1 [] (iL (cV 0)) (gN 0) (cT (oU qV "has_mark" (cV 0) oT)) (c1 (ou o7 "name") (cV 0)))) (cL (oS 1 [] (iL (cV 1)) (gN 0) pH (c1 (ou o7 "name") (cV 0))))))
def uE:=fnN 2 2 xU
def A0:FS:=(oe (sIf (cT (c2 (dEq false) (c1 (ou pE "kind") (cV 1)) (cS "room"))) (oo (c2 tV (c1 (ou qt "start") (cV 1)) (cC D.non))) oI)
 (oe (sIf (cT (c2 (dEq false) (c1 (ou pE "kind") (cV 1)) (cS "you"))) (oo (oa pJ (aCons (c1 (ou qt "start") (cV 1)) (a1 (cL (oS 1 [] (iL (cV 0)) (gN 0) (cT (c2 (dEq false) (c1 (ou pE "kind") (cV 0)) (cS "room"))) (c1 (ou o7 "name") (cV 0)))))))) oI)
 (oo (oa pJ (aCons (c1 (ou qt "start") (cV 1)) (a1 (cL (oS 1 [] (iL (cV 0)) (gN 0) (cT (oU qU "can_hold" (cV 0) oT)) (c1 (ou o7 "name") (cV 0))))))))))
def A2:=fnD 2 2 A0
def uT:FS:=(oe (oP 2 (c2 BV (cV 0) (cV 1)))
 (oe (qd (iR1 (c1 uq (cV 0))) (gN 3) (oe (sIf (cT (c2 tV (cV 2) (cC D.non))) (oo (cC (.bl true))) oI)
 (oP 2 (c2 BV (cV 0) (cV 2)))))
 (oo (c2 tV (cV 2) (cC D.non)))))
def uU:=fnD 2 4 uT
def vN:FS:=(oe (o4 (oa oq (aCons (c1 rJ (cL (oS 1 [0] (iL (cV 0)) (gN 0) pH (oa A2 (aCons (cV 1) (a1 (cV 0))))))) (a1 (cS "a start is none")))))
 (oe (AC 1)
 (oe (qd (iL (cV 0)) (gN 2) (uw 1 (c1 (ou o7 "name") (cV 2)) (c1 (ou qt "start") (cV 2))))
 (o4 (oa oq (aCons (c1 rJ (cL (oS 1 [1] (iD (cFz 1)) (gN 0) pH (oa uU (aCons (cV 1) (a1 (cV 0))))))) (a1 (cS "a thing starts within itself"))))))))
def vO:=fnD 1 3 vN
def zu:FS:=(oe (sIf (rH (pN (cT (c1 (pj (pI "tuple")) (cV 0)))) (pN (cT (q9 uo uo (cC (.int 1)) (c1 uq (cV 0)) (cC xQ))))) (oo (cC (.bl false))) oI)
 (oo (ph (c1 rJ (cL (oS 1 [] (iT (cV 0)) (gN 0) pH (oa t9 (a1 (cV 0)))))) (oa qv (a1 (cV 0))))))
def zv:=fnD 1 1 zu
def Cd:FS:=(oo (c1 rJ (cL (oS 1 [0] (iT (cV 1)) (gN 0) pH (c2 (dIn false) (cV 0) (cV 1))))))
def Ce:=fnD 2 2 Cd
def uV:FS:=(oe (oP 2 (cL (oS 1 [1] (iL (cV 0)) (gN 0) (cT (c2 (dEq true) (c1 (ou o7 "name") (cV 0)) (c1 (ou o7 "name") (cV 1)))) (cV 0))))
 (oo (DX (c1 HW (cL (oS 1 [1] (iL (cV 2)) (gN 0) pH (oa Ce (aCons (c1 (ou t7 "words") (cV 0)) (a1 (c1 (ou t7 "words") (cV 1)))))))))))
def uW:=fnD 2 3 uV
def qH:FS:=(oe (o4 (oa oq (aCons (c1 rJ (cL (oS 1 [] (iL (cV 0)) (gN 0) pH (oa zv (a1 (c1 (ou t7 "words") (cV 0))))))) (a1 (cS "a thing has 1 to 4 unlike words, as a tuple")))))
 (oe (oP 1 (cL (pF rT (a1 (cV 0)))))
 (o4 (oa oq (aCons (c1 rJ (cL (oS 1 [1] (iL (cV 1)) (gN 0) pH (oa uW (aCons (cV 1) (a1 (cV 0))))))) (a1 (cS "one thing has all words of another")))))))
def qI:=fnD 1 2 qH
def xV:FS:=(oe (oP 2 (ph (c1 (pj (pI "list")) (cV 0)) (ph (c1 rJ (cL (oS 1 [1] (iL (cV 0)) (gN 0) pH (oa pJ (aCons (cV 0) (a1 (cV 1))))))) (oa qv (a1 (cV 0))))))
 (o4 (oa oq (aCons (cV 2) (a1 (cS "dark is a list of rooms' names, each once"))))))
def xW:=fnD 2 3 xV
def EB:FS:=(oe (sIf (rH (pN (cT (c1 (pj (pI "tuple")) (cV 0)))) (cT (c2 (dEq true) (c1 uq (cV 0)) (cC (.int 4))))) (oo (cC (.bl false))) oI)
 (oe (oP 3 (cOr (c2 tV (c2 dIx (cV 0) (cC (.int 3))) (cC D.non)) (oa pJ (aCons (c2 dIx (cV 0) (cC (.int 3))) (a1 (cV 2))))))
 (oo (ph (oa pJ (aCons (c2 dIx (cV 0) (cC (.int 0))) (a1 (cV 1)))) (ph (oa t9 (a1 (c2 dIx (cV 0) (cC (.int 1))))) (ph (oa pJ (aCons (c2 dIx (cV 0) (cC (.int 2))) (a1 (cV 1)))) (cV 3)))))))
def EC:=fnD 3 4 EB
def xX:FS:=(oe (oP 3 (ph (oa pd (aCons (cV 0) (a1 (cC zi)))) (c1 rJ (cL (oS 1 [1,2] (iL (cV 0)) (gN 0) pH (oa EC (aCons (cV 0) (aCons (cV 1) (a1 (cV 2))))))))))
 (oe (o4 (oa oq (aCons (cV 3) (a1 (cS "ways are a list of at most 10 tuples (room, word, room, mark)")))))
 (o4 (oa oq (aCons (oa qv (a1 (cL (oS 1 [] (iL (cV 0)) (gN 0) pH (oQ (aCons (c2 dIx (cV 0) (cC (.int 0))) (a1 (c2 dIx (cV 0) (cC (.int 1)))))))))) (a1 (cS "two ways lead from one room by one word")))))))
def xY:=fnD 3 4 xX
def Cf:FS:=(oe (sIf (rH (pN (cT (c1 (pj KH) (cV 0)))) (rH (pN (cT (oa t8 (a1 (c1 (ou o7 "name") (cV 0)))))) (pN (cT (c1 (pj (pI "tuple")) (c1 (ou sr "others") (cV 0))))))) (oo (cC (.bl false))) oI)
 (oe (sIf (rH (pN (cT (c1 rJ (cL (oS 1 [] (iT (c1 (ou sr "others") (cV 0))) (gN 0) pH (oa t8 (a1 (cV 0)))))))) (pN (cT (oa pJ (aCons (c1 (ou sm "form") (cV 0)) (a1 (cC GU))))))) (oo (cC (.bl false))) oI)
 (oo (cIf (cT (c2 (dEq false) (c1 (ou sm "form") (cV 0)) (cS "two"))) (oa t9 (a1 (c1 (ou rA "joining") (cV 0)))) (c2 tV (c1 (ou rA "joining") (cV 0)) (cC D.non))))))
def Cg:=fnD 1 1 Cf
def wO:FS:=(oe (oP 1 (ph (oa pd (aCons (cV 0) (a1 (cC xP)))) (c1 rJ (cL (oS 1 [] (iL (cV 0)) (gN 0) pH (oa Cg (a1 (cV 0))))))))
 (o4 (oa oq (aCons (cV 1) (a1 (cS "verbs are a list of at most 6 verbs"))))))
def wQ:=fnD 1 2 wO
def zw:FS:=(oo (DX (c1 HW (cL (oS 1 [1] (iL (cV 0)) (gN 0) pH (c2 (dIn false) (cV 0) (cV 1)))))))
def sZ:=fnD 2 2 zw
def sD:FS:=(oe (uQ 3 (oM oT))
 (oe (qd (iL (cL (pF rT (a1 (cV 0))))) (gN 4) (o4 (Ek 3 (c1 (ou t7 "words") (cV 4)))))
 (oe (uQ 5 (oM oT))
 (oe (qd (iL (cV 2)) (gN 6) (o4 (Ek 5 (Ei (oQ (a1 (c1 (ou o7 "name") (cV 6)))) (c1 (ou sr "others") (cV 6))))))
 (oe (oP 7 (cL (qQ (cL (oS 1 [] (iL (cV 2)) (gN 0) (cT (c2 qP (c1 (ou rA "joining") (cV 0)) (cC D.non))) (c1 (ou rA "joining") (cV 0)))) (cL (oS 1 [] (iL (cV 1)) (gN 0) pH (c2 dIx (cV 0) (cC (.int 1))))))))
 (oe (o4 (oa oq (aCons (oa qv (a1 (cFz 5))) (a1 (cS "two verbs' names are alike")))))
 (oe (o4 (oa oq (aCons (oa sZ (aCons (cL (qQ (cFz 5) (cV 7))) (a1 (cFz 3)))) (a1 (cS "a verb's, way's or joining word is a word of a thing")))))
 (oe (o4 (oa oq (aCons (oa sZ (aCons (cL (qQ (cFz 5) (cV 7))) (a1 (cC sy)))) (a1 (cS "the, a, undo or restart is a word of the world")))))
 (o4 (oa oq (aCons (oa sZ (aCons (cV 7) (a1 (cFz 5)))) (a1 (cS "a way's or joining word is a verb's name")))))))))))))
def sE:=fnD 3 8 sD
def wR:FS:=(oe (o4 (oa vM (a1 (cV 0))))
 (oe (o4 (oa wK (a1 (cV 1))))
 (oe (o4 (oa wM (aCons (cV 0) (a1 (cV 1)))))
 (oe (o4 (oa vO (a1 (cV 0))))
 (oe (o4 (oa qI (a1 (cV 0))))
 (oe (oP 6 (cL (oS 1 [] (iL (cV 0)) (gN 0) (cT (c2 (dEq false) (c1 (ou pE "kind") (cV 0)) (cS "room"))) (c1 (ou o7 "name") (cV 0)))))
 (oe (o4 (oa xW (aCons (cV 2) (a1 (cV 6)))))
 (oe (o4 (oa xY (aCons (cV 3) (aCons (cV 6) (a1 (cL (pF uE (aCons (cV 0) (a1 (cV 1))))))))))
 (oe (o4 (oa wQ (a1 (cV 4))))
 (o4 (oa sE (aCons (cV 0) (aCons (cV 3) (a1 (cL (qQ (cV 4) (cV 5)))))))))))))))))
def wU:=fnD 6 7 wR
def KJ:FS:=(oo (oG 13 (λds=>o8 (ds++[])) (aCons (cV 0) (aCons (cV 1) (aCons (cV 2) (aCons (cV 3) (a1 (cC (.bl false)))))))))
def tJ:=fnD 4 4 KJ
def Ci:FS:=(oo (oG 13 (λds=>o8 (ds++[])) (aCons (cV 0) (aCons (cV 1) (aCons (cL (oM oT)) (aCons (cV 2) (a1 (cC (.bl true)))))))))
def px:=fnD 3 3 Ci
def xZ:FS:=(qb (oM (aCons (oa px (aCons (cS "take") (aCons (cL (oM (a1 (oG 7 (λds=>qf (ds++[])) (aCons (cS "it") (a1 (cS "fixed"))))))) (a1 (cS "That stays."))))) (aCons (oa px (aCons (cS "take") (aCons (cL (oM (a1 (oG 3 (λds=>yP (ds++[])) (aCons (cS "it") (a1 (cV 0))))))) (a1 (cS "You have that."))))) (aCons (oa tJ (aCons (cS "take") (aCons (cL (oM oT)) (aCons (cL (oM (a1 (oG 11 (λds=>rD (ds++[])) (aCons (cS "it") (a1 (cV 0))))))) (a1 (cS "Taken.")))))) (aCons (oa tJ (aCons (cS "drop") (aCons (cL (oM (a1 (oG 4 (λds=>xg (ds++[])) (a1 (cS "it")))))) (aCons (cL (oM (a1 (oG 11 (λds=>rD (ds++[])) (aCons (cS "it") (a1 (cS "here"))))))) (a1 (cS "Dropped.")))))) (a1 (oa px (aCons (cS "drop") (aCons (cL (oM oT)) (a1 (cS "You lack that."))))))))))))
def x9:=fnN 1 1 xZ
def zx:FS:=(qb (oM (aCons (oa px (aCons (cS "put") (aCons (cL (oM (a1 (oG 9 (λds=>pR (ds++[])) (a1 (oG 4 (λds=>xg (ds++[])) (a1 (cS "it")))))))) (a1 (cS "You lack that."))))) (aCons (oa px (aCons (cS "put") (aCons (cL (oM (a1 (oG 9 (λds=>pR (ds++[])) (a1 (oG 7 (λds=>qf (ds++[])) (aCons (cS "other") (a1 (cS "box"))))))))) (a1 (cS "It holds nothing."))))) (aCons (oa px (aCons (cS "put") (aCons (cL (oM (a1 (oG 6 (λds=>o6 (ds++[])) (aCons (cS "other") (a1 (cC (.int 0)))))))) (a1 (cS "It is shut."))))) (a1 (oa tJ (aCons (cS "put") (aCons (cL (oM oT)) (aCons (cL (oM (a1 (oG 11 (λds=>rD (ds++[])) (aCons (cS "it") (a1 (cS "other"))))))) (a1 (cS "Done."))))))))))))
def zy:=fnN 0 0 zx
def zz:FS:=(qb (oM (aCons (oa px (aCons (cS "open") (aCons (cL (oM (a1 (oG 9 (λds=>pR (ds++[])) (a1 (oG 7 (λds=>qf (ds++[])) (aCons (cS "it") (a1 (cS "box"))))))))) (a1 (cS "It has no lid."))))) (aCons (oa px (aCons (cS "open") (aCons (cL (oM (a1 (oG 6 (λds=>o6 (ds++[])) (aCons (cS "it") (a1 (cC (.int 1)))))))) (a1 (cS "It is open."))))) (aCons (oa tJ (aCons (cS "open") (aCons (cL (oM oT)) (aCons (cL (oM (a1 (oG 12 (λds=>pB (ds++[])) (aCons (cS "it") (a1 (cC (.int 1)))))))) (a1 (cS "Opened.")))))) (aCons (oa px (aCons (cS "shut") (aCons (cL (oM (a1 (oG 9 (λds=>pR (ds++[])) (a1 (oG 7 (λds=>qf (ds++[])) (aCons (cS "it") (a1 (cS "box"))))))))) (a1 (cS "It has no lid."))))) (aCons (oa px (aCons (cS "shut") (aCons (cL (oM (a1 (oG 6 (λds=>o6 (ds++[])) (aCons (cS "it") (a1 (cC (.int 0)))))))) (a1 (cS "It is shut."))))) (a1 (oa tJ (aCons (cS "shut") (aCons (cL (oM oT)) (aCons (cL (oM (a1 (oG 12 (λds=>pB (ds++[])) (aCons (cS "it") (a1 (cC (.int 0)))))))) (a1 (cS "Shut."))))))))))))))
def zA:=fnN 0 0 zz
def wV:FS:=(qb (oM (aCons (oa px (aCons (cS "light") (aCons (cL (oM (a1 (oG 9 (λds=>pR (ds++[])) (a1 (oG 7 (λds=>qf (ds++[])) (aCons (cS "it") (a1 (cS "lamp"))))))))) (a1 (cS "It burns not."))))) (aCons (oa px (aCons (cS "light") (aCons (cL (oM (a1 (oG 6 (λds=>o6 (ds++[])) (aCons (cS "it") (a1 (cC (.int 1)))))))) (a1 (cS "It is lit."))))) (aCons (oa tJ (aCons (cS "light") (aCons (cL (oM oT)) (aCons (cL (oM (a1 (oG 12 (λds=>pB (ds++[])) (aCons (cS "it") (a1 (cC (.int 1)))))))) (a1 (cS "Lit.")))))) (aCons (oa px (aCons (cS "douse") (aCons (cL (oM (a1 (oG 9 (λds=>pR (ds++[])) (a1 (oG 7 (λds=>qf (ds++[])) (aCons (cS "it") (a1 (cS "lamp"))))))))) (a1 (cS "It burns not."))))) (aCons (oa px (aCons (cS "douse") (aCons (cL (oM (a1 (oG 6 (λds=>o6 (ds++[])) (aCons (cS "it") (a1 (cC (.int 0)))))))) (a1 (cS "It is out."))))) (a1 (oa tJ (aCons (cS "douse") (aCons (cL (oM oT)) (aCons (cL (oM (a1 (oG 12 (λds=>pB (ds++[])) (aCons (cS "it") (a1 (cC (.int 0)))))))) (a1 (cS "Doused."))))))))))))))
def wW:=fnN 0 0 wV
def zB:FS:=(oe (uQ 2 (oM (aCons (oG 3 (λds=>yP (ds++[])) (aCons (cV 0) (a1 (c2 dIx (cV 1) (cC (.int 0)))))) (a1 (oG 8 (λds=>zp (ds++[])) (a1 (c2 dIx (cV 1) (cC (.int 1)))))))))
 (oe (sIf (cT (c2 qP (c2 dIx (cV 1) (cC (.int 3))) (cC D.non))) (o4 (xx 2 (oG 9 (λds=>pR (ds++[])) (a1 (oG 6 (λds=>o6 (ds++[])) (aCons (c2 dIx (cV 1) (cC (.int 3))) (a1 (cC (.int 0))))))))) oI)
 (qb (Jx 2))))
def zC:=fnN 2 3 zB
def A3:FS:=(oe (oP 2 (cL (oS 1 [0] (iL (cV 1)) (gN 0) pH (oa tJ (aCons (cS "go") (aCons (cL (pF zC (aCons (cV 1) (a1 (cV 0))))) (aCons (cL (oM (a1 (oG 11 (λds=>rD (ds++[])) (aCons (cV 1) (a1 (c2 dIx (cV 0) (cC (.int 2))))))))) (a1 (cS "You go.")))))))))
 (qb (qQ (cV 2) (cL (oM (a1 (oa px (aCons (cS "go") (aCons (cL (oM oT)) (a1 (cS "No way there.")))))))))))
def A4:=fnN 2 3 A3
def ya:FS:=(qb (oM (a1 (oa tJ (aCons (cS "wait") (aCons (cL (oM oT)) (aCons (cL (oM oT)) (a1 (cS "Time goes by.")))))))))
def yb:=fnN 0 0 ya
def vP:FS:=(qb (qQ (cL (qQ (cL (qQ (cL (qQ (cL (qQ (cL (pF x9 (a1 (cV 0)))) (cL (pF zy oT)))) (cL (pF zA oT)))) (cL (pF wW oT)))) (cL (pF A4 (aCons (cV 0) (a1 (cV 1))))))) (cL (pF yb oT))))
def sF:=fnN 2 2 vP
def vQ:FS:=(qb (qQ (cL (oS 1 [] (iT (oQ (aCons (cS "take") (aCons (cS "drop") (aCons (cS "open") (aCons (cS "shut") (aCons (cS "light") (a1 (cS "douse"))))))))) (gN 0) pH (oG 2 (λds=>pz (ds++[D.non,(D.str "one"),D.non])) (a1 (cV 0))))) (cL (oM (aCons (oG 2 (λds=>pz (ds++[])) (aCons (cS "put") (aCons (oQ oT) (aCons (cS "two") (a1 (cS "in")))))) (aCons (oG 2 (λds=>pz (ds++[D.non])) (aCons (cS "go") (aCons (oQ oT) (a1 (cS "way"))))) (a1 (oG 2 (λds=>pz (ds++[D.non])) (aCons (cS "wait") (aCons (oQ oT) (a1 (cS "alone"))))))))))))
def sG:=fnN 0 0 vQ
def Cj:FS:=(oe (AC 1)
 (oe (qd (iL (cV 0)) (gN 2) (uw 1 (c1 (ou o7 "name") (cV 2)) (cV 2)))
 (oo (cFz 1))))
def Ck:=fnD 1 3 Cj
def uX:FS:=(oe (AC 2)
 (oe (qd (iL (cV 0)) (gN 3) (sIf (cT (oU qV "has_mark" (cV 3) oT)) (uw 2 (c1 (ou o7 "name") (cV 3)) (cC (.int 1))) oI))
 (oe (qd (iL (cV 1)) (gN 4) (uw 2 (c1 (ou o7 "name") (cV 4)) (c1 (ou vE "most") (cV 4))))
 (oo (cFz 2)))))
def uY:=fnD 2 5 uX
def uZ:FS:=(oe (AC 1)
 (oe (qd (iL (cV 0)) (gN 2) (qd (iT (Ei (oQ (a1 (c1 (ou o7 "name") (cV 2)))) (c1 (ou sr "others") (cV 2)))) (gN 3) (uw 1 (cV 3) (cV 2))))
 (oo (cFz 1))))
def u4:=fnD 1 4 uZ
def Cn:FS:=(FB (ou qy "verb"))
def Cp:=fnD 1 3 Cn
def u5:FS:=(qb (oS 1 [1] (iL (c1 (ou qA "kept_things") (cV 0))) (gN 0) (cT (c2 (dEq false) (c1 (ou pE "kind") (cV 0)) (cV 1))) (c1 (ou o7 "name") (cV 0))))
def zR:=fnD 2 2 u5
def rg:Nat->Option (List D->Option D):=λc=>match c with
 |14=>some zR
 |_=>none
def tm:FS:=(qb (qQ (c1 (ou vC "kept_verbs") (cV 0)) (c1 (ou t6 "shared_verbs") (cV 0))))
def yc:=fnD 1 1 tm
def rL:Nat->Option (List D->Option D):=λc=>match c with
 |14=>some yc
 |_=>none
def vR:FS:=(oo (ph (c1 (pj (pI "str")) (cV 0)) (c2 (dEq false) (cV 0) (cV 1))))
def sH:=fnD 2 2 vR
def Cq:FS:=(oo (oG 13 (λds=>o8 (ds++[])) (aCons (c1 (ou qy "verb") (cV 0)) (aCons (c1 (ou r9 "tests") (cV 0)) (aCons (c1 (ou r6 "deeds") (cV 0)) (aCons (c1 (ou su "text") (cV 0)) (a1 (c1 (ou qe "refuses") (cV 0)))))))))
def yS:=fnD 1 1 Cq
def uc:FS:=(oo (c2 Ey (c1 (ou sv "things_by_name") (cV 0)) (cV 1)))
def yT:=fnD 2 2 uc
def pq:Nat->Option (List D->Option D):=λc=>match c with
 |14=>some yT
 |_=>none
def u6:FS:=(oo (c2 wz (c1 (ou sS "mosts_by_name") (cV 0)) (cV 1)))
def zS:=fnD 2 2 u6
def qz:Nat->Option (List D->Option D):=λc=>match c with
 |14=>some zS
 |_=>none
def u7:FS:=(oo (c2 wz (c1 (ou sT "verbs_by_word") (cV 0)) (cV 1)))
def rM:=fnD 2 2 u7
def pS:Nat->Option (List D->Option D):=λc=>match c with
 |14=>some rM
 |_=>none
def zD:FS:=(oo (c1 (ou tI "your_name") (cV 0)))
def ED:=fnD 1 1 zD
def ud:Nat->Option (List D->Option D):=λc=>match c with
 |14=>some ED
 |_=>none
def u9:FS:=(oe (sIf (cT (oa sH (aCons (cV 1) (a1 (cS "it"))))) (oo (c2 (dIn false) (cV 0) (oQ (aCons (cS "one") (a1 (cS "two")))))) oI)
 (oo (ph (oa sH (aCons (cV 1) (a1 (cS "other")))) (c2 (dEq false) (cV 0) (cS "two")))))
def va:=fnD 2 2 u9
def vc:FS:=(oe (sIf (rH (pN (cT (oa uC (a1 (cV 3))))) (cT (c2 JC (cV 3) (cC (.int 0))))) (oo (cC (.bl false))) oI)
 (oe (sIf (cT (oa va (aCons (cV 1) (a1 (cV 2))))) (oo (c2 uo (cV 3) (cC sX))) oI)
 (oe (oP 4 (cIf (cT (c1 (pj (pI "str")) (cV 2))) (oU qz "most_of" (cV 0) (a1 (cV 2))) (cC D.non)))
 (oo (ph (c2 qP (cV 4) (cC D.non)) (c2 uo (cV 3) (cV 4)))))))
def rN:=fnD 4 5 vc
def Cr:FS:=(oo (ph (c1 (pj (pI "str")) (cV 0)) (q9 uo uo (cC (.int 1)) (c1 uq (cV 0)) (cC xM))))
def wc:=fnD 1 1 Cr
def vS:FS:=(oo (ph (oa t8 (a1 (cV 1))) (ph (c2 qP (oU pS "verb_of" (cV 0) (a1 (cV 1))) (cC D.non)) (c2 (dEq false) (c1 (ou o7 "name") (oU pS "verb_of" (cV 0) (a1 (cV 1)))) (cV 1)))))
def qW:=fnD 2 2 vS
def tu:FS:=(oo (ph (c1 (pj (pI "bool")) (c1 (ou qe "refuses") (cV 0))) (cOr (DX (c1 (ou qe "refuses") (cV 0))) (c2 (dEq false) (c1 (ou r6 "deeds") (cV 0)) (cL (oM oT))))))
def qX:=fnD 1 1 tu
def vd:FS:=(oe (sIf (cT (c1 (pj Te) (cV 2))) (oo (ph xb xb)) oI)
 (oe (sIf (cT (c1 (pj (tOr NB KG)) (cV 2))) (oo xb) oI)
 (oe (sIf (cT (c1 (pj EA) (cV 2))) (oo (oa rN (aCons (cV 0) (aCons (cV 1) (aCons (c1 (ou qT "term") (cV 2)) (a1 (c1 (ou sd "value") (cV 2)))))))) oI)
 (oe (sIf (cT (c1 (pj KC) (cV 2))) (oo (ph xb (oa pJ (aCons (c1 (ou pE "kind") (cV 2)) (a1 (cC DA)))))) oI)
 (oe (sIf (cT (c1 (pj KI) (cV 2))) (oo (ph (c2 (dEq false) (cV 1) (cS "way")) (oa t9 (a1 (c1 (ou AQ "word") (cV 2)))))) oI)
 (oo (c1 (pj NC) (cV 2))))))))
def ve:=fnD 3 3 vd
def wd(g:List D->Option D):FS:=(oe (sIf (cT (c2 (dEq false) (cV 3) (cC (.int 0)))) (oo (cC (.bl false))) oI)
 (oe (sIf (cT (c1 (pj ND) (cV 2))) (oo (oa g (aCons (cV 0) (aCons (cV 1) (aCons (c1 (ou yM "inner") (cV 2)) (a1 (c2 D9 (cV 3) (cC (.int 1))))))))) oI)
 (oe (sIf (cT (c1 (pj KB) (cV 2))) (oo (ph (oa g (aCons (cV 0) (aCons (cV 1) (aCons (c1 (ou Dy "one") (cV 2)) (a1 (c2 D9 (cV 3) (cC (.int 1)))))))) (oa g (aCons (cV 0) (aCons (cV 1) (aCons (c1 (ou yN "other") (cV 2)) (a1 (c2 D9 (cV 3) (cC (.int 1)))))))))) oI)
 (oo (oa ve (aCons (cV 0) (aCons (cV 1) (a1 (cV 2)))))))))
def qJ:Nat->List D->Option D
 |0=>fnD 4 4 Mt
 |n+1=>fnD 4 4 (wd (qJ n))
def Cs:FS:=(oe (sIf (cT (c1 (pj NF) (cV 2))) (oo (oa rN (aCons (cV 0) (aCons (cV 1) (aCons (c1 (ou qT "term") (cV 2)) (a1 (c1 (ou sd "value") (cV 2)))))))) oI)
 (oo (ph (c1 (pj KE) (cV 2)) xb)))
def we:=fnD 3 3 Cs
def zE:FS:=(oo (ph (oa pd (aCons (cV 2) (a1 (cC xJ)))) (c1 rJ (cL (oS 1 [0,1] (iL (cV 2)) (gN 0) pH (oa (qJ 3) (aCons (cV 1) (aCons (cV 2) (aCons (cV 0) (a1 (cC sW)))))))))))
def vT:=fnD 3 3 zE
def zF:FS:=(oo (ph (oa pd (aCons (cV 2) (a1 (cC xK)))) (c1 rJ (cL (oS 1 [0,1] (iL (cV 2)) (gN 0) pH (oa we (aCons (cV 1) (aCons (cV 2) (a1 (cV 0))))))))))
def vU:=fnD 3 3 zF
def yU:FS:=(oe (sIf (rH (pN (cT (c1 (pj KF) (cV 1)))) (rH (pN (cT (oa qW (aCons (cV 0) (a1 (c1 (ou qy "verb") (cV 1))))))) (pN (cT (oa wc (a1 (c1 (ou su "text") (cV 1)))))))) (oo (cC (.bl false))) oI)
 (oe (oP 2 (c1 (ou sm "form") (oU pS "verb_of" (cV 0) (a1 (c1 (ou qy "verb") (cV 1))))))
 (oo (ph (oa vT (aCons (cV 0) (aCons (cV 2) (a1 (c1 (ou r9 "tests") (cV 1)))))) (ph (oa vU (aCons (cV 0) (aCons (cV 2) (a1 (c1 (ou r6 "deeds") (cV 1)))))) (oa qX (a1 (cV 1))))))))
def yV:=fnD 2 3 yU
def qY:FS:=(oe (o4 (oa wU (aCons (cV 1) (aCons (cV 2) (aCons (cV 3) (aCons (cV 4) (aCons (cV 5) (a1 (cL (pF sG oT))))))))))
 (oe (o5 14 0 "kept_things" (cL (sO (cV 1))))
 (oe (o5 14 0 "kept_marks" (cL (sO (cV 2))))
 (oe (o5 14 0 "kept_dark" (cL (sO (cV 3))))
 (oe (o5 14 0 "kept_ways" (cL (sO (cV 4))))
 (oe (o5 14 0 "kept_verbs" (cL (sO (cV 5))))
 (oe (o5 14 0 "shared_verbs" (cL (pF sG oT)))
 (oe (o5 14 0 "your_name" (wB 16 (c2 dIx (oU rg "of_kind" (cV 0) (a1 (cS "you"))) (cC (.int 0)))))
 (oe (o5 14 0 "things_by_name" (oa Ck (a1 (cV 1))))
 (oe (o5 14 0 "mosts_by_name" (oa uY (aCons (cV 1) (a1 (cV 2)))))
 (oe (o5 14 0 "verbs_by_word" (wB 16 (oa u4 (a1 (oU rL "all_verbs" (cV 0) oT)))))
 (oe (oP 7 (wB 16 (ph (oa pd (aCons (cV 6) (a1 (cC xR)))) (c1 rJ (cL (oS 1 [0] (iL (cV 6)) (gN 0) pH (oa yV (aCons (cV 1) (a1 (cV 0))))))))))
 (oe (o4 (oa oq (aCons (cV 7) (a1 (cS "rules are a list of at most 20 rules, each as it may be")))))
 (oe (o5 14 0 "kept_rules" (cL (sO (cV 6))))
 (oe (o5 14 0 "shared_rules" (wB 16 (cL (pF sF (aCons (c1 (ou tI "your_name") (cV 0)) (a1 (cV 4)))))))
 (oe (o5 14 0 "copied_rules" (cL (oS 1 [] (iL (cV 6)) (gN 0) pH (oa yS (a1 (cV 0))))))
 (o5 14 0 "rules_by_verb" (wB 16 (oa Cp (a1 (cL (qQ (c1 (ou tY "copied_rules") (cV 0)) (c1 (ou tZ "shared_rules") (cV 0))))))))))))))))))))))))
def rU:=fnI 14 6 8 qY
def vf:FS:=(oo (c2 (dIn false) (cV 1) (c1 (ou wC "kept_dark") (cV 0))))
def zT:=fnD 2 2 vf
def tK:Nat->Option (List D->Option D):=λc=>match c with
 |14=>some zT
 |_=>none
def tw:FS:=(qb (sO (c1 (ou sq "kept_marks") (cV 0))))
def yd:=fnD 1 1 tw
def rO:Nat->Option (List D->Option D):=λc=>match c with
 |14=>some yd
 |_=>none
def tD:FS:=(qb (cSortSet1 (cL (oS 1 [] (iL (c1 (ou wF "kept_ways") (cV 0))) (gN 0) pH (c2 dIx (cV 0) (cC (.int 1)))))))
def ye:=fnD 1 1 tD
def rP:Nat->Option (List D->Option D):=λc=>match c with
 |14=>some ye
 |_=>none
def rE:FS:=(qb (sO (AD (c1 (ou p8 "rules_by_verb") (cV 0)) (cV 1) (cL (oM oT)))))
def qg:=fnD 2 2 rE
def pC:Nat->Option (List D->Option D):=λc=>match c with
 |14=>some qg
 |_=>none
def wX:FS:=(oe (oP 1 (cL (oS 1 [] (iL (c1 (ou qA "kept_things") (cV 0))) (gN 0) (cT (c2 (dEq true) (c1 (ou pE "kind") (cV 0)) (cS "room"))) (oQ (aCons (cS "at") (a1 (c1 (ou o7 "name") (cV 0))))))))
 (oe (oP 2 (cL (oS 1 [] (iL (cL (pF uE (aCons (c1 (ou qA "kept_things") (cV 0)) (a1 (c1 (ou sq "kept_marks") (cV 0))))))) (gN 0) pH (oQ (aCons (cS "mark") (a1 (cV 0)))))))
 (qb (Dm (cL (qQ (cV 1) (cV 2)))))))
def BC:=fnD 1 3 wX
def vV:Nat->Option (List D->Option D):=λc=>match c with
 |14=>some BC
 |_=>none
def yf:FS:=(oe (AC 1)
 (oe (qd (iL (oU rO "own_marks" (cV 0) oT)) (gN 2) (uw 1 (c1 (ou o7 "name") (cV 2)) (c1 (ou qt "start") (cV 2))))
 (oo (cFz 1))))
def yg:=fnD 1 3 yf
def wY:FS:=(oe (sIf (cT (c2 (dEq false) (c2 dIx (cV 2) (cC (.int 0))) (cS "at"))) (oo (c1 (ou qt "start") (oU pq "thing_of" (cV 0) (a1 (c2 dIx (cV 2) (cC (.int 1))))))) oI)
 (oo (AD (cV 1) (c2 dIx (cV 2) (cC (.int 1))) (cC (.int 0)))))
def wZ:=fnD 3 3 wY
def w5:FS:=(oe (oP 1 (oa yg (a1 (cV 0))))
 (oo (Ax (cL (oS 1 [0,1] (iL (oU vV "parts" (cV 0) oT)) (gN 0) pH (oQ (aCons (cV 0) (a1 (oa wZ (aCons (cV 1) (aCons (cV 2) (a1 (cV 0)))))))))))))
def tL:=fnD 1 2 w5
def A5:FS:=(oe (qd (iT (cV 0)) (gN 2) (sIf (cT (c2 (dEq false) (c2 dIx (cV 2) (cC (.int 0))) (cV 1))) (oo (c2 dIx (cV 2) (cC (.int 1)))) oI))
 (oo (cC D.non)))
def xj:=fnD 2 3 A5
def GV:FS:=(oo (oa xj (aCons (cV 0) (a1 (oQ (aCons (cS "at") (a1 (cV 1))))))))
def yh:=fnD 2 2 GV
def Ct:FS:=(oo (oa xj (aCons (cV 0) (a1 (oQ (aCons (cS "mark") (a1 (cV 1))))))))
def se:=fnD 2 2 Ct
def zG:FS:=(oo (Ax (cL (oS 1 [1,2] (iT (cV 0)) (gN 0) pH (cIf (cT (c2 (dEq false) (c2 dIx (cV 0) (cC (.int 0))) (cV 1))) (oQ (aCons (cV 1) (a1 (cV 2)))) (cV 0))))))
def vW:=fnD 3 3 zG
def yi:FS:=(oe (uQ 3 (oM oT))
 (oe (oP 4 (oa yh (aCons (cV 1) (a1 (cV 2)))))
 (oe (whL (cT (c2 qP (cV 4) (cC D.non))) (oe (o4 (xx 3 (cV 4)))
 (oP 4 (oa yh (aCons (cV 1) (a1 (cV 4)))))) 50)
 (qb (Jx 3)))))
def rV:=fnN 3 5 yi
def Cu:FS:=(oo (oa yh (aCons (cV 1) (a1 (oU ud "you" (cV 0) oT)))))
def wg:=fnD 2 2 Cu
def NG:FS:=(oo (c2 (dIn false) (oU ud "you" (cV 0) oT) (cL (pF rV (aCons (cV 0) (aCons (cV 1) (a1 (cV 2))))))))
def NH:=fnD 3 3 NG
def Cv:FS:=(oo (ph (c2 (dEq false) (c1 (ou pE "kind") (oU pq "thing_of" (cV 0) (a1 (cV 2)))) (cS "box")) (c2 (dEq false) (oa se (aCons (cV 1) (a1 (cV 2)))) (cC (.int 0)))))
def Cy:=fnD 3 3 Cv
def CA:FS:=(oe (qd (iL (cL (pF rV (aCons (cV 0) (aCons (cV 1) (a1 (cV 2))))))) (gN 4) (oe (sIf (cT (c2 (dEq false) (cV 4) (cV 3))) (oo (cC (.bl true))) oI)
 (sIf (cT (oa Cy (aCons (cV 0) (aCons (cV 1) (a1 (cV 4)))))) (oo (cC (.bl false))) oI)))
 (oo (cC (.bl false))))
def wm:=fnD 4 5 CA
def A6:FS:=(oo (ph (c2 (dEq false) (oa se (aCons (cV 1) (a1 (cV 2)))) (cC (.int 1))) (oa wm (aCons (cV 0) (aCons (cV 1) (aCons (cV 2) (a1 (cV 3))))))))
def A7:=fnD 4 4 A6
def EE:FS:=(oe (oP 2 (oa wg (aCons (cV 0) (a1 (cV 1)))))
 (oe (sIf (pN (cT (oU tK "is_dark" (cV 0) (a1 (cV 2))))) (oo (cC (.bl true))) oI)
 (oo (c1 HW (cL (oS 1 [0,1,2] (iL (oU rg "of_kind" (cV 0) (a1 (cS "lamp")))) (gN 0) pH (oa A7 (aCons (cV 1) (aCons (cV 2) (aCons (cV 0) (a1 (cV 3))))))))))))
def A8:=fnD 2 3 EE
def CB:FS:=(oe (oP 3 (oU pq "thing_of" (cV 0) (a1 (cV 2))))
 (oe (sIf (rH (cT (c2 tV (cV 3) (cC D.non))) (pN (cT (oU pV "is_plainly" (cV 3) oT)))) (oo (cC (.bl false))) oI)
 (oe (sIf (cT (oa wm (aCons (cV 0) (aCons (cV 1) (aCons (cV 2) (a1 (oU ud "you" (cV 0) oT))))))) (oo (cC (.bl true))) oI)
 (oo (ph (oa wm (aCons (cV 0) (aCons (cV 1) (aCons (cV 2) (a1 (oa wg (aCons (cV 0) (a1 (cV 1))))))))) (oa A8 (aCons (cV 0) (a1 (cV 1)))))))))
def yW:=fnD 3 4 CB
def zH:FS:=(oe (oP 2 (cIf (cT (c2 tV (cV 1) (cC D.non))) (cC D.non) (oU pS "verb_of" (cV 0) (a1 (c2 dIx (cV 1) (cC (.int 0)))))))
 (oo (ph (c2 qP (cV 2) (cC D.non)) (c2 (dEq false) (c1 (ou sm "form") (cV 2)) (cS "way")))))
def vX:=fnD 2 3 zH
def zI:FS:=(oe (sIf (rH (cT (c2 tV (cV 1) (cC D.non))) (cT (oa vX (aCons (cV 0) (a1 (cV 1)))))) (oo (oQ (aCons (cC D.non) (a1 (cC D.non))))) oI)
 (oo (oQ (aCons (c2 dIx (cV 1) (cC (.int 1))) (a1 (c2 dIx (cV 1) (cC (.int 2))))))))
def qh:=fnD 2 2 zI
def GW:FS:=(oe (sIf (cT (c2 (dEq false) (cV 3) (cS "here"))) (oo (oa wg (aCons (cV 0) (a1 (cV 1))))) oI)
 (oe (sIf (cT (c2 (dEq false) (cV 3) (cS "it"))) (oo (c2 dIx (oa qh (aCons (cV 0) (a1 (cV 2)))) (cC (.int 0)))) oI)
 (oe (sIf (cT (c2 (dEq false) (cV 3) (cS "other"))) (oo (c2 dIx (oa qh (aCons (cV 0) (a1 (cV 2)))) (cC (.int 1)))) oI)
 (oo (cV 3)))))
def rW:=fnD 4 4 GW
def A9:FS:=(oe (oP 2 (oU pq "thing_of" (cV 0) (a1 (cV 1))))
 (oo (cIf (rH (cT (c2 tV (cV 2) (cC D.non))) (cT (c2 (dEq false) (c1 (ou pE "kind") (cV 2)) (cS "room")))) (cL (oM oT)) (cL (oM (a1 (oQ (aCons (cS "at") (a1 (cV 1))))))))))
def Ba:=fnD 2 3 A9
def yj:FS:=(oo (cIf (cT (c2 tV (oU qz "most_of" (cV 0) (a1 (cV 1))) (cC D.non))) (cL (oM oT)) (cL (oM (a1 (oQ (aCons (cS "mark") (a1 (cV 1)))))))))
def yk:=fnD 2 2 yj
def EF:FS:=(oe (oP 3 (oU pq "thing_of" (cV 0) (a1 (cV 2))))
 (oo (ph (c2 (dEq true) (oa Ba (aCons (cV 0) (a1 (cV 1)))) (cL (oM oT))) (ph (c2 qP (cV 3) (cC D.non)) (ph (oU qU "can_hold" (cV 3) oT) (c2 (dEq true) (cV 2) (cV 1)))))))
def EG:=fnD 3 4 EF
def Bb:FS:=(oo (ph (c2 (dEq true) (oa yk (aCons (cV 0) (a1 (cV 1)))) (cL (oM oT))) (c2 uo (cV 2) (oU qz "most_of" (cV 0) (a1 (cV 1))))))
def Bc:=fnD 3 3 Bb
def Bd:FS:=(oe (oP 4 (oa rW (aCons (cV 1) (aCons (cV 2) (aCons (cV 3) (a1 (c1 (ou qT "term") (cV 0))))))))
 (oe (oP 5 (oa yh (aCons (cV 2) (a1 (cV 4)))))
 (oo (ph (c2 qP (cV 5) (cC D.non)) (c2 (dEq false) (cV 5) (oa rW (aCons (cV 1) (aCons (cV 2) (aCons (cV 3) (a1 (c1 (ou yO "place") (cV 0))))))))))))
def FL:=fnD 4 6 Bd
def zJ:FS:=(oo (oa NH (aCons (cV 1) (aCons (cV 2) (a1 (oa rW (aCons (cV 1) (aCons (cV 2) (aCons (cV 3) (a1 (c1 (ou qT "term") (cV 0))))))))))))
def EH:=fnD 4 4 zJ
def vY:FS:=(oe (oP 4 (oa se (aCons (cV 2) (a1 (oa rW (aCons (cV 1) (aCons (cV 2) (aCons (cV 3) (a1 (c1 (ou qT "term") (cV 0)))))))))))
 (oo (ph (c2 qP (cV 4) (cC D.non)) (c2 (dEq false) (cV 4) (c1 (ou sd "value") (cV 0))))))
def Be:=fnD 4 5 vY
def ym:FS:=(oe (oP 4 (oU pq "thing_of" (cV 1) (a1 (oa rW (aCons (cV 1) (aCons (cV 2) (aCons (cV 3) (a1 (c1 (ou qT "term") (cV 0))))))))))
 (oo (ph (c2 qP (cV 4) (cC D.non)) (c2 (dEq false) (c1 (ou pE "kind") (cV 4)) (c1 (ou pE "kind") (cV 0))))))
def DB:=fnD 4 5 ym
def yn:FS:=(oo (ph (oa vX (aCons (cV 1) (a1 (cV 3)))) (c2 (dEq false) (c2 dIx (cV 3) (cC (.int 1))) (c1 (ou AQ "word") (cV 0)))))
def DC:=fnD 4 4 yn
def zK:FS:=(oo (oa A8 (aCons (cV 1) (a1 (cV 2)))))
def EI:=fnD 4 4 zK
def vZ(g:Nat->Option (List D->Option D)):FS:=(oo (DX (oU g "holds" (c1 (ou yM "inner") (cV 0)) (aCons (cV 1) (aCons (cV 2) (a1 (cV 3)))))))
def uF(g:Nat->Option (List D->Option D)):FS:=(oo (ph (oU g "holds" (c1 (ou Dy "one") (cV 0)) (aCons (cV 1) (aCons (cV 2) (a1 (cV 3))))) (oU g "holds" (c1 (ou yN "other") (cV 0)) (aCons (cV 1) (aCons (cV 2) (a1 (cV 3)))))))
def uG:Nat->Option (List D->Option D):=λc=>match c with
 |3=>some FL
 |4=>some EH
 |6=>some Be
 |7=>some DB
 |8=>some DC
 |15=>some EI
 |_=>none
def o9:Nat->Nat->Option (List D->Option D)
 |0=>uG
 |n+1=>λc=>match c with
  |9=>some (fnD 4 4 (vZ (o9 n)))
  |10=>some (fnD 4 4 (uF (o9 n)))
  |c=>uG c
def zL:FS:=(oe (oP 4 (oa rW (aCons (cV 1) (aCons (cV 2) (aCons (cV 3) (a1 (c1 (ou qT "term") (cV 0))))))))
 (oe (oP 5 (oa rW (aCons (cV 1) (aCons (cV 2) (aCons (cV 3) (a1 (c1 (ou yO "place") (cV 0))))))))
 (oe (sIf (rH (pN (cT (oa EG (aCons (cV 1) (aCons (cV 4) (a1 (cV 5))))))) (cT (c2 (dIn false) (cV 4) (cL (pF rV (aCons (cV 1) (aCons (cV 2) (a1 (cV 5))))))))) (oo (cC D.non)) oI)
 (oo (oa vW (aCons (cV 2) (aCons (oQ (aCons (cS "at") (a1 (cV 4)))) (a1 (cV 5)))))))))
def EJ:=fnD 4 6 zL
def Bf:FS:=(oe (oP 4 (oa rW (aCons (cV 1) (aCons (cV 2) (aCons (cV 3) (a1 (c1 (ou qT "term") (cV 0))))))))
 (oe (sIf (pN (cT (oa Bc (aCons (cV 1) (aCons (cV 4) (a1 (c1 (ou sd "value") (cV 0)))))))) (oo (cC D.non)) oI)
 (oo (oa vW (aCons (cV 2) (aCons (oQ (aCons (cS "mark") (a1 (cV 4)))) (a1 (c1 (ou sd "value") (cV 0)))))))))
def uH:=fnD 4 5 Bf
def uI:Nat->Option (List D->Option D):=λc=>match c with
 |11=>some EJ
 |12=>some uH
 |_=>none
def zM:FS:=(oe (oP 2 (cIf (cT (c1 (pj (pI "str")) (cV 1))) (oU pq "thing_of" (cV 0) (a1 (cV 1))) (cC D.non)))
 (oo (ph (c2 qP (cV 2) (cC D.non)) (oU pV "is_plainly" (cV 2) oT))))
def tE:=fnD 2 3 zM
def zN:FS:=(oe (sIf (cT (c2 (dEq false) (cV 1) (cS "two"))) (oo (ph (oa tE (aCons (cV 0) (a1 (cV 2)))) (oa tE (aCons (cV 0) (a1 (cV 3)))))) oI)
 (oe (sIf (cT (c2 qP (cV 3) (cC D.non))) (oo (cC (.bl false))) oI)
 (oe (sIf (cT (c2 (dEq false) (cV 1) (cS "way"))) (oo (ph (c1 (pj (pI "str")) (cV 2)) (c2 (dIn false) (cV 2) (oU rP "way_words" (cV 0) oT)))) oI)
 (oo (cIf (cT (c2 (dEq false) (cV 1) (cS "alone"))) (c2 tV (cV 2) (cC D.non)) (oa tE (aCons (cV 0) (a1 (cV 2)))))))))
def zO:=fnD 4 4 zN
def yp:FS:=(oe (sIf (rH (pN (cT (c1 (pj (pI "tuple")) (cV 1)))) (rH (cT (c2 (dEq true) (c1 uq (cV 1)) (cC (.int 3)))) (pN (cT (c1 (pj (pI "str")) (c2 dIx (cV 1) (cC (.int 0)))))))) (oo (cC (.bl false))) oI)
 (oe (oP 2 (oU pS "verb_of" (cV 0) (a1 (c2 dIx (cV 1) (cC (.int 0))))))
 (oo (ph (c2 qP (cV 2) (cC D.non)) (ph (c2 (dEq false) (c1 (ou o7 "name") (cV 2)) (c2 dIx (cV 1) (cC (.int 0)))) (oa zO (aCons (cV 0) (aCons (c1 (ou sm "form") (cV 2)) (aCons (c2 dIx (cV 1) (cC (.int 1))) (a1 (c2 dIx (cV 1) (cC (.int 2)))))))))))))
def yq:=fnD 2 3 yp
def vg:FS:=(sIf (pN (cT (oa yq (aCons (cV 0) (a1 (cV 1)))))) Mt oI)
def qB:=fnD 2 2 vg
def FM:FS:=(oe (qd (iL (c1 (ou r9 "tests") (cV 3))) (gN 4) (sIf (pN (cT (oU (o9 2) "holds" (cV 4) (aCons (cV 0) (aCons (cV 1) (a1 (cV 2))))))) (oo (cC (.bl false))) oI))
 (oo (cC (.bl true))))
def Bh:=fnD 4 5 FM
def yX:FS:=(oe (sIf (cT (c1 (ou qe "refuses") (cV 3))) (oo (oQ (aCons (oQ (aCons (cS "refused") (a1 (c1 (ou su "text") (cV 3))))) (a1 (cV 1))))) oI)
 (oe (oP 4 (cV 1))
 (oe (qd (iL (c1 (ou r6 "deeds") (cV 3))) (gN 5) (oe (oP 4 (oU uI "done" (cV 5) (aCons (cV 0) (aCons (cV 4) (a1 (cV 2))))))
 (sIf (cT (c2 tV (cV 4) (cC D.non))) (oo (oQ (aCons (oQ (aCons (cS "refused") (a1 (cC vH)))) (a1 (cV 1))))) oI)))
 (oo (oQ (aCons (oQ (aCons (cS "told") (a1 (c1 (ou su "text") (cV 3))))) (a1 (cV 4))))))))
def wo:=fnD 4 6 yX
def xk:FS:=(oe (qd (iT (oa qh (aCons (cV 0) (a1 (cV 2))))) (gN 4) (sIf (sM (cT (c2 qP (cV 4) (cC D.non))) (cT (c2 (dIn true) (cV 4) (cV 3)))) (oo (oQ (aCons (oQ (aCons (cS "unseen") (a1 (cV 4)))) (a1 (cV 1))))) oI))
 (oe (qd (iL (oU pC "rules_to_try" (cV 0) (a1 (c2 dIx (cV 2) (cC (.int 0)))))) (gN 5) (sIf (cT (oa Bh (aCons (cV 0) (aCons (cV 1) (aCons (cV 2) (a1 (cV 5))))))) (oo (oa wo (aCons (cV 0) (aCons (cV 1) (aCons (cV 2) (a1 (cV 5))))))) oI))
 (oo (oQ (aCons (oQ (aCons (cS "refused") (a1 (cC rK)))) (a1 (cV 1)))))))
def uJ:=fnD 4 6 xk
def FN:FS:=(oe (o4 (oa qB (aCons (cV 0) (a1 (cV 2)))))
 (oe (oP 3 (cL (oS 1 [0,1] (iT (oa qh (aCons (cV 0) (a1 (cV 2))))) (gN 0) (cT (oa yW (aCons (cV 1) (aCons (cV 2) (a1 (cV 0)))))) (cV 0))))
 (oo (oa uJ (aCons (cV 0) (aCons (cV 1) (aCons (cV 2) (a1 (cV 3)))))))))
def qx:=fnD 3 4 FN
def v3:FS:=(oe (sIf (cT (c2 JC (cV 1) (c1 uq (cV 0)))) (oo (c2 dIx (cV 0) (cV 1))) oI)
 (oo (cC (.int 0))))
def qj:=fnD 2 2 v3
def rX:FS:=(oe (sIf (Ay (cT (c2 (dEq false) (c1 uq (cV 0)) (cC (.int 1))))) (oe (oP 2 (xD (c2 dIx (cV 0) (cC (.int 0)))))
 (oe (tG 0 0 (c2 tU (cV 2) (c1 JI (c2 OP (cV 2) (c2 JB (cC (.int 10)) (cC (.int 18)))))))
 (o4 (Mb 0 (oM (aCons (c2 rp (cV 2) (cC (.int 2147483647))) (a1 (cC (.int 0))))))))) oI)
 (oe (sIf (Ay (cT (c2 JD (c2 dIx (cV 0) (cC (.int 0))) (cC (.int 0))))) (oe (oP 3 (xD (c2 rp (c2 dIx (cV 0) (cC (.int 0))) (cV 1))))
 (oe (tG 0 0 (xD (c2 wu (c2 dIx (cV 0) (cC (.int 0))) (cV 1))))
 (oo (cV 3)))) oI)
 (oe (tG 0 2 (xD (c2 rQ (c2 dIx (cV 0) (cC (.int 2))) (cC (.int 1)))))
 (oe (oP 4 (xD (c2 rp (c2 tU (c2 rQ (c2 rQ (c2 dIx (cV 0) (cC (.int 1))) (c2 tU (cC (.int 7919)) (c2 dIx (cV 0) (cC (.int 2))))) (cC (.int 1))) (cC (.int 48271))) (cC (.int 2147483647)))))
 (oe (oP 4 (c2 rp (c2 tU (cV 4) (c2 rQ (c2 wu (cV 4) (cC (.int 1009))) (cC (.int 69621)))) (cC (.int 2147483647))))
 (oo (c2 rp (c2 rp (c2 tU (cV 4) (c2 rQ (c2 wu (cV 4) (cC (.int 2003))) (cC (.int 40692)))) (cC (.int 2147483399))) (cV 1))))))))
def oh:=fnM 1 5 rX
def rF:FS:=(oe (oP 1 (c2 dIx (cL (oM (aCons (cS "gate") (aCons (cS "luck") (a1 (cS "tide")))))) (pL oh 0 (a1 (cC (.int 3))))))
 (oe (oP 2 (pL oh 0 (a1 (cC (.int 3)))))
 (oe (oP 3 (pL oh 0 (a1 (cC (.int 4)))))
 (oe (sIf (cT (c2 (dEq false) (cV 3) (cC (.int 0)))) (oo (oQ (aCons (oG 9 (λds=>pR (ds++[])) (a1 (oG 6 (λds=>o6 (ds++[])) (aCons (cV 1) (a1 (cV 2)))))) (a1 (cL (oM (a1 (oQ (aCons (cV 1) (aCons (cV 2) (a1 (cC (.bl false))))))))))))) oI)
 (oe (sIf (cT (c2 (dEq false) (cV 3) (cC (.int 1)))) (oe (oP 4 (c2 dIx (cL (oM (aCons (cS "gate") (aCons (cS "luck") (a1 (cS "tide")))))) (pL oh 0 (a1 (cC (.int 3))))))
 (oo (oQ (aCons (oG 10 (λds=>zr (ds++[])) (aCons (oG 6 (λds=>o6 (ds++[])) (aCons (cV 1) (a1 (cV 2)))) (a1 (oG 9 (λds=>pR (ds++[])) (a1 (oG 6 (λds=>o6 (ds++[])) (aCons (cV 4) (a1 (cC (.int 1)))))))))) (a1 (cL (oM (aCons (oQ (aCons (cV 1) (aCons (cV 2) (a1 (cC (.bl true)))))) (a1 (oQ (aCons (cV 4) (aCons (cC (.int 1)) (a1 (cC (.bl false))))))))))))))) oI)
 (oo (oQ (aCons (oG 6 (λds=>o6 (ds++[])) (aCons (cV 1) (a1 (cV 2)))) (a1 (cL (oM (a1 (oQ (aCons (cV 1) (aCons (cV 2) (a1 (cC (.bl true))))))))))))))))))
def qK:=fnM 0 5 rF
def uK:FS:=(oe (uQ 2 (oM oT))
 (oe (uQ 3 (oM oT))
 (oe (qd (iR1 (c2 rQ (cC (.int 1)) (pL oh 0 (a1 (cC (.int 9)))))) (gN 4) (oe (oP 5 (cL (oS 1 [0] (iR1 (c2 dIx (cL (oM (aCons (cC (.int 0)) (aCons (cC (.int 1)) (aCons (cC (.int 1)) (aCons (cC (.int 2)) (aCons (cC (.int 2)) (a1 (cC (.int 3)))))))))) (pL oh 0 (a1 (cC (.int 6)))))) (gN 0) pH (pL qK 1 oT))))
 (oe (oP 6 (c2 xB (c2 xB (cS "Rule ") (c1 dStrI (cV 4))) (cS ".")))
 (oe (oP 7 (c2 (dEq false) (pL oh 0 (a1 (cC (.int 3)))) (cC (.int 0))))
 (oe (oP 8 (cL (Fn (cL (oM (aCons (oQ (aCons (cS "gate") (a1 (pL oh 0 (a1 (cC (.int 3))))))) (a1 (oQ (aCons (cS "luck") (a1 (pL oh 0 (a1 (cC (.int 3))))))))))) oNo (oAt (pL oh 0 (a1 (cC (.int 3))))))))
 (oe (sIf (cT (cV 7)) (oP 8 (cL (oM oT))) oI)
 (oe (o4 (xx 2 (oG 13 (λds=>o8 (ds++[])) (aCons (cV 1) (aCons (cL (oS 2 [] (iL (cV 5)) (gT (oR (gN 0) (oR (gN 1) qw)) 2) pH (cV 0))) (aCons (cL (oS 2 [] (iL (cV 8)) (gT (oR (gN 0) (oR (gN 1) qw)) 2) pH (oG 12 (λds=>pB (ds++[])) (aCons (cV 0) (a1 (cV 1)))))) (aCons (cV 6) (a1 (cV 7)))))))))
 (oe (oP 9 (cL (oM oT)))
 (oe (qd (iL (cV 5)) (gT (oR (gN 10) (oR (gN 11) qw)) 2) (oP 9 (cL (qQ (cV 9) (cV 11)))))
 (oe (o4 (xx 3 (oQ (aCons (cV 6) (aCons (cV 7) (aCons (cV 9) (a1 (cV 8))))))))
 (sIf (cT (c2 (dEq false) (pL oh 0 (a1 (cC (.int 3)))) (cC (.int 0)))) (o4 (xx 2 (oG 13 (λds=>o8 (ds++[(D.bl false)])) (aCons (c2 dIx (cL (oM (aCons (cS "drop") (a1 (cS "shut"))))) (pL oh 0 (a1 (cC (.int 2))))) (aCons (cL (oM oT)) (aCons (cL (oM (a1 (oG 12 (λds=>pB (ds++[])) (aCons (cS "tide") (a1 (cC (.int 2)))))))) (a1 (cS "Other.")))))))) oI)))))))))))
 (oo (oQ (aCons (cFz 2) (a1 (cFz 3))))))))
def uL:=fnM 1 12 uK
def xl:FS:=(oe (qd (iL (cV 1)) (gT (oR (gN 3) (oR (gN 4) (oR (gN 5) (oR (gN 6) qw)))) 4) (sIf (cT (c2 (dEq false) (cL (oS 3 [0] (iL (cV 5)) (gT (oR (gN 0) (oR (gN 1) (oR (gN 2) qw))) 3) (cT (c2 (dEq true) (c2 (dEq false) (oa se (aCons (cV 3) (a1 (cV 0)))) (cV 1)) (cV 2))) (cC (.int 1)))) (cL (oM oT)))) (oe (sIf (cT (cV 4)) (oo (oQ (aCons (oQ (aCons (cS "refused") (a1 (cV 3)))) (a1 (cV 0))))) oI)
 (oe (qd (iL (cV 6)) (gT (oR (gN 7) (oR (gN 8) qw)) 2) (oP 0 (Ax (cL (oS 2 [8,7] (iT (cV 0)) (gT (oR (gN 0) (oR (gN 1) qw)) 2) pH (oQ (aCons (cV 0) (a1 (c2 dIx (cL (oM (aCons (cV 1) (a1 (cV 2))))) (c1 JI (c2 (dEq false) (cV 0) (oQ (aCons (cS "mark") (a1 (cV 3)))))))))))))))
 (oo (oQ (aCons (oQ (aCons (cS "told") (a1 (cV 3)))) (a1 (cV 0))))))) oI))
 (oe (sIf (cT (c2 tV (cV 2) (cC D.non))) (oo (cC D.non)) oI)
 (oo (oQ (aCons (oQ (aCons (cS "refused") (a1 (cV 2)))) (a1 (cV 0)))))))
def qF:=fnD 3 9 xl
def uM:FS:=(oe (oP 1 (cL (oM (aCons (oG 0 (λds=>qu (ds++[D.non])) (aCons (cS "hall") (aCons (oQ (a1 (cS "hall"))) (a1 (cS "room"))))) (a1 (oG 0 (λds=>qu (ds++[])) (aCons (cS "me") (aCons (oQ (a1 (cS "me"))) (aCons (cS "you") (a1 (cS "hall")))))))))))
 (oe (oP 1 (cL (qQ (cV 1) (cL (oM (aCons (oG 0 (λds=>qu (ds++[])) (aCons (cS "key") (aCons (oQ (a1 (cS "key"))) (aCons (cS "plain") (a1 (cS "hall")))))) (a1 (oG 0 (λds=>qu (ds++[])) (aCons (cS "case") (aCons (oQ (a1 (cS "case"))) (aCons (cS "box") (a1 (cS "hall")))))))))))))
 (oe (oP 2 (cL (oM (aCons (oG 2 (λds=>pz (ds++[D.non,(D.str "one"),D.non])) (a1 (cS "push"))) (aCons (oG 2 (λds=>pz (ds++[])) (aCons (cS "tie") (aCons (cC D.non) (aCons (cS "two") (a1 (cS "to")))))) (aCons (oG 2 (λds=>pz (ds++[D.non])) (aCons (cS "hum") (aCons (cC D.non) (a1 (cS "alone"))))) (a1 (oG 2 (λds=>pz (ds++[D.non])) (aCons (cS "swim") (aCons (cC D.non) (a1 (cS "way"))))))))))))
 (oe (oP 3 (cL (oM (aCons (oG 13 (λds=>o8 (ds++[(D.bl false)])) (aCons (cS "turn") (aCons (cL (oM (a1 (oG 6 (λds=>o6 (ds++[])) (aCons (cS "gate") (a1 (cC (.int 0)))))))) (aCons (cL (oM (a1 (oG 12 (λds=>pB (ds++[])) (aCons (cS "gate") (a1 (cC (.int 1)))))))) (a1 (cS "Up.")))))) (a1 (oG 13 (λds=>o8 (ds++[(D.bl false)])) (aCons (cS "turn") (aCons (cL (oM oT)) (aCons (cL (oM (a1 (oG 12 (λds=>pB (ds++[])) (aCons (cS "gate") (a1 (cC (.int 0)))))))) (a1 (cS "Down.")))))))))))
 (oe (oP 2 (cL (qQ (cV 2) (cL (oM (a1 (oG 2 (λds=>pz (ds++[D.non])) (aCons (cS "turn") (aCons (cC D.non) (a1 (cS "alone")))))))))))
 (oe (oP 4 (cL (oM (aCons (oG 1 (λds=>sY (ds++[])) (aCons (cS "gate") (aCons (cC (.int 0)) (a1 (cC (.int 2)))))) (aCons (oG 1 (λds=>sY (ds++[])) (aCons (cS "luck") (aCons (cC (.int 1)) (a1 (cC (.int 2)))))) (a1 (oG 1 (λds=>sY (ds++[])) (aCons (cS "tide") (aCons (cC (.int 2)) (a1 (cC (.int 2))))))))))))
 (oo (oG 14 (λds=>rU (ds++[])) (aCons (cV 1) (aCons (cV 4) (aCons (cL (oM oT)) (aCons (cL (oM (a1 (oQ (aCons (cS "hall") (aCons (cS "north") (aCons (cS "hall") (a1 (cS "gate"))))))))) (aCons (cV 2) (a1 (cL (qQ (cV 0) (cV 3)))))))))))))))))
def uN:=fnD 1 5 uM
def EK:FS:=(oe (uQ 1 (oM (a1 (oa qj (aCons (cV 0) (a1 (cC (.int 0))))))))
 (oe (oP 2 (cL (oM (aCons (oQ (aCons (cS "push") (aCons (cS "key") (a1 (cC D.non))))) (aCons (oQ (aCons (cS "tie") (aCons (cS "key") (a1 (cS "case"))))) (aCons (oQ (aCons (cS "hum") (aCons (cC D.non) (a1 (cC D.non))))) (a1 (oQ (aCons (cS "swim") (aCons (cS "north") (a1 (cC D.non))))))))))))
 (oe (oP 2 (cL (qQ (cV 2) (cL (oM (aCons (oQ (aCons (cS "take") (aCons (cS "key") (a1 (cC D.non))))) (aCons (oQ (aCons (cS "put") (aCons (cS "key") (a1 (cS "case"))))) (aCons (oQ (aCons (cS "go") (aCons (cS "north") (a1 (cC D.non))))) (a1 (oQ (aCons (cS "wait") (aCons (cC D.non) (a1 (cC D.non))))))))))))))
 (oe (oP 3 (c2 dIx (cV 2) (pL oh 1 (a1 (cC (.int 8))))))
 (oe (HD (pL uL 1 (a1 (c2 dIx (cV 3) (cC (.int 0))))) (gT (oR (gN 4) (oR (gN 5) qw)) 2))
 (oe (oP 6 (oa uN (a1 (cV 4))))
 (oe (oP 7 (cC D.non))
 (oe (sIf (cT (c2 dInT (cV 3) (cL (cSl (cV 2) none (some 4))))) (oP 7 (cS "Nothing comes of it.")) oI)
 (oe (oP 8 (oa tL (a1 (cV 6))))
 (oe (qd (iR2 (cC (.int 1)) (c2 dMax2 (cC (.int 3)) (c2 dMin2 (cC (.int 14)) (c1 uq (cV 0))))) (gN 9) (oe (oP 10 (oa qx (aCons (cV 6) (aCons (cV 8) (a1 (cV 3))))))
 (oe (oP 11 (oa qF (aCons (cV 8) (aCons (cV 5) (a1 (cV 7))))))
 (oe (sIf (sM (cT (c2 qP (cV 11) (cC D.non))) (rH (cT (c2 (dEq true) (cV 10) (cV 11))) (cT (c2 (dEq true) (oa qx (aCons (cV 6) (aCons (cV 8) (a1 (cV 3))))) (cV 11))))) (oo (cC (.bl false))) oI)
 (oe (sIf (sM (cT (c2 tV (cV 11) (cC D.non))) (cT (c2 dSw (c2 dIx (c2 dIx (cV 10) (cC (.int 0))) (cC (.int 1))) (cS "Rule")))) (oo (cC (.bl false))) oI)
 (oe (oP 12 (cL (oM (aCons (oQ (aCons (cS "turn") (aCons (cC D.non) (a1 (cC D.non))))) (aCons (oQ (aCons (cS "shut") (aCons (cS "key") (a1 (cC D.non))))) (a1 (oQ (aCons (cS "drop") (aCons (cS "key") (a1 (cC D.non)))))))))))
 (oP 8 (c2 dIx (oa qx (aCons (cV 6) (aCons (c2 dIx (cV 10) (cC (.int 1))) (a1 (c2 dIx (cV 12) (c2 rp (c2 rQ (oa qj (aCons (cV 0) (a1 (cV 9)))) (cV 9)) (cC (.int 3)))))))) (cC (.int 1))))))))))
 (oo (cC (.bl true)))))))))))))
def NI:=fnD 1 13 EK
variable{b:Int}
theorem Bi{q r n:Int}{s2:Sl}(h0:0<b)(h1:b<1073741824):∃d es' ρ,(oe (sIf (Ay (cT (c2 JD (c2 dIx (cV 0) (cC (.int 0))) (cC (.int 0))))) (oe (oP 3 (xD (c2 rp (c2 dIx (cV 0) (cC (.int 0))) (cV 1))))
 (oe (tG 0 0 (xD (c2 wu (c2 dIx (cV 0) (cC (.int 0))) (cV 1))))
 (oo (cV 3)))) oI)
 (oe (tG 0 2 (xD (c2 rQ (c2 dIx (cV 0) (cC (.int 2))) (cC (.int 1)))))
 (oe (oP 4 (xD (c2 rp (c2 tU (c2 rQ (c2 rQ (c2 dIx (cV 0) (cC (.int 1))) (c2 tU (cC (.int 7919)) (c2 dIx (cV 0) (cC (.int 2))))) (cC (.int 1))) (cC (.int 48271))) (cC (.int 2147483647)))))
 (oe (oP 4 (c2 rp (c2 tU (cV 4) (c2 rQ (c2 wu (cV 4) (cC (.int 1009))) (cC (.int 69621)))) (cC (.int 2147483647))))
 (oo (c2 rp (c2 rp (c2 tU (cV 4) (c2 rQ (c2 wu (cV 4) (cC (.int 2003))) (cC (.int 40692)))) (cC (.int 2147483399))) (cV 1)))))))
  [.pm [.int q,.int r,.int n],.im (.int b),s2,.un,.un]=some (.rt (.int d) ρ)/\zc ρ=some es'/\0<=d/\d<b/\vw es':=by
 have hc:Ay (cT (c2 JD (c2 dIx (cV 0) (cC (.int 0))) (cC (.int 0)))) [.pm [.int q,.int r,.int n],.im (.int b),s2,.un,.un]=some (decide (0<q),[.pm [.int q,.int r,.int n],.im (.int b),s2,.un,.un]):=rfl;by_cases hq:0<q
 ·rw[bj hq]at hc;refine⟨q % b,[.int (q / b),.int r,.int n],[.pm [.int (q / b),.int r,.int n],.im (.int b),s2,.im (.int (q % b)),.un],?_,rfl,fJ _ (by omega),fw _ h0,.inr ⟨_,_,_,rfl⟩⟩;rw[qm (d:=.int (q % b)) (ρ':=[.pm [.int (q / b),.int r,.int n],.im (.int b),s2,.im (.int (q % b)),.un])];rw[qp hc,om (pQ (Fi (oW rfl rfl (v8 h0)) rfl)),om (Ee (k:=0) (Fi (oW rfl rfl (div_pos h0 h1)) rfl) rfl rfl)];rfl
 ·rw[aY hq]at hc;rw[om (show _=some (Out.nx [.pm [.int q,.int r,.int n],.im (.int b),s2,.un,.un]) from by rw[pM hc];rfl)];rw[om (show _=some (Out.nx [.pm [.int q,.int r,.int (n+1)],.im (.int b),s2,.un,.un]) from rfl)];have h7:um 7919=true:=by decide
  have h4:um 48271=true:=by decide
  rw[om (pQ (Fi (d:=.int ((r+7919 * (n+1)+1) * 48271 % 2147483647)) (oW (oW (oW (oW rfl (oW rfl rfl (tX (.inl h7))) rfl) rfl rfl) rfl (tX (.inr h4))) rfl (v8 (by decide))) rfl))];generalize hg:(r+7919 * (n+1)+1) * 48271 % 2147483647=g;have g0:0<=g/\g<2147483647:=by rw[<-hg];exact⟨fJ _ (by decide),fw _ (by decide)⟩
  rw[om (pQ (d:=.int (g * (g / 1009+69621) % 2147483647)) (oW (oW rfl (oW (oW rfl rfl (div_pos (by decide) (by decide))) rfl rfl) (tX (.inl (Ef g0.1 g0.2)))) rfl (v8 (by decide))))];generalize hh:g * (g / 1009+69621) % 2147483647=m;have m0:0<=m/\m<2147483647:=by rw[<-hh];exact⟨fJ _ (by decide),fw _ (by decide)⟩
  rw[sk (d:=.int (m * (m / 2003+40692) % 2147483399 % b)) (oW (oW (oW rfl (oW (oW rfl rfl (div_pos (by decide) (by decide))) rfl rfl) (tX (.inl (Ef m0.1 m0.2)))) rfl (v8 (by decide))) rfl (v8 h0))];exact⟨_,[.int q,.int r,.int (n+1)],_,rfl,rfl,fJ _ (by omega),fw _ h0,.inr ⟨_,_,_,rfl⟩⟩
variable{es:List L4.D}
theorem KL(h:vw es)(h0:0<b)(h1:b<1073741824):∃d es',oh es [.int b]=some (.int d,es')/\0<=d/\d<b/\vw es':=by
 rcases h with ⟨c,rfl⟩|⟨q,r,n,rfl⟩
 ·obtain⟨d,es',ρ,e,p,q1,q2,q3⟩:=Bi (q:=c * (if decide ((10:Int) ^ (18:Int).toNat<=c)=true then 1 else 0)) (r:=c % 2147483647) (n:=0) (s2:=.im (.int c)) h0 h1;refine⟨d,es',yI rfl ?_ p,q1,q2,q3⟩;unfold rX;rw[om (ρ':=[.pm [.int (c * (if decide ((10:Int) ^ (18:Int).toNat<=c)=true then 1 else 0)),.int (c % 2147483647),.int 0],.im (.int b),.im (.int c),.un,.un])]
  ·exact e
  ·show sIf _ _ _ [.pm [.int c],.im (.int b),.un,.un,.un]=_;rw[qp (ρ':=[.pm [.int c],.im (.int b),.un,.un,.un]) rfl,om (show _=some (Out.nx [.pm [.int c],.im (.int b),.im (.int c),.un,.un]) from rfl)];rw[om (Ee (k:=0) (ds:=[.int c]) (oW rfl rfl (tX (.inr (by split<;>decide)))) rfl rfl)];rfl
 ·obtain⟨d,es',ρ,e,p,q1,q2,q3⟩:=Bi (q:=q) (r:=r) (n:=n) (s2:=.un) h0 h1;refine⟨d,es',yI rfl ?_ p,q1,q2,q3⟩;unfold rX;rw[om (ρ':=[.pm [.int q,.int r,.int n],.im (.int b),.un,.un,.un])]
  ·exact e
  ·show sIf _ _ _ [.pm [.int q,.int r,.int n],.im (.int b),.un,.un,.un]=_;rw[pM (ρ':=[.pm [.int q,.int r,.int n],.im (.int b),.un,.un,.un]) rfl];rfl
variable{ρ:List Sl}
theorem sf{i:Nat}(h:qc ρ i=some es)(hs:vw es)(h0:0<b)(h1:b<1073741824):∃d es',pL oh i (aCons (cC (.int b)) oT) ρ=some (.int d,putAt ρ i es')/\0<=d/\d<b/\vw es':=by obtain⟨d,es',e,q1,q2,q3⟩:=KL hs h0 h1;exact⟨d,es',Fl h rfl h e,q1,q2,q3⟩
def mks:List Str:=["gate", "luck", "tide"]
def vls:List Int:=[0,1,2]
inductive Tt where
 |no (n:Str) (v:Int)|bo (n:Str) (v:Int) (m:Str)|pl (n:Str) (v:Int)
def mkO(n:Str)(v:Int):L4.D:=.obj 6 ["term", "value"] [.str n,.int v]
def noO(d:L4.D):L4.D:=.obj 9 ["inner"] [d]
def Tt.o:Tt->L4.D
 |.no n v=>noO (mkO n v)
 |.bo n v m=>.obj 10 ["one", "other"] [mkO n v,noO (mkO m 1)]
 |.pl n v=>mkO n v
def Tt.fs:Tt->List L4.D
 |.no n v=>[.tup [.str n,.int v,.bl false]]
 |.bo n v m=>[.tup [.str n,.int v,.bl true],.tup [.str m,.int 1,.bl false]]
 |.pl n v=>[.tup [.str n,.int v,.bl true]]
def Tt.ok:Tt->Prop
 |.no n v=>n∈mks/\v∈vls
 |.bo n v m=>n∈mks/\v∈vls/\m∈mks
 |.pl n v=>n∈mks/\v∈vls
theorem c3{d:Int}(h0:0<=d)(h1:d<3):d=0\/d=1\/d=2:=by omega
theorem NJ{d:Int}(h0:0<=d)(h1:d<3):∃n∈mks,dIx (.lst [.str "gate", .str "luck", .str "tide"]) (.int d)=some (.str n):=by
 rcases c3 h0 h1 with rfl|rfl|rfl
 ·exact⟨"gate", by simp[mks],rfl⟩
 ·exact⟨"luck", by simp[mks],rfl⟩
 ·exact⟨"tide", by simp[mks],rfl⟩
theorem KM{d:Int}(h0:0<=d)(h1:d<3):d∈vls:=by rcases c3 h0 h1 with rfl|rfl|rfl<;>simp[vls]
theorem MZ(h:vw es):∃(t:Tt) (es':List L4.D),t.ok/\vw es'/\qK es []=some (.tup [t.o,.lst t.fs],es'):=by
 let ρ:List L4.D->Sl->Sl->Sl->Sl->List Sl:=λes a b c d=>[.pm es,a,b,c,d];obtain⟨d1,e1,x1,p0,p1,h1⟩:=sf (i:=0) (ρ:=ρ es .un .un .un .un) (b:=3) rfl h (by decide) (by decide);obtain⟨n,hn,xn⟩:=NJ p0 p1;obtain⟨d2,e2,x2,q0,q1,h2⟩:=sf (i:=0) (ρ:=ρ e1 (.im (.str n)) .un .un .un) (b:=3) rfl h1 (by decide) (by decide);have hv:=KM q0 q1;obtain⟨d3,e3,x3,r0,r1,h3⟩:=sf (i:=0) (ρ:=ρ e2 (.im (.str n)) (.im (.int d2)) .un .un) (b:=4) rfl h2 (by decide) (by decide);let σ:=ρ e3 (.im (.str n)) (.im (.int d2)) (.im (.int d3)) .un;have pre:∀{t:FS},(oe (oP 1 (c2 dIx (cL (oM (aCons (cS "gate") (aCons (cS "luck") (a1 (cS "tide")))))) (pL oh 0 (a1 (cC (.int 3))))))
   (oe (oP 2 (pL oh 0 (a1 (cC (.int 3))))) (oe (oP 3 (pL oh 0 (a1 (cC (.int 4))))) t)):FS) (ρ es .un .un .un .un)=t σ:=λ{t}=>
  (om (ρ':=ρ e1 (.im (.str n)) .un .un .un) ((pQ (oW (x:=.lst [.str "gate", .str "luck", .str "tide"]) rfl x1 xn)).trans rfl)).trans ((om (ρ':=ρ e2 (.im (.str n)) (.im (.int d2)) .un .un) ((pQ x2).trans rfl)).trans (om (ρ':=σ) ((pQ x3).trans rfl)))
 have q:∀k:Int,cT (c2 (dEq false) (cV 3) (cC (.int k))) σ=some (decide (d3=k),σ):=λk=>AA (oW (x:=.int d3) (y:=.int k) rfl rfl (Dk false d3 k));by_cases c0:d3=0
 ·refine⟨.no n d2,e3,⟨hn,hv⟩,h3,yI (ρ:=σ) rfl ?_ rfl⟩;unfold rF;refine pre.trans (qm ((qp (ρ':=σ) ((q 0).trans (by rw[bj c0]))).trans (sk ?_)));exact AB (oJ (rb (ds:=[mkO n d2]) (oJ (rb (ds:=[.str n,.int d2]) rfl rfl) rfl) rfl) rfl) (bY rfl)
 ·by_cases c1:d3=1
  ·obtain⟨d4,e4,x4,s0,s1,h4⟩:=sf (i:=0) (ρ:=σ) (b:=3) rfl h3 (by decide) (by decide);obtain⟨m,hm,xm⟩:=NJ s0 s1;let τ:=ρ e4 (.im (.str n)) (.im (.int d2)) (.im (.int d3)) (.im (.str m));refine⟨.bo n d2 m,e4,⟨hn,hv,hm⟩,h4,yI (ρ:=τ) rfl ?_ rfl⟩;unfold rF;refine pre.trans ((om (ρ':=σ) ((pM (ρ':=σ) ((q 0).trans (by rw[aY c0]))).trans rfl)).trans (qm ((qp (ρ':=σ) ((q 1).trans (by rw[bj c1]))).trans ?_)));refine(om (ρ':=τ) ((pQ (oW (x:=.lst [.str "gate", .str "luck", .str "tide"]) rfl x4 xm)).trans rfl)).trans (sk ?_);exact AB (oJ (rb (ds:=[mkO n d2,noO (mkO m 1)]) (oJ (rb (ds:=[.str n,.int d2]) rfl rfl) (oJ (rb (ds:=[mkO m 1]) (oJ (rb (ds:=[.str m,.int 1]) rfl rfl) rfl) rfl) rfl)) rfl) rfl) (bY rfl)
  ·refine⟨.pl n d2,e3,⟨hn,hv⟩,h3,yI (ρ:=σ) rfl ?_ rfl⟩;unfold rF;refine pre.trans ((om (ρ':=σ) ((pM (ρ':=σ) ((q 0).trans (by rw[aY c0]))).trans rfl)).trans ((om (ρ':=σ) ((pM (ρ':=σ) ((q 1).trans (by rw[aY c1]))).trans rfl)).trans (sk ?_)));exact AB (oJ (rb (ds:=[.str n,.int d2]) rfl rfl) rfl) (bY rfl)
def Tt.p(t:Tt):L4.D:=.tup [t.o,.lst t.fs]
theorem EL{a2 a3 a4 a5 a6 a7 a8 a9 a10 a11 vb:Sl}:∀(l:List L4.D) (es:List L4.D),vw es->∃(ts:List Tt) (es':List L4.D),ts.length=l.length/\(∀t∈ts,t.ok)/\vw es'/\
  tT 1 [0] (gN 0) pH (pL qK 1 oT) l [.pm es,vb,a2,a3,a4,a5,a6,a7,a8,a9,a10,a11]=some (ts.map Tt.p,[.pm es',vb,a2,a3,a4,a5,a6,a7,a8,a9,a10,a11])
 |[],es,h=>⟨[],es,rfl,λt ht=>(by cases ht),h,rfl⟩
 |d::l,es,h=>by
  obtain⟨t,e1,ht,h1,x1⟩:=MZ h;obtain⟨ts,e2,hl,hts,h2,x2⟩:=EL (a2:=a2) (a3:=a3) (a4:=a4) (a5:=a5) (a6:=a6) (a7:=a7) (a8:=a8) (a9:=a9) (a10:=a10) (a11:=a11) (vb:=vb) l e1 h1;refine⟨t::ts,e2,by rw[aI,aI,hl],λx hx=>?_,h2,?_⟩
  ·rcases aF.mp hx with rfl|hx
   ·exact ht
   ·exact hts x hx
  ·unfold tT;rw[show gN 0 d (De 1 [0] [.pm es,vb,a2,a3,a4,a5,a6,a7,a8,a9,a10,a11])=some [.im d,.pm es] from rfl];have ev:pL qK 1 oT [.im d,.pm es]=some (t.p,[.im d,.pm e1]):=(Fl (i:=1) (es:=es) (es0:=es) (ds:=[]) (ρ1:=[.im d,.pm es]) rfl rfl rfl x1).trans rfl;simp only[pH,ev];rw[show sN [0] (([.im d,.pm e1]:List Sl).drop 1) [.pm es,vb,a2,a3,a4,a5,a6,a7,a8,a9,a10,a11]=some [.pm e1,vb,a2,a3,a4,a5,a6,a7,a8,a9,a10,a11] from rfl];simp only[x2];rfl
structure Ru where
 vb:Str
 ts:List Tt
 ds:List (Str×Int)
 tx:Str
 rf:Bool
def puO(q:Str×Int):L4.D:=.obj 12 ["term", "value"] [.str q.1,.int q.2]
def prD(q:Str×Int):L4.D:=.tup [.str q.1,.int q.2]
def ruN:List Str:=["verb", "tests", "deeds", "text", "refuses"]
def Ru.o(r:Ru):L4.D:=.obj 13 ruN [.str r.vb,.lst (r.ts.map Tt.o),.lst (r.ds.map puO),.str r.tx,.bl r.rf]
def Ru.du(r:Ru):L4.D:=.tup [.str r.tx,.bl r.rf,.lst (r.ts.flatMap Tt.fs),.lst (r.ds.map prD)]
def rtx:List Str:=["Rule 0.", "Rule 1.", "Rule 2.", "Rule 3.", "Rule 4.", "Rule 5.", "Rule 6.", "Rule 7.", "Rule 8."]
def dOk(q:Str×Int):Prop:=q.1∈mks/\q.2∈vls
structure Ru.ok(c:Str)(r:Ru):Prop where
 t:∀t∈r.ts,t.ok
 l:r.ts.length<=3
 d:∀q∈r.ds,dOk q
 e:r.ds.length<=2
 f:r.rf=true->r.ds=[]
 k:(r.vb=c/\r.tx∈rtx)\/(r.vb∈(["drop", "shut"]:List Str)/\r.tx="Other.")
theorem Tf(k:Nat)(h:k<9):∃tx∈rtx,∀ρ:List Sl,cV 4 ρ=some (.int (k:Nat),ρ)->c2 xB (c2 xB (cS "Rule ") (c1 dStrI (cV 4))) (cS ".") ρ=some (.str tx,ρ):=by
 have c:k=0\/k=1\/k=2\/k=3\/k=4\/k=5\/k=6\/k=7\/k=8:=by omega
 rcases c with rfl|rfl|rfl|rfl|rfl|rfl|rfl|rfl|rfl
 ·exact⟨"Rule 0.", by simp[rtx],λρ h=>oW (oW rfl (tW h rfl) rfl) rfl (by kernel_rfl)⟩
 ·exact⟨"Rule 1.", by simp[rtx],λρ h=>oW (oW rfl (tW h rfl) rfl) rfl (by kernel_rfl)⟩
 ·exact⟨"Rule 2.", by simp[rtx],λρ h=>oW (oW rfl (tW h rfl) rfl) rfl (by kernel_rfl)⟩
 ·exact⟨"Rule 3.", by simp[rtx],λρ h=>oW (oW rfl (tW h rfl) rfl) rfl (by kernel_rfl)⟩
 ·exact⟨"Rule 4.", by simp[rtx],λρ h=>oW (oW rfl (tW h rfl) rfl) rfl (by kernel_rfl)⟩
 ·exact⟨"Rule 5.", by simp[rtx],λρ h=>oW (oW rfl (tW h rfl) rfl) rfl (by kernel_rfl)⟩
 ·exact⟨"Rule 6.", by simp[rtx],λρ h=>oW (oW rfl (tW h rfl) rfl) rfl (by kernel_rfl)⟩
 ·exact⟨"Rule 7.", by simp[rtx],λρ h=>oW (oW rfl (tW h rfl) rfl) rfl (by kernel_rfl)⟩
 ·exact⟨"Rule 8.", by simp[rtx],λρ h=>oW (oW rfl (tW h rfl) rfl) rfl (by kernel_rfl)⟩
def rB:FS:=(oe (oP 5 (cL (oS 1 [0] (iR1 (c2 dIx (cL (oM (aCons (cC (.int 0)) (aCons (cC (.int 1)) (aCons (cC (.int 1)) (aCons (cC (.int 2)) (aCons (cC (.int 2)) (a1 (cC (.int 3)))))))))) (pL oh 0 (a1 (cC (.int 6)))))) (gN 0) pH (pL qK 1 oT))))
 (oe (oP 6 (c2 xB (c2 xB (cS "Rule ") (c1 dStrI (cV 4))) (cS ".")))
 (oe (oP 7 (c2 (dEq false) (pL oh 0 (a1 (cC (.int 3)))) (cC (.int 0))))
 (oe (oP 8 (cL (Fn (cL (oM (aCons (oQ (aCons (cS "gate") (a1 (pL oh 0 (a1 (cC (.int 3))))))) (a1 (oQ (aCons (cS "luck") (a1 (pL oh 0 (a1 (cC (.int 3))))))))))) oNo (oAt (pL oh 0 (a1 (cC (.int 3))))))))
 (oe (sIf (cT (cV 7)) (oP 8 (cL (oM oT))) oI)
 (oe (o4 (xx 2 (oG 13 (λds=>o8 (ds++[])) (aCons (cV 1) (aCons (cL (oS 2 [] (iL (cV 5)) (gT (oR (gN 0) (oR (gN 1) qw)) 2) pH (cV 0))) (aCons (cL (oS 2 [] (iL (cV 8)) (gT (oR (gN 0) (oR (gN 1) qw)) 2) pH (oG 12 (λds=>pB (ds++[])) (aCons (cV 0) (a1 (cV 1)))))) (aCons (cV 6) (a1 (cV 7)))))))))
 (oe (oP 9 (cL (oM oT)))
 (oe (qd (iL (cV 5)) (gT (oR (gN 10) (oR (gN 11) qw)) 2) (oP 9 (cL (qQ (cV 9) (cV 11)))))
 (oe (o4 (xx 3 (oQ (aCons (cV 6) (aCons (cV 7) (aCons (cV 9) (a1 (cV 8))))))))
 (sIf (cT (c2 (dEq false) (pL oh 0 (a1 (cC (.int 3)))) (cC (.int 0)))) (o4 (xx 2 (oG 13 (λds=>o8 (ds++[(D.bl false)])) (aCons (c2 dIx (cL (oM (aCons (cS "drop") (a1 (cS "shut"))))) (pL oh 0 (a1 (cC (.int 2))))) (aCons (cL (oM oT)) (aCons (cL (oM (a1 (oG 12 (λds=>pB (ds++[])) (aCons (cS "tide") (a1 (cC (.int 2)))))))) (a1 (cS "Other.")))))))) oI))))))))))
theorem Tg(v tx:Str)(a b:List L4.D)(rf:Bool):o8 ([.str v,.lst a,.lst b,.str tx,.bl rf]++[])=some (ruN,[.str v,.lst a,.lst b,.str tx,.bl rf]):=by kernel_rfl
theorem dg(ρ:List L4.D->List Sl)(hp:∀es,qc (ρ es) 0=some es)(hq:∀es es',putAt (ρ es) 0 es'=ρ es')(hs:vw es)(h0:0<b)(h1:b<1073741824):∃d es',pL oh 0 (a1 (cC (.int b))) (ρ es)=some (.int d,ρ es')/\0<=d/\d<b/\vw es':=by obtain⟨d,es',e,q1,q2,q3⟩:=sf (i:=0) (hp es) hs h0 h1;exact⟨d,es',by rw[<-hq es es'];exact e,q1,q2,q3⟩
theorem Bj{R:L4.D->Sl->Sl->List Sl}(hg:∀f s t o x,gT (oR (gN 10) (oR (gN 11) qw)) 2 (.tup [o,x]) (R f s t)=some (R f (.im o) (.im x)))(hc:∀f s x,cV 9 (R (.lst f) s (.im x))=some (.lst f,R (.lst f) s (.im x)))(hd:∀f s x,cV 11 (R f s (.im x))=some (x,R f s (.im x)))(hst:∀f f' s t,(R f s t).set 9 (.im f')=R f' s t):∀(ts:List Tt) (f:List L4.D) (s t:Sl),f.length+2 * ts.length<=900->∃s' t',forL (gT (oR (gN 10) (oR (gN 11) qw)) 2) (oP 9 (cL (qQ (cV 9) (cV 11)))) (ts.map Tt.p) (R (.lst f) s t)=some (.nx (R (.lst (f++ts.flatMap Tt.fs)) s' t'))
 |[],f,s,t,_=>⟨s,t,by rw[List.flatMap_nil,bI];rfl⟩
 |x::ts,f,s,t,hl=>by
  rw[aI]at hl;have h2:x.fs.length<=2:=by cases x<;>simp[Tt.fs]
  obtain⟨s',t',h⟩:=Bj hg hc hd hst ts (f++x.fs) (.im x.o) (.im (.lst x.fs)) (by rw[aM];omega);refine⟨s',t',?_⟩;rw[aW];unfold forL;rw[show x.p=.tup [x.o,.lst x.fs] from rfl,hg];have ev:(oP 9 (cL (qQ (cV 9) (cV 11))):FS) (R (.lst f) (.im x.o) (.im (.lst x.fs)))=some (.nx (R (.lst (f++x.fs)) (.im x.o) (.im (.lst x.fs)))):=by refine(pQ (yH (Fk (hc _ _ _) (hd _ _ _) (by omega)))).trans ?_;rw[hst]
  simp only[ev];rw[kE,<- cN];exact h
theorem Th{d:Int}(h0:0<=d)(h1:d<6):∃n:Nat,n<=3/\dIx (.lst [.int 0,.int 1,.int 1,.int 2,.int 2,.int 3]) (.int d)=some (.int (n:Nat)):=by
 have c:d=0\/d=1\/d=2\/d=3\/d=4\/d=5:=by omega
 rcases c with rfl|rfl|rfl|rfl|rfl|rfl
 ·exact⟨0,by decide,rfl⟩
 ·exact⟨1,by decide,rfl⟩
 ·exact⟨1,by decide,rfl⟩
 ·exact⟨2,by decide,rfl⟩
 ·exact⟨2,by decide,rfl⟩
 ·exact⟨3,by decide,rfl⟩
theorem Ud(x y:L4.D){u:Int}(h0:0<=u)(h1:u<3):cutD [x,y] none (some u)=[x,y].take u.toNat:=by rcases c3 h0 h1 with rfl|rfl|rfl<;>rfl
theorem Ti{d:Int}(h0:0<=d)(h1:d<2):∃v∈(["drop", "shut"]:List Str),dIx (.lst [.str "drop", .str "shut"]) (.int d)=some (.str v):=by
 have c:d=0\/d=1:=by omega
 rcases c with rfl|rfl
 ·exact⟨"drop", by simp,rfl⟩
 ·exact⟨"shut", by simp,rfl⟩
def own(c:Str)(r:Ru):Bool:=decide (r.vb=c)
abbrev duL(c:Str)(R:List Ru):List L4.D:=(R.filter (own c)).map Ru.du
variable{c:Str}
theorem Iq(hc:c∉(["drop", "shut"]:List Str))(k:Nat)(hk:k<9)(h:vw es)(R:List Ru)(hR:R.length<=100)(s:List Sl)(hs:s.length=7):∃(R':List Ru) (es':List L4.D) (s':List Sl),(∀r∈R',r.ok c)/\R'.length<=2/\vw es'/\s'.length=8/\
  rB (.pm es::.im (.str c)::.ls (R.map Ru.o)::.ls (duL c R)::.im (.int (k:Nat))::s)=some (.nx (.pm es'::.im (.str c)::.ls ((R++R').map Ru.o)::.ls (duL c (R++R'))::s')):=by
 match s,hs with
 |[s5,s6,s7,s8,s9,s10,s11],_=>
 let A:=R.map Ru.o;let D0:=duL c R;let K:Sl:=.im (.int (k:Nat));let V:Sl:=.im (.str c);obtain⟨tx,htx,xtx⟩:=Tf k hk;obtain⟨d1,e1,x1,p0,p1,h1⟩:=dg (λes=>[.pm es,V,.ls A,.ls D0,K,s5,s6,s7,s8,s9,s10,s11]) (λ_=>rfl) (λ_ _=>rfl) h (b:=6) (by decide) (by decide);obtain⟨n,hn,xn⟩:=Th p0 p1;obtain⟨ts,e2,lts,hts,h2,x2⟩:=EL (a2:=.ls A) (a3:=.ls D0) (a4:=K) (a5:=s5) (a6:=s6) (a7:=s7) (a8:=s8) (a9:=s9) (a10:=s10) (a11:=s11) (vb:=V) (Bs 0 n) e1 h1;have ln:ts.length=n:=by rw[lts];unfold Bs;simp
 let P:L4.D:=.lst (ts.map Tt.p);let X:L4.D:=.str tx;obtain⟨d3,e3,x3,q0,q1,h3⟩:=dg (λes=>[.pm es,V,.ls A,.ls D0,K,.im P,.im X,s7,s8,s9,s10,s11]) (λ_=>rfl) (λ_ _=>rfl) h2 (b:=3) (by decide) (by decide);let rf:Bool:=decide (d3=0);let F:Sl:=.im (.bl rf);obtain⟨d4,e4,x4,r0,r1,h4⟩:=dg (λes=>[.pm es,V,.ls A,.ls D0,K,.im P,.im X,F,s8,s9,s10,s11]) (λ_=>rfl) (λ_ _=>rfl) h3 (b:=3) (by decide) (by decide);obtain⟨d5,e5,x5,t0,t1,h5⟩:=dg (λes=>[.pm es,V,.ls A,.ls D0,K,.im P,.im X,F,s8,s9,s10,s11]) (λ_=>rfl) (λ_ _=>rfl) h4 (b:=3) (by decide) (by decide);obtain⟨d6,e6,x6,u0,u1,h6⟩:=dg (λes=>[.pm es,V,.ls A,.ls D0,K,.im P,.im X,F,s8,s9,s10,s11]) (λ_=>rfl) (λ_ _=>rfl) h5 (b:=3) (by decide) (by decide);let dsA:List (Str×Int):=([("gate", d4),("luck", d5)]:List (Str×Int)).take d6.toNat;let ds:List (Str×Int):=if rf then []else dsA
 let r:Ru:=⟨c,ts,ds,tx,rf⟩;have okd:∀q∈ds,dOk q:=λq hq=>by
  have hq:q∈dsA:=by
   have hq:q∈(if rf then []else dsA):=hq;split at hq
   ·cases hq
   ·exact hq
  have hq:=List.mem_of_mem_take hq;rcases aF.mp hq with rfl|hq
  ·exact⟨by simp[mks],KM r0 r1⟩
  ·rw[aU.mp hq];exact⟨by simp[mks],KM t0 t1⟩
 have led:ds.length<=2:=by
  show (if rf then []else dsA).length<=2;split
  ·exact ba _
  ·show (List.take d6.toNat _).length<=2;rw[b9];exact Nat.min_le_right _ _
 have rok:r.ok c:=⟨hts,by show ts.length<=3;omega,okd,led,λz=>by show (if rf then []else dsA)=[];rw[ah z],.inl ⟨rfl,htx⟩⟩;let A1:=A++[r.o];let D1:=D0++[r.du];let Y:L4.D:=.lst (ds.map prD);let fc:L4.D:=.lst (ts.flatMap Tt.fs);have le100:A.length<1000:=by show (R.map Ru.o).length<1000;rw[aw];omega
 have leD:D0.length<1000:=by show ((R.filter (own c)).map Ru.du).length<1000;rw[aw];have:=jU (own c) R;omega
 obtain⟨s10',s11',fl⟩:=Bj (R:=λf s t=>[.pm e6,V,.ls A1,.ls D0,K,.im P,.im X,F,.im Y,.im f,s,t]) (λ_ _ _ _ _=>rfl) (λ_ _ _=>rfl) (λ_ _ _=>rfl) (λ_ _ _ _=>rfl) ts [] s10 s11 (by simp;omega);rw[dG]at fl;obtain⟨d7,e7,x7,v0,v1,h7⟩:=dg (λes=>[.pm es,V,.ls A1,.ls D1,K,.im P,.im X,F,.im Y,.im fc,s10',s11']) (λ_=>rfl) (λ_ _=>rfl) h6 (b:=3) (by decide) (by decide);have eA:A1=(R++[r]).map Ru.o:=by show R.map Ru.o++[r.o]=_;rw[cR];rfl
 have eD:D1=duL c (R++[r]):=by show (R.filter (own c)).map Ru.du++[r.du]=_;unfold duL;rw[fz,cR,cP,show own c r=true from bj rfl,ah rfl];rfl
 have hd:∀{o:Option Out},(sIf (cT (c2 (dEq false) (pL oh 0 (a1 (cC (.int 3)))) (cC (.int 0)))) (o4 (xx 2 (oG 13 (λds=>o8 (ds++[(D.bl false)])) (aCons (c2 dIx (cL (oM (aCons (cS "drop") (a1 (cS "shut"))))) (pL oh 0 (a1 (cC (.int 2))))) (aCons (cL (oM oT)) (aCons (cL (oM (a1 (oG 12 (λds=>pB (ds++[])) (aCons (cS "tide") (a1 (cC (.int 2)))))))) (a1 (cS "Other.")))))))) oI:FS) [.pm e6,V,.ls A1,.ls D1,K,.im P,.im X,F,.im Y,.im fc,s10',s11']=o->rB [.pm es,V,.ls A,.ls D0,K,s5,s6,s7,s8,s9,s10,s11]=o:=λ{o} last=>by
  unfold rB;refine(om (ρ':=[.pm e2,V,.ls A,.ls D0,K,.im P,s6,s7,s8,s9,s10,s11]) ((pQ (yH ((sQ (ds:=Bs 0 n) (ρ1:=[.pm e1,V,.ls A,.ls D0,K,s5,s6,s7,s8,s9,s10,s11]) ?_ (by rw[<-lts];omega)).trans x2))).trans rfl)).trans ?_
  ·have e:c2 dIx (cL (oM (aCons (cC (.int 0)) (aCons (cC (.int 1)) (aCons (cC (.int 1)) (aCons (cC (.int 2)) (aCons (cC (.int 2)) (a1 (cC (.int 3)))))))))) (pL oh 0 (a1 (cC (.int 6)))) [.pm es,V,.ls A,.ls D0,K,s5,s6,s7,s8,s9,s10,s11]=some (.int (n:Nat),[.pm e1,V,.ls A,.ls D0,K,s5,s6,s7,s8,s9,s10,s11]):=oW (x:=.lst [.int 0,.int 1,.int 1,.int 2,.int 2,.int 3]) rfl x1 xn;unfold iR1;rw[e];simp only;rw[ah (by omega),ix]
  refine(om (ρ':=[.pm e2,V,.ls A,.ls D0,K,.im P,.im X,s7,s8,s9,s10,s11]) ((pQ (xtx _ rfl)).trans rfl)).trans ?_;refine(om (ρ':=[.pm e3,V,.ls A,.ls D0,K,.im P,.im X,F,s8,s9,s10,s11]) ((pQ (oW (x:=.int d3) (y:=.int 0) x3 rfl (Dk false d3 0))).trans rfl)).trans ?_;have sl:cL (Fn (cL (oM (aCons (oQ (aCons (cS "gate") (a1 (pL oh 0 (a1 (cC (.int 3))))))) (a1 (oQ (aCons (cS "luck") (a1 (pL oh 0 (a1 (cC (.int 3))))))))))) oNo (oAt (pL oh 0 (a1 (cC (.int 3)))))) [.pm e3,V,.ls A,.ls D0,K,.im P,.im X,F,s8,s9,s10,s11]=some (.lst (dsA.map prD),[.pm e6,V,.ls A,.ls D0,K,.im P,.im X,F,s8,s9,s10,s11]):=by refine yH ?_;have l1:cL (oM (aCons (oQ (aCons (cS "gate") (a1 (pL oh 0 (a1 (cC (.int 3))))))) (a1 (oQ (aCons (cS "luck") (a1 (pL oh 0 (a1 (cC (.int 3)))))))))) [.pm e3,V,.ls A,.ls D0,K,.im P,.im X,F,s8,s9,s10,s11]=some (.lst [prD ("gate", d4),prD ("luck", d5)],[.pm e5,V,.ls A,.ls D0,K,.im P,.im X,F,s8,s9,s10,s11]):=yH (JU (oJ (AB (oJ rfl (oJ x4 rfl)) (bY rfl)) (oJ (AB (oJ rfl (oJ x5 rfl)) (bY rfl)) rfl)) (bY rfl));unfold Fn;rw[l1];show (match oAt (pL oh 0 (a1 (cC (.int 3)))) [.pm e5,V,.ls A,.ls D0,K,.im P,.im X,F,s8,s9,s10,s11]with|some (h,ρ3)=>some (cutD [prD ("gate", d4),prD ("luck", d5)] none h,ρ3)|none=>none)=_;unfold oAt;rw[x6];show some (cutD [prD ("gate", d4),prD ("luck", d5)] none (some d6),_)=_;rw[Ud _ _ u0 u1,show [prD ("gate", d4),prD ("luck", d5)]=([("gate", d4),("luck", d5)]:List (Str×Int)).map prD from rfl,<- List.map_take]
  refine(om (ρ':=[.pm e6,V,.ls A,.ls D0,K,.im P,.im X,F,.im (.lst (dsA.map prD)),s9,s10,s11]) ((pQ sl).trans rfl)).trans ?_;refine(om (ρ':=[.pm e6,V,.ls A,.ls D0,K,.im P,.im X,F,.im Y,s9,s10,s11]) ?_).trans ?_
  ·have et:cT (cV 7) [.pm e6,V,.ls A,.ls D0,K,.im P,.im X,F,.im (.lst (dsA.map prD)),s9,s10,s11]=some (rf,[.pm e6,V,.ls A,.ls D0,K,.im P,.im X,F,.im (.lst (dsA.map prD)),s9,s10,s11]):=rfl;show _=some (Out.nx [.pm e6,V,.ls A,.ls D0,K,.im P,.im X,F,.im (.lst ((if rf then []else dsA).map prD)),s9,s10,s11]);cases hrf:rf with
   |true=>rw[hrf]at et;exact(qp et).trans (by rw[ah rfl];rfl)
   |false=>rw[hrf]at et;exact(pM et).trans (by rw[ag aN];rfl)
  have mk1:oG 13 (λds=>o8 (ds++[])) (aCons (cV 1) (aCons (cL (oS 2 [] (iL (cV 5)) (gT (oR (gN 0) (oR (gN 1) qw)) 2) pH (cV 0))) (aCons (cL (oS 2 [] (iL (cV 8)) (gT (oR (gN 0) (oR (gN 1) qw)) 2) pH (oG 12 (λds=>pB (ds++[])) (aCons (cV 0) (a1 (cV 1)))))) (aCons (cV 6) (a1 (cV 7)))))) [.pm e6,V,.ls A,.ls D0,K,.im P,.im X,F,.im Y,s9,s10,s11]=some (r.o,[.pm e6,V,.ls A,.ls D0,K,.im P,.im X,F,.im Y,s9,s10,s11]):=by refine rb (ds:=[.str c,.lst (ts.map Tt.o),.lst (ds.map puO),.str tx,.bl rf]) (oJ rfl (oJ (yH ((sQ (ds:=ts.map Tt.p) rfl (by rw[aw];omega)).trans (wa Tt.p Tt.o ts λt _=>⟨[.im t.o,.im (.lst t.fs)],[.im t.o,.im (.lst t.fs)],rfl,rfl,rfl⟩))) (oJ (yH ((sQ (ds:=ds.map prD) rfl (by rw[aw];omega)).trans (wa prD puO ds λq _=>⟨[.im (.str q.1),.im (.int q.2)],[.im (.str q.1),.im (.int q.2)],rfl,rfl,rfl⟩))) (oJ rfl (oJ rfl rfl))))) (Tg _ _ _ _ _)
  refine(om (ρ':=[.pm e6,V,.ls A1,.ls D0,K,.im P,.im X,F,.im Y,s9,s10,s11]) ((zZ (Fm (es:=A) (es0:=A) rfl mk1 rfl le100)).trans rfl)).trans ?_;refine(om (ρ':=[.pm e6,V,.ls A1,.ls D0,K,.im P,.im X,F,.im Y,.im (.lst []),s10,s11]) rfl).trans ?_;refine(om (ρ':=[.pm e6,V,.ls A1,.ls D0,K,.im P,.im X,F,.im Y,.im fc,s10',s11']) ((vv (ds:=ts.map Tt.p) rfl).trans fl)).trans ?_;exact(om (ρ':=[.pm e6,V,.ls A1,.ls D1,K,.im P,.im X,F,.im Y,.im fc,s10',s11']) ((zZ (Fm (es:=D0) (es0:=D0) (d:=r.du) rfl rfl rfl leD)).trans rfl)).trans last
 have q7:cT (c2 (dEq false) (pL oh 0 (a1 (cC (.int 3)))) (cC (.int 0))) [.pm e6,V,.ls A1,.ls D1,K,.im P,.im X,F,.im Y,.im fc,s10',s11']=some (decide (d7=0),[.pm e7,V,.ls A1,.ls D1,K,.im P,.im X,F,.im Y,.im fc,s10',s11']):=AA (oW (x:=.int d7) (y:=.int 0) x7 rfl (Dk false d7 0));by_cases z:d7=0
 ·rw[bj z]at q7;obtain⟨d8,e8,x8,w0,w1,h8⟩:=dg (λes=>[.pm es,V,.ls A1,.ls D1,K,.im P,.im X,F,.im Y,.im fc,s10',s11']) (λ_=>rfl) (λ_ _=>rfl) h7 (b:=2) (by decide) (by decide);obtain⟨v,hv,xv⟩:=Ti w0 w1;let r':Ru:=⟨v,[],[("tide", 2)],"Other.", false⟩;have no:own c r'=false:=aY λe=>hc (by rw[<-e];exact hv);refine⟨[r,r'],e8,[K,.im P,.im X,F,.im Y,.im fc,s10',s11'],λx hx=>?_,ay 2,h8,rfl,hd ((qp q7).trans ((zZ (Fm (es:=A1) (es0:=A1) (d:=r'.o) (ρ1:=[.pm e8,V,.ls A1,.ls D1,K,.im P,.im X,F,.im Y,.im fc,s10',s11']) rfl ?_ rfl ?_)).trans ?_))⟩
  ·rcases aF.mp hx with rfl|hx
   ·exact rok
   ·rw[aU.mp hx];exact⟨λt ht=>(by cases ht),ba _,λq hq=>by rw[aU.mp hq];exact⟨by simp[mks],by simp[vls]⟩,eR 1,λe=>(by cases e),.inr ⟨hv,rfl⟩⟩
  ·exact rb (ds:=[.str v,.lst [],.lst [puO ("tide", 2)],.str "Other."]) (oJ (oW (x:=.lst [.str "drop", .str "shut"]) rfl x8 xv) rfl) rfl
  ·show (A++[r.o]).length<1000;rw[aM,ck];show (R.map Ru.o).length+1<1000;rw[aw];omega
  ·have e1:A1++[r'.o]=(R++[r,r']).map Ru.o:=by rw[eA,cR,cR,cN];rfl
   have e2:D1=duL c (R++[r,r']):=by rw[eD];unfold duL;rw[fz,fz,cP,cP (x:=r) (xs:=[r']),cP (x:=r'),no];rfl
   show some (Out.nx [.pm e8,V,.ls (A1++[r'.o]),.ls D1,K,.im P,.im X,F,.im Y,.im fc,s10',s11'])=_;rw[e1,e2]
 ·rw[aY z]at q7;refine⟨[r],e7,[K,.im P,.im X,F,.im Y,.im fc,s10',s11'],λx hx=>by rw[aU.mp hx];exact rok,eR 1,h7,rfl,hd ((pM q7).trans ?_)⟩;show some (Out.nx [.pm e7,V,.ls A1,.ls D1,K,.im P,.im X,F,.im Y,.im fc,s10',s11'])=_;rw[eA,eD]
theorem Bk{c:Str}(hc:c∉(["drop", "shut"]:List Str)):∀(l:List Nat),(∀k∈l,k<9)->∀(es:List L4.D) (R:List Ru) (s:List Sl),vw es->R.length+2 * l.length<=100->s.length=8->(∀r∈R,r.ok c)->∃(R':List Ru) (es':List L4.D) (s':List Sl),(∀r∈R',r.ok c)/\R'.length<=R.length+2 * l.length/\vw es'/\s'.length=8/\
  forL (gN 4) rB (l.map λk:Nat=>D.int (k:Nat)) (.pm es::.im (.str c)::.ls (R.map Ru.o)::.ls (duL c R)::s)=some (.nx (.pm es'::.im (.str c)::.ls (R'.map Ru.o)::.ls (duL c R')::s'))
 |[],_,es,R,s,h,_,hs,hR=>⟨R,es,s,hR,by simp,h,hs,rfl⟩
 |k::l,hk,es,R,s,h,hl,hs,hR=>by
  rw[aI]at hl
  match s,hs with
  |s4::s,hs=>
  obtain⟨R1,e1,s1,q1,q2,q3,q4,q5⟩:=Iq hc k (hk k aH) h R (by omega) s (by simpa using hs);obtain⟨R2,e2,s2,r1,r2,r3,r4,r5⟩:=Bk hc l (λk h=>hk k (aG _ h)) e1 (R++R1) s1 q3 (by rw[aM];omega) q4 λr hr=>(dD.mp hr).elim (hR r) (q1 r);refine⟨R2,e2,s2,r1,by rw[aM]at r2;rw[aI];omega,r3,r4,?_⟩;rw[aW];unfold forL;rw[show gN 4 (.int (k:Nat)) (.pm es::.im (.str c)::.ls (R.map Ru.o)::.ls (duL c R)::s4::s)=some (.pm es::.im (.str c)::.ls (R.map Ru.o)::.ls (duL c R)::.im (.int (k:Nat))::s) from rfl];simp only[q5];exact r5
theorem KN(hc:c∉(["drop", "shut"]:List Str))(h:vw es):∃(R:List Ru) (es':List L4.D),(∀r∈R,r.ok c)/\R.length<=18/\vw es'/\uL es [.str c]=some (.tup [.lst (R.map Ru.o),.lst (duL c R)],es'):=by
 let un:List Sl:=eM 8 .un;let V:Sl:=.im (.str c);obtain⟨d,e1,x1,p0,p1,h1⟩:=dg (λes=>.pm es::V::.ls []::.ls []::un) (λ_=>rfl) (λ_ _=>rfl) h (b:=9) (by decide) (by decide);obtain⟨m,rfl⟩:=Int.eq_ofNat_of_zero_le p0;obtain⟨R,e2,s2,r1,r2,r3,r4,r5⟩:=Bk hc (aL (1+m)) (λk hk=>by have:=bh.mp hk;omega) e1 [] un h1 (by rw[b8,dF];omega) rfl λr hr=>(by cases hr);rw[b8,dF]at r2;refine⟨R,e2,r1,by omega,r3,yI (ρ:=.pm e2::V::.im (.lst (R.map Ru.o))::.im (.lst (duL c R))::s2) rfl ?_ rfl⟩;unfold uK;refine(om (ρ':=.pm es::V::.ls []::.un::un) rfl).trans ((om (ρ':=.pm es::V::.ls []::.ls []::un) rfl).trans ?_);refine(om ((vv (ds:=(aL (1+m)).map λk:Nat=>D.int (k:Nat)) (ρ1:=.pm e1::V::.ls []::.ls []::un) ?_).trans r5)).trans ?_
 ·have e:c2 rQ (cC (.int 1)) (pL oh 0 (a1 (cC (.int 9)))) (.pm es::V::.ls []::.ls []::un)=some (.int (1+(m:Nat)),.pm e1::V::.ls []::.ls []::un):=oW (x:=.int 1) (y:=.int (m:Nat)) rfl x1 rfl;unfold iR1;rw[e];simp only;rw[ah (by omega),show ((1:Int)+(m:Nat)).toNat=1+m by omega];unfold Bs;simp
 ·rfl
def thO(n k:Str)(s:L4.D):L4.D:=.obj 0 ["name", "words", "kind", "start"] [.str n,.tup [.str n],.str k,s]
def ths:List L4.D:=[thO "hall" "room" .non,thO "me" "you" (.str "hall"),thO "key" "plain" (.str "hall"),thO "case" "box" (.str "hall")]
def maO(n:Str)(s:Int):L4.D:=.obj 1 ["name", "start", "most"] [.str n,.int s,.int 2]
def mas:List L4.D:=[maO "gate" 0,maO "luck" 1,maO "tide" 2]
def WY:L4.D:=.lst [.tup [.str "hall", .str "north", .str "hall", .str "gate"]]
def vbO(q:Str×Str×L4.D):L4.D:=.obj 2 ["name", "others", "form", "joining"] [.str q.1,.tup [],.str q.2.1,q.2.2]
def vb1:List (Str×Str×L4.D):=[("push", "one", .non),("tie", "two", .str "to"),("hum", "alone", .non),("swim", "way", .non),("turn", "alone", .non)]
def vb2:List (Str×Str×L4.D):=[("take", "one", .non),("drop", "one", .non),("open", "one", .non),("shut", "one", .non),("light", "one", .non),("douse", "one", .non),("put", "two", .str "in"),("go", "way", .non),("wait", "alone", .non)]
def SH:List L4.D:=(sF [.str "me", WY]).getD []
def wN:List Str:=["kept_things", "kept_marks", "kept_dark", "kept_ways", "kept_verbs", "shared_verbs", "your_name", "things_by_name", "mosts_by_name", "verbs_by_word", "kept_rules", "shared_rules", "copied_rules", "rules_by_verb"]
def wD(a b:List L4.D)(c:L4.D):List L4.D:=[.lst ths,.lst mas,.lst [],WY,.lst (vb1.map vbO),.lst (vb2.map vbO),.str "me", .dic ((["hall", "me", "key", "case"]:List Str).map .inr) ths,.dic ((["case", "gate", "luck", "tide"]:List Str).map .inr) [.int 1,.int 2,.int 2,.int 2],
 .dic ((vb1++vb2).map λq=>.inr q.1) ((vb1++vb2).map vbO),.lst a,.lst SH,.lst b,c]
def w10:L4.D:=.obj 14 (wN.take 10) ((wD [] [] .non).take 10)
def Ir:Option L4.D->Bool
 |some (.bl b)=>b
 |_=>false
theorem z6{x:Option L4.D}(h:Ir x=true):x=some (.bl true):=by
 unfold Ir at h;split at h
 ·rw[h]
 ·cases h
def fms:List Str:=["one", "two", "alone", "way"]
def FP:List Tt:=mks.flatMap λn=>vls.flatMap λv=>.no n v::.pl n v::mks.map (.bo n v)
def FQ:List (Str×Int):=mks.flatMap λn=>vls.map λv=>(n,v)
variable{t:Tt}
theorem Tj(h:t.ok):t∈FP:=by
 cases t<;>simp only[Tt.ok,mks,vls,aF,ee,or_false]at h
 ·obtain⟨rfl|rfl|rfl,rfl|rfl|rfl⟩:=h<;>simp[FP,mks,vls]
 ·obtain⟨rfl|rfl|rfl,rfl|rfl|rfl,rfl|rfl|rfl⟩:=h<;>simp[FP,mks,vls]
 ·obtain⟨rfl|rfl|rfl,rfl|rfl|rfl⟩:=h<;>simp[FP,mks,vls]
variable{q:Str×Int}
theorem QY(h:dOk q):q∈FQ:=by obtain⟨n,v⟩:=q;simp only[dOk,mks,vls,aF,ee,or_false]at h;obtain⟨rfl|rfl|rfl,rfl|rfl|rfl⟩:=h<;>simp[FQ,mks,vls]
theorem QZ:(fms.all λf=>FP.all λt=>Ir (qJ 3 [w10,.str f,t.o,sW]))=true:=by kernel_rfl
theorem Q0:(fms.all λf=>FQ.all λq=>Ir (we [w10,.str f,puO q]))=true:=by kernel_rfl
variable{f:Str}
theorem Tn(hf:f∈fms)(h:t.ok):qJ 3 [w10,.str f,t.o,sW]=some (.bl true):=z6 (aS.mp (aS.mp QZ f hf) t (Tj h))
theorem To(hf:f∈fms)(h:dOk q):we [w10,.str f,puO q]=some (.bl true):=z6 (aS.mp (aS.mp Q0 f hf) q (QY h))
def vbs:List Str:=["push", "tie", "hum", "swim", "take", "put", "go", "wait", "drop", "shut", "turn"]
def txs:List Str:=rtx++(["Other.", "Up.", "Down."]:List Str)
theorem Q1:(vbs.all λv=>Ir (qW [w10,.str v]))=true:=by kernel_rfl
theorem Q2:(txs.all λv=>Ir (wc [.str v]))=true:=by kernel_rfl
theorem Tp{v:Str}(h:v∈vbs):qW [w10,.str v]=some (.bl true):=z6 (aS.mp Q1 v h)
theorem Tq{v:Str}(h:v∈txs):wc [.str v]=some (.bl true):=z6 (aS.mp Q2 v h)
theorem Tr{v:Str}(h:v∈vbs):∃f∈fms,∃o ns,rM [w10,.str v]=some (.obj 2 ns o)/\ou sm "form" (.obj 2 ns o)=some (.str f):=by simp only[vbs,aF,ee,or_false]at h;rcases h with rfl|rfl|rfl|rfl|rfl|rfl|rfl|rfl|rfl|rfl|rfl<;>exact⟨_,by first|exact aH|exact aG _ aH|exact aG _ (aG _ aH)|exact aG _ (aG _ (aG _ aH)),_,_,rfl,rfl⟩
theorem FR{α:Type}(l:List α):rJ (.lst (l.map λ_=>D.bl true))=some (.bl true):=by rw[MK l λ_=>true];simp
theorem KO(l:List L4.D)(n:Int)(h:(l.length:Int)<=n):pd [.lst l,.int n]=some (.bl true):=by
 have e:pd [.lst l,.int n]=some (.bl (decide ((l.length:Int)<=n))):=by kernel_rfl
 rw[e,bj h]
theorem Ts(hf:f∈fms)(ts:List Tt)(h:∀t∈ts,t.ok)(hl:ts.length<=3):vT [w10,.str f,.lst (ts.map Tt.o)]=some (.bl true):=by refine p6 (ρ:=[.im w10,.im (.str f),.im (.lst (ts.map Tt.o))]) rfl (sk ((vA (pb (oJ rfl (oJ rfl rfl)) (KO _ _ (by rw[aw];omega)))).trans (tW (yH ((sQ (ds:=ts.map Tt.o) rfl (by rw[aw];omega)).trans (wa Tt.o (λ_=>.bl true) ts λt ht=>?_))) (FR ts))));exact⟨[.im t.o,.im w10,.im (.str f)],[.im t.o,.im w10,.im (.str f)],rfl,pb (oJ rfl (oJ rfl (oJ rfl (oJ rfl rfl)))) (Tn hf (h t ht)),rfl⟩
theorem Tv(hf:f∈fms)(ds:List (Str×Int))(h:∀t∈ds,dOk t)(hl:ds.length<=2):vU [w10,.str f,.lst (ds.map puO)]=some (.bl true):=by refine p6 (ρ:=[.im w10,.im (.str f),.im (.lst (ds.map puO))]) rfl (sk ((vA (pb (oJ rfl (oJ rfl rfl)) (KO _ _ (by rw[aw];omega)))).trans (tW (yH ((sQ (ds:=ds.map puO) rfl (by rw[aw];omega)).trans (wa puO (λ_=>.bl true) ds λt ht=>?_))) (FR ds))));exact⟨[.im (puO t),.im w10,.im (.str f)],[.im (puO t),.im w10,.im (.str f)],rfl,pb (oJ rfl (oJ rfl (oJ rfl rfl))) (To hf (h t ht)),rfl⟩
structure Ru.g(r:Ru):Prop where
 t:∀t∈r.ts,t.ok
 l:r.ts.length<=3
 d:∀q∈r.ds,dOk q
 e:r.ds.length<=2
 f:r.rf=true->r.ds=[]
 v:r.vb∈vbs
 x:r.tx∈txs
variable{r:Ru}
theorem Tw(h:r.rf=true->r.ds=[]):qX [r.o]=some (.bl true):=by
 obtain⟨v,ts,ds,tx,rf⟩:=r;cases rf
 ·kernel_rfl
 ·have h':=h rfl;simp only at h';subst h';kernel_rfl
theorem FU(h:r.g):yV [w10,r.o]=some (.bl true):=by obtain⟨f,hf,o,ns,e1,e2⟩:=Tr h.v;let ρ:List Sl:=[.im w10,.im r.o,.un];refine p6 (ρ:=[.im w10,.im r.o,.im (.str f)]) rfl ?_;unfold yU;refine(om (ρ':=ρ) ((pM (ρ':=ρ) (Fj (ρ1:=ρ) rfl (Fj (ρ1:=ρ) (z4 (b:=true) (AA (pb (ds:=[w10,.str r.vb]) rfl (Tp h.v)))) (z4 (b:=true) (AA (pb (ds:=[.str r.tx]) rfl (Tq h.x))))))).trans rfl)).trans ?_;refine(om (ρ':=[.im w10,.im r.o,.im (.str f)]) ((pQ (ρ':=ρ) (tW (wb (hh:=rM) (ys:=[.str r.vb]) rfl rfl rfl rfl e1) e2)).trans rfl)).trans (sk ?_);refine(vA (pb (ds:=[w10,.str f,.lst (r.ts.map Tt.o)]) rfl (Ts hf r.ts h.t h.l))).trans ((vA (pb (ds:=[w10,.str f,.lst (r.ds.map puO)]) rfl (Tv hf r.ds h.d h.e))).trans (pb (ds:=[r.o]) rfl (Tw h.f)))
theorem M0(r:Ru):yS [r.o]=some r.o:=by kernel_rfl
def gl:List Key->List (List L4.D)->Key->List L4.D
 |k::ks,ds::dss,j=>if k=j then ds else gl ks dss j
 |_,_,_=>[]
theorem GY:∀(ks:List Key) (dss:List (List L4.D)) (j:Key),(vx ks (dss.map .lst) j).getD (.lst [])=.lst (gl ks dss j)
 |[],dss,j=>by cases dss<;>rfl
 |k::ks,[],j=>rfl
 |k::ks,ds::dss,j=>by
  rw[aW];unfold vx gl;by_cases h:k=j
  ·rw[ah h,ah h];rfl
  ·rw[ag h,ag h];exact GY ks dss j
theorem KP{d:L4.D}{k j:Key}:∀(ks:List Key) (dss:List (List L4.D)),ks.length=dss.length->(k=j->k∈ks)->gl ks (dR (λk' ds=>if k'=k then ds++[d]else ds) ks dss) j=gl ks dss j++if k=j then [d]else []
 |[],[],_,hm=>by rw[ag λh=>(by cases hm h)];rfl
 |[],_::_,h,_=>by cases h
 |_::_,[],h,_=>by cases h
 |k0::ks,ds::dss,h,hm=>by
  rw[fj];unfold gl;by_cases e:k0=j
  ·subst e;rw[ah rfl,ah rfl];by_cases e2:k0=k
   ·rw[ah e2,ah e2.symm]
   ·rw[ag e2,ag λz=>e2 z.symm,bI]
  ·rw[ag e,ag e];exact KP ks dss (by simpa using h) λz=>by
    rcases aF.mp (hm z)with y|y
    ·exact ai (y.symm.trans z) e
    ·exact y
theorem KQ{d:L4.D}{k j:Key}:∀(ks:List Key) (dss:List (List L4.D)),ks.length=dss.length->k∉ks->gl (ks++[k]) (dss++[[d]]) j=gl ks dss j++if k=j then [d]else []
 |[],[],_,_=>rfl
 |[],_::_,h,_=>by cases h
 |_::_,[],h,_=>by cases h
 |k0::ks,ds::dss,h,hm=>by
  rw[eG,eG];unfold gl;by_cases e:k0=j
  ·rw[ah e,ah e,ag λz=>hm (by rw[z,e];exact aH),bI]
  ·rw[ag e,ag e];exact KQ ks dss (by simpa using h) λz=>hm (aG _ z)
theorem KR{d:L4.D}{k:Key}{P Q:List L4.D->Prop}(h1:∀ds,P ds->Q ds)(h2:∀ds,P ds->Q (ds++[d])):∀(ks:List Key) (dss:List (List L4.D)),(∀ds∈dss,P ds)->∀x∈dR (λk' ds=>if k'=k then ds++[d]else ds) ks dss,Q x
 |[],_,_,x,hx=>by cases hx
 |_::_,[],_,x,hx=>by cases hx
 |k0::ks,ds::dss,h,x,hx=>by
  rw[fj]at hx;rcases aF.mp hx with rfl|hx
  ·have:=h ds aH;split
   ·exact h2 _ this
   ·exact h1 _ this
  ·exact KR h1 h2 ks dss (λds hd=>h ds (aG _ hd)) x hx
theorem Bl{d:L4.D}(hd:noC 16 14 d=true):∀ds:List L4.D,rq 16 14 ds=true->rq 16 14 (ds++[d])=true
 |[],_=>by rw[dG];unfold rq;rw[hd];rfl
 |x::ds,h=>by rw[eG];unfold rq at h ⊢;rw[aE]at h ⊢;exact⟨h.1,Bl hd ds h.2⟩
theorem yt:∀ds:List L4.D,(∀d∈ds,noC 16 14 d=true)->rq 16 14 ds=true
 |[],_=>by unfold rq;rfl
 |x::ds,h=>by unfold rq;rw[aE];exact⟨h x aH,yt ds λd hd=>h d (aG _ hd)⟩
def kv(d:L4.D):Key:=match ou qy "verb" d with
 |some x=>(uu x).getD (.inl 0)
 |none=>.inl 0
def gK(d:L4.D):Bool:=(match ou qy "verb" d with
 |some x=>(uu x).isSome
 |none=>false)&&noC 16 14 d
variable{d:L4.D}
theorem Tx(h:gK d=true):∃x,ou qy "verb" d=some x/\uu x=some (kv d):=by
 unfold gK at h;rw[aE]at h;obtain⟨h,_⟩:=h;unfold kv;split at h
 ·rename_i x e;rw[e];cases e2:uu x with
  |none=>rw[e2]at h;cases h
  |some y=>exact⟨x,rfl,e2⟩
 ·cases h
theorem KU:∀(L:List L4.D) (ks:List Key) (dss:List (List L4.D)),(∀d∈L,gK d=true)->ks.length=dss.length->ks.length+L.length<1000->(∀ds∈dss,ds.length+L.length<1000/\rq 16 14 ds=true)->
  ∃ks' dss',uz (ou qy "verb") L ks dss=some (ks',dss')/\(∀j,gl ks' dss' j=gl ks dss j++L.filter λd=>decide (kv d=j))/\∀ds∈dss',rq 16 14 ds=true
 |[],ks,dss,_,_,_,h=>⟨ks,dss,rfl,λj=>by rw[List.filter_nil,bI],λds hd=>(h ds hd).2⟩
 |d::L,ks,dss,hg,hl,hk,h=>by
  rw[aI]at hk;have hL:∀ds∈dss,ds.length+L.length+1<1000/\rq 16 14 ds=true:=λds hd=>⟨by have:=(h ds hd).1;rw[aI]at this;omega,(h ds hd).2⟩;have gd:=hg d aH;have nd:noC 16 14 d=true:=by unfold gK at gd;rw[aE]at gd;exact gd.2
  obtain⟨x,e1,e2⟩:=Tx gd;have st:(uy ks dss (kv d) d).1.length=(uy ks dss (kv d) d).2.length/\(uy ks dss (kv d) d).1.length+L.length<1000/\(∀ds∈(uy ks dss (kv d) d).2,ds.length+L.length<1000/\rq 16 14 ds=true)/\∀j,gl (uy ks dss (kv d) d).1 (uy ks dss (kv d) d).2 j=gl ks dss j++if kv d=j then [d]else []:=by
   unfold uy;by_cases c:Bv ks (kv d)=true
   ·rw[ah c];refine⟨by simp only[ib];omega,by simp only;omega,KR (P:=λds=>ds.length+L.length+1<1000/\rq 16 14 ds=true) (λds h=>⟨by omega,h.2⟩) (λds h=>⟨by rw[aM,ck];omega,Bl nd ds h.2⟩) ks dss hL,λj=>KP ks dss hl λ_=>xF.mp c⟩
   ·rw[ag c];refine⟨by simp[hl],by simp only[aM,ck];omega,λds hd=>?_,λj=>KQ ks dss hl λz=>c (xF.mpr z)⟩;rcases dD.mp hd with hd|hd
    ·exact⟨by have:=(hL ds hd).1;omega,(hL ds hd).2⟩
    ·rw[aU.mp hd];exact⟨by simp only[ck];omega,Bl nd [] (by unfold rq;rfl)⟩
  obtain⟨s1,s2,s3,s4⟩:=st;obtain⟨ks',dss',q1,q2,q3⟩:=KU L (uy ks dss (kv d) d).1 (uy ks dss (kv d) d).2 (λx hx=>hg x (aG _ hx)) s1 s2 s3;refine⟨ks',dss',?_,λj=>?_,q3⟩
  ·unfold uz;simp only[e1,e2];rw[ah]
   ·exact q1
   ·rw[aE];refine⟨bj (by omega),aS.mpr λds hd=>bj (by have:=(hL ds hd).1;omega)⟩
  ·rw[q2 j,s4 j,cP,cN];by_cases c:kv d=j
   ·simp[c]
   ·simp[c]
theorem Q3:SH.length<=100:=bY (by kernel_rfl)
theorem Tz:SH.all gK=true:=by kernel_rfl
theorem TB(t:Tt):noC 16 14 t.o=true:=by cases t<;>kernel_rfl
theorem TC(r:Ru):gK r.o=true:=by
 have h1:rq 16 14 (r.ts.map Tt.o)=true:=yt _ λd hd=>by obtain⟨t,_,rfl⟩:=bD.mp hd;exact TB t
 have h2:rq 16 14 (r.ds.map puO)=true:=yt _ λd hd=>by obtain⟨t,_,rfl⟩:=bD.mp hd;kernel_rfl
 have e:gK r.o=(rq 16 14 (r.ts.map Tt.o)&&(rq 16 14 (r.ds.map puO)&&true)):=by kernel_rfl
 rw[e,h1,h2];rfl
variable{e:FE}{ns:List Str}{ds:List L4.D}
section
variable{Q:List Ru}{ks:List Key}{dss:List (List L4.D)}
def wA(Q:List Ru)(c:L4.D):List L4.D:=wD (Q.map Ru.o) (Q.map Ru.o) c
def wS(Q:List Ru)(c:L4.D)(q:Sl)(k:Nat):List Sl:=[.ob 14 (wN.take k) ((wA Q c).take k),.im (.lst ths),.im (.lst mas),.im (.lst []),.im WY,.im (.lst (vb1.map vbO)),.im (.lst (Q.map Ru.o)),q]
theorem NK{r:List Sl}{r':List Sl}(h1:e (.im (.obj 14 ns ds)::r.map xc)=some (d,r'))(h2:noC 16 14 d=true):wB 16 e (.ob 14 ns ds::r)=some (d,.ob 14 ns ds::r):=by unfold wB;simp only[h1,h2];rfl
theorem NL{nm:Str}{r:List Sl}(h1:e (.ob 14 ns ds::r)=some (d,.ob 14 ns ds::r))(h2:ns.contains nm=false)(h3:ds.length=ns.length)(h4:ns.length<900):o5 14 0 nm e (.ob 14 ns ds::r)=some (.nx (.ob 14 (ns++[nm]) (ds++[d])::r)):=by unfold o5;rw[h1];show (if 14=14 then if ns.contains nm=true then none else if ds.length=ns.length then if ns.length<900 then some (Out.nx (.ob 14 (ns++[nm]) (ds++[d])::r))else none else none else none)=_;rw[ah rfl,h2,ag aN,ah h3,ah h4]
theorem KW(hQ:∀r∈Q,r.g)(hl:Q.length<=20):∃ks dss,rU [.lst ths,.lst mas,.lst [],WY,.lst (vb1.map vbO),.lst (Q.map Ru.o)]=some (wN,wA Q (.dic ks (dss.map .lst)))/\∀j,gl ks dss j=(Q.map Ru.o++SH).filter λd=>decide (kv d=j):=by
 have hs:=Q3;have lm:(Q.map Ru.o).length<=20:=by rw[aw];exact hl
 have hg:∀d∈Q.map Ru.o++SH,gK d=true:=λd hd=>by
  rcases dD.mp hd with hd|hd
  ·obtain⟨r,_,rfl⟩:=bD.mp hd;exact TC r
  ·exact aS.mp Tz d hd
 obtain⟨ks,dss,g1,g2,g3⟩:=KU (Q.map Ru.o++SH) [] [] hg rfl (by rw[aM];simp only[dF];omega) λds h=>(by cases h);refine⟨ks,dss,?_,λj=>(g2 j).trans (dG _)⟩;let c:L4.D:=.dic ks (dss.map .lst);let B:Sl:=.im (.bl true);have nc:noC 16 14 c=true:=by show rq 16 14 (dss.map .lst)=true;exact yt _ λd hd=>by obtain⟨ds,h,rfl⟩:=bD.mp hd;exact g3 ds h
 have e:qY (wS Q c .un 0)=some (.nx (wS Q c B 14)):=by
  unfold qY;refine(om (ρ':=wS Q c .un 0) (by kernel_rfl)).trans ?_;refine(om (ρ':=wS Q c .un 1) (by kernel_rfl)).trans ((om (ρ':=wS Q c .un 2) (by kernel_rfl)).trans ((om (ρ':=wS Q c .un 3) (by kernel_rfl)).trans ((om (ρ':=wS Q c .un 4) (by kernel_rfl)).trans ((om (ρ':=wS Q c .un 5) (by kernel_rfl)).trans ?_))));refine(om (ρ':=wS Q c .un 6) (by kernel_rfl)).trans ((om (ρ':=wS Q c .un 7) (by kernel_rfl)).trans ((om (ρ':=wS Q c .un 8) (by kernel_rfl)).trans ((om (ρ':=wS Q c .un 9) (by kernel_rfl)).trans ((om (ρ':=wS Q c .un 10) (by kernel_rfl)).trans ?_))));refine(om (ρ':=wS Q c B 10) ((pQ (i:=7) (ρ':=wS Q c .un 10) (NK (d:=.bl true) (r:=(wS Q c .un 10).tail) ((vA (ρ1:=.im w10::(wS Q c .un 10).tail) (pb (oJ rfl (oJ rfl rfl)) (KO _ _ (by omega)))).trans (tW (yH ((sQ (ds:=Q.map Ru.o) rfl (by omega)).trans (wa Ru.o (λ_=>.bl true) Q λr hr=>?_))) (FR Q))) rfl)).trans rfl)).trans ?_
  ·exact⟨[.im r.o,.im w10],[.im r.o,.im w10],rfl,pb (oJ rfl (oJ rfl rfl)) (FU (hQ r hr)),rfl⟩
  refine(om (ρ':=wS Q c B 10) (by kernel_rfl)).trans ((om (ρ':=wS Q c B 11) (by kernel_rfl)).trans ((om (ρ':=wS Q c B 12) (by kernel_rfl)).trans ?_));refine(om (ρ':=wS Q c B 13) (NL (r:=(wS Q c B 12).tail) (yH ((sQ (ds:=Q.map Ru.o) rfl (by omega)).trans (wa Ru.o Ru.o Q λr hr=>⟨[.im r.o],[.im r.o],rfl,pb (oJ rfl rfl) (M0 r),rfl⟩))) rfl rfl (by decide))).trans ?_;refine NL (r:=(wS Q c B 13).tail) (NK (pb (ds:=[.lst (Q.map Ru.o++SH)]) (oJ (yH (Fk (xs:=Q.map Ru.o) (ys:=SH) rfl rfl (by omega))) rfl) (r:=c) ?_) nc) rfl rfl (by decide);refine p6 (ρ:=[.im (.lst (Q.map Ru.o++SH)),.un,.un]) rfl ?_;show (match uz (ou qy "verb") (Q.map Ru.o++SH) [] []with
   |some (ks,dss)=>some (Out.rt (.dic ks (dss.map .lst)) [.im (.lst (Q.map Ru.o++SH)),.un,.un])
   |none=>none)=_
  rw[g1]
 unfold rU fnI;rw[ah (show [D.lst ths,D.lst mas,.lst [],WY,.lst (vb1.map vbO),.lst (Q.map Ru.o)].length=6 from rfl)];rw[show qY (stI 14 8 [.lst ths,.lst mas,.lst [],WY,.lst (vb1.map vbO),.lst (Q.map Ru.o)])=some (.nx (wS Q c B 14)) from e];rfl
end
def tu1:Ru:=⟨"turn", [.pl "gate" 0],[("gate", 1)],"Up.", false⟩
def tu2:Ru:=⟨"turn", [],[("gate", 0)],"Down.", false⟩
abbrev WO(Q:List Ru)(c:L4.D):L4.D:=.obj 14 wN (wA Q c)
def cvs:List Str:=["push", "tie", "hum", "swim", "take", "put", "go", "wait"]
theorem Q4(hc:c∈cvs)(h:r.ok c):r.g where
 t:=h.t
 l:=h.l
 d:=h.d
 e:=h.e
 f:=h.f
 v:=by
  have:∀x∈cvs,x∈vbs:=by decide
  rcases h.k with ⟨k,_⟩|⟨k,_⟩
  ·rw[k];exact this c hc
  ·have:∀x∈(["drop", "shut"]:List Str),x∈vbs:=by decide
   exact this _ k
 x:=by
  rcases h.k with ⟨_,k⟩|⟨_,k⟩
  ·exact f9 _ k
  ·rw[k];exact bM _ aH
theorem M3:tu1.g/\tu2.g:=by
 refine⟨⟨?_,by decide,?_,by decide,λh=>(by cases h),by decide,by decide⟩,⟨λt h=>(by cases h),by decide,?_,by decide,λh=>(by cases h),by decide,by decide⟩⟩
 ·intro t h;rw[aU.mp h];exact⟨by decide,by decide⟩
 ·intro t h;rw[aU.mp h];exact⟨by decide,by decide⟩
 ·intro t h;rw[aU.mp h];exact⟨by decide,by decide⟩
theorem Iu(hc:c∈cvs){R:List Ru}(hR:∀r∈R,r.ok c)(hl:R.length<=18):∃ks dss,uN [.lst (R.map Ru.o)]=some (WO (R++[tu1,tu2]) (.dic ks (dss.map .lst)))/\∀j,gl ks dss j=((R++[tu1,tu2]).map Ru.o++SH).filter λd=>decide (kv d=j):=by
 obtain⟨ks,dss,e,h⟩:=KW (Q:=R++[tu1,tu2]) (λr hr=>by
  rcases dD.mp hr with hr|hr
  ·exact Q4 hc (hR r hr)
  ·rcases aF.mp hr with rfl|hr
   ·exact M3.1
   ·rw[aU.mp hr];exact M3.2) (by rw[aM];simp;omega)
 refine⟨ks,dss,?_,h⟩;rw[cR]at e;let ρ:Sl->Sl->Sl->Sl->List Sl:=λa b c d=>[.im (.lst (R.map Ru.o)),a,b,c,d];let RS:L4.D:=.lst [tu1.o,tu2.o];let z:=ρ (.im (.lst ths)) (.im (.lst (vb1.map vbO))) (.im RS) (.im (.lst mas));refine p6 (ρ:=z) rfl ?_;unfold uM;refine(om (ρ':=ρ (.im (.lst (ths.take 2))) .un .un .un) (by kernel_rfl)).trans ((om (ρ':=ρ (.im (.lst ths)) .un .un .un) (by kernel_rfl)).trans ((om (ρ':=ρ (.im (.lst ths)) (.im (.lst ((vb1.take 4).map vbO))) .un .un) (by kernel_rfl)).trans ((om (ρ':=ρ (.im (.lst ths)) (.im (.lst ((vb1.take 4).map vbO))) (.im RS) .un) (by kernel_rfl)).trans ((om (ρ':=ρ (.im (.lst ths)) (.im (.lst (vb1.map vbO))) (.im RS) .un) (by kernel_rfl)).trans ((om (ρ':=z) (by kernel_rfl)).trans (sk ?_))))));refine rb (oJ (ρ1:=z) rfl (oJ (ρ1:=z) rfl (oJ (ρ1:=z) rfl (oJ (ρ1:=z) (d:=WY) rfl (oJ (ρ1:=z) rfl (oJ (ρ1:=z) (yH (Fk (xs:=R.map Ru.o) (ys:=[tu1.o,tu2.o]) rfl rfl (by rw[aw];simp;omega))) rfl)))))) ?_;exact e
structure Sd where
 p:Str
 g:Int
 l:Int
 t:Int
def Sd.m(s:Sd)(n:Str):Int:=if n="gate" then s.g else if n="luck" then s.l else s.t
def Sd.put(s:Sd)(q:Str×Int):Sd:=if q.1="gate" then { s with g:=q.2 } else if q.1="luck" then { s with l:=q.2 } else { s with t:=q.2 }
def ptO(a b:Str)(v:L4.D):L4.D:=.tup [.tup [.str a,.str b],v]
def Sd.o(s:Sd):L4.D:=.tup [ptO "at" "case" (.str "hall"),ptO "at" "key" (.str s.p),ptO "at" "me" (.str "hall"),ptO "mark" "case" (.int 0),ptO "mark" "gate" (.int s.g),ptO "mark" "luck" (.int s.l),ptO "mark" "tide" (.int s.t)]
def yu:List Sd:=(["hall", "me"]:List Str).flatMap λp=>vls.flatMap λg=>vls.flatMap λl=>vls.map λt=>⟨p,g,l,t⟩
def Sd.ok(s:Sd):Prop:=s.p∈(["hall", "me"]:List Str)/\s.g∈vls/\s.l∈vls/\s.t∈vls
theorem FV{s:Sd}(h:s.ok):s∈yu:=by obtain⟨p,g,l,t⟩:=s;obtain⟨h1,h2,h3,h4⟩:=h;exact eI.mpr ⟨p,h1,eI.mpr ⟨g,h2,eI.mpr ⟨l,h3,bD.mpr ⟨t,h4,rfl⟩⟩⟩⟩
theorem FW{s:Sd}(h:s.ok)(hq:dOk q):(s.put q).ok:=by
 obtain⟨h1,h2,h3,h4⟩:=h;unfold Sd.put;split
 ·exact⟨h1,hq.2,h3,h4⟩
 ·split
  ·exact⟨h1,h2,hq.2,h4⟩
  ·exact⟨h1,h2,h3,hq.2⟩
theorem Q5(Q:List Ru)(c:L4.D):tL [WO Q c]=some (Sd.o ⟨"hall", 0,1,2⟩):=by kernel_rfl
def Tt.h(s:Sd):Tt->Bool
 |.no n v=>!decide (s.m n=v)
 |.bo n v m=>decide (s.m n=v)&&!decide (s.m m=1)
 |.pl n v=>decide (s.m n=v)
def hF(d:L4.D)(ds:List L4.D):Option L4.D:=match d with
 |.obj c _ _=>match o9 2 c with
  |some hh=>hh (d::ds)
  |none=>none
 |_=>none
theorem qk{α β:Type}{f g:α->β}{l:List α}(h:l.map f=l.map g){a:α}(ha:a∈l):f a=g a:=List.map_inj_left.mp h a ha
theorem Q6(W k:L4.D):(yu.map λs=>FP.map λt=>hF t.o [W,s.o,k])=yu.map λs=>FP.map λt=>some (.bl (t.h s)):=by kernel_rfl
theorem TF(W k:L4.D){s:Sd}(hs:s.ok)(ht:t.ok):hF t.o [W,s.o,k]=some (.bl (t.h s)):=qk (qk (Q6 W k) (FV hs)) (Tj ht)
theorem Q7(Q:List Ru)(c k:L4.D):(yu.map λs=>FQ.map λq=>uH [puO q,WO Q c,s.o,k])=yu.map λs=>FQ.map λq=>some (s.put q).o:=by kernel_rfl
theorem TH(Q:List Ru)(c k:L4.D){s:Sd}(hs:s.ok)(hq:dOk q):uH [puO q,WO Q c,s.o,k]=some (s.put q).o:=qk (qk (Q7 Q c k) (FV hs)) (QY hq)
def Ru.fit(s:Sd)(r:Ru):Bool:=r.ts.all (Tt.h s)
def anD(k:Str)(tx:Str)(s:Sd):L4.D:=.tup [.tup [.str k,.str tx],s.o]
def Ru.out(s:Sd)(r:Ru):L4.D:=if r.rf then anD "refused" r.tx s else anD "told" r.tx (r.ds.foldl Sd.put s)
def yw(s:Sd)(l:List Ru):Option L4.D:=(l.find? (Ru.fit s)).map (Ru.out s)
theorem M4{s:Sd}(hs:s.ok):∀{l:List (Str×Int)},(∀q∈l,dOk q)->(l.foldl Sd.put s).ok:=by
 intro l
 induction l generalizing s with
 |nil=>exact λ_=>hs
 |cons q l ih=>exact λh=>ih (FW hs (h q aH)) λx hx=>h x (aG _ hx)
variable{ρ1 ρ2:List Sl}
section
variable{Q:List Ru}{c k:L4.D}{s:Sd}
def fB:FS:=(sIf (pN (cT (oU (o9 2) "holds" (cV 4) (aCons (cV 0) (aCons (cV 1) (a1 (cV 2))))))) (oo (cC (.bl false))) oI)
theorem TJ(W:L4.D)(hs:s.ok)(ht:t.ok)(r:Sl):oU (o9 2) "holds" (cV 4) (aCons (cV 0) (aCons (cV 1) (a1 (cV 2)))) [.im W,.im s.o,.im k,r,.im t.o]=some (.bl (t.h s),[.im W,.im s.o,.im k,r,.im t.o]):=by
 have h:=TF W k hs ht;cases t with
 |no n v=>exact wb (ys:=[W,s.o,k]) rfl rfl rfl rfl h
 |bo n v m=>exact wb (ys:=[W,s.o,k]) rfl rfl rfl rfl h
 |pl n v=>exact wb (ys:=[W,s.o,k]) rfl rfl rfl rfl h
theorem CC(W:L4.D)(hs:s.ok)(r:Sl):∀(ts:List Tt) (x:Sl),(∀t∈ts,t.ok)->∃y,forL (gN 4) fB (ts.map Tt.o) [.im W,.im s.o,.im k,r,x]=if ts.all (Tt.h s)=true then some (.nx [.im W,.im s.o,.im k,r,y])else some (.rt (.bl false) [.im W,.im s.o,.im k,r,y])
 |[],x,_=>⟨x,rfl⟩
 |t::ts,x,h=>by
  have e:=TJ (k:=k) W hs (h t aH) r;rw[aW];unfold forL;rw[show gN 4 t.o [.im W,.im s.o,.im k,r,x]=some [.im W,.im s.o,.im k,r,.im t.o] from rfl];cases b:t.h s with
  |true=>rw[b]at e;obtain⟨y,ih⟩:=CC W hs r ts (.im t.o) λt ht=>h t (aG _ ht);refine⟨y,?_⟩;have e2:fB [.im W,.im s.o,.im k,r,.im t.o]=some (.nx [.im W,.im s.o,.im k,r,.im t.o]):=(pM (z4 (b:=true) (AA e))).trans rfl;simp only[e2,dc,b,Bool.true_and];exact ih
  |false=>rw[b]at e;refine⟨.im t.o,?_⟩;have e2:fB [.im W,.im s.o,.im k,r,.im t.o]=some (.rt (.bl false) [.im W,.im s.o,.im k,r,.im t.o]):=(qp (z4 (b:=false) (AA e))).trans rfl;simp only[e2,dc,b,lb];rfl
theorem M5(W:L4.D)(hs:s.ok)(hr:∀t∈r.ts,t.ok):Bh [W,s.o,k,r.o]=some (.bl (r.fit s)):=by
 obtain⟨y,e⟩:=CC (k:=k) W hs (.im r.o) r.ts .un hr;have e1:FM [.im W,.im s.o,.im k,.im r.o,.un]=oe (qd (iL (c1 (ou r9 "tests") (cV 3))) (gN 4) fB) (oo (cC (.bl true))) [.im W,.im s.o,.im k,.im r.o,.un]:=rfl;have e2:qd (iL (c1 (ou r9 "tests") (cV 3))) (gN 4) fB [.im W,.im s.o,.im k,.im r.o,.un]=_:=(vv (ds:=r.ts.map Tt.o) (ρ1:=[.im W,.im s.o,.im k,.im r.o,.un]) rfl).trans e;unfold Ru.fit;cases b:r.ts.all (Tt.h s)with
 |true=>rw[b,ah rfl]at e2;exact p6 rfl (e1.trans ((om e2).trans rfl))
 |false=>rw[b,ag aN]at e2;exact p6 rfl (e1.trans (qm e2))
def oB:FS:=(oe (oP 4 (oU uI "done" (cV 5) (aCons (cV 0) (aCons (cV 4) (a1 (cV 2))))))
 (sIf (cT (c2 tV (cV 4) (cC D.non))) (oo (oQ (aCons (oQ (aCons (cS "refused") (a1 (cC vH)))) (a1 (cV 1))))) oI))
theorem EM(a r:Sl):∀(l:List (Str×Int)) (s:Sd) (x:Sl),s.ok->(∀q∈l,dOk q)->∃y,forL (gN 5) oB (l.map puO) [.im (WO Q c),a,.im k,r,.im s.o,x]=some (.nx [.im (WO Q c),a,.im k,r,.im (l.foldl Sd.put s).o,y])
 |[],s,x,_,_=>⟨x,rfl⟩
 |q::l,s,x,hs,h=>by
  obtain⟨y,ih⟩:=EM a r l (s.put q) (.im (puO q)) (FW hs (h q aH)) λx hx=>h x (aG _ hx);refine⟨y,?_⟩;rw[aW];unfold forL;rw[show gN 5 (puO q) [.im (WO Q c),a,.im k,r,.im s.o,x]=some [.im (WO Q c),a,.im k,r,.im s.o,.im (puO q)] from rfl];have e:oB [.im (WO Q c),a,.im k,r,.im s.o,.im (puO q)]=some (.nx [.im (WO Q c),a,.im k,r,.im (s.put q).o,.im (puO q)]):=
   (om (ρ':=[.im (WO Q c),a,.im k,r,.im (s.put q).o,.im (puO q)]) ((pQ (ρ':=[.im (WO Q c),a,.im k,r,.im s.o,.im (puO q)]) (wb (hh:=uH) (ys:=[WO Q c,s.o,k]) rfl rfl rfl rfl (TH Q c k hs (h q aH)))).trans rfl)).trans rfl
  simp only[e];exact ih
theorem FX(hs:s.ok)(hr:∀q∈r.ds,dOk q):wo [WO Q c,s.o,k,r.o]=some (r.out s):=by
 let ρ:Sl->Sl->List Sl:=λa b=>[.im (WO Q c),.im s.o,.im k,.im r.o,a,b];have e1:yX (ρ .un .un)=oe (sIf (cT (c1 (ou qe "refuses") (cV 3))) (oo (oQ (aCons (oQ (aCons (cS "refused") (a1 (c1 (ou su "text") (cV 3))))) (a1 (cV 1))))) oI)
  (oe (oP 4 (cV 1)) (oe (qd (iL (c1 (ou r6 "deeds") (cV 3))) (gN 5) oB) (oo (oQ (aCons (oQ (aCons (cS "told") (a1 (c1 (ou su "text") (cV 3))))) (a1 (cV 4))))))) (ρ .un .un):=rfl
 have e2:cT (c1 (ou qe "refuses") (cV 3)) (ρ .un .un)=some (r.rf,ρ .un .un):=rfl;unfold Ru.out;cases b:r.rf with
 |true=>rw[b]at e2;exact p6 rfl (e1.trans (qm ((qp e2).trans rfl)))
 |false=>rw[b]at e2;obtain⟨y,e⟩:=EM (Q:=Q) (c:=c) (k:=k) (.im s.o) (.im r.o) r.ds s .un hs hr;exact p6 rfl (e1.trans ((om (ρ':=ρ .un .un) ((pM e2).trans rfl)).trans ((om (ρ':=ρ (.im s.o) .un) rfl).trans ((om ((vv (ds:=r.ds.map puO) (ρ1:=ρ (.im s.o) .un) rfl).trans e)).trans rfl))))
def aB:FS:=(sIf (cT (oa Bh (aCons (cV 0) (aCons (cV 1) (aCons (cV 2) (a1 (cV 5))))))) (oo (oa wo (aCons (cV 0) (aCons (cV 1) (aCons (cV 2) (a1 (cV 5))))))) oI)
theorem z7{g:FG}{f:FS}{r:List L4.D}(h1:g d ρ=some ρ1)(h2:f ρ1=some (.nx ρ2)):forL g f (d::r) ρ=forL g f r ρ2:=by
 conv=>lhs;unfold forL
 rw[h1];simp only[h2]
theorem DD{g:FG}{f:FS}{x:L4.D}{r:List L4.D}(h1:g d ρ=some ρ1)(h2:f ρ1=some (.rt x ρ2)):forL g f (d::r) ρ=some (.rt x ρ2):=by unfold forL;rw[h1];simp only[h2]
theorem yx(hs:s.ok)(a b:Sl)(L:List L4.D):∀(l:List Ru) (x:Sl),(∀r∈l,r.g)->∃y,forL (gN 5) aB (l.map Ru.o++L) [.im (WO Q c),.im s.o,.im k,a,b,x]=match yw s l with
   |some d=>some (.rt d [.im (WO Q c),.im s.o,.im k,a,b,y])
   |none=>forL (gN 5) aB L [.im (WO Q c),.im s.o,.im k,a,b,y]
 |[],x,_=>⟨x,rfl⟩
 |r::l,x,h=>by
  have g:=h r aH;let ρ:Sl->List Sl:=λy=>[.im (WO Q c),.im s.o,.im k,a,b,y];have e1:cT (oa Bh (aCons (cV 0) (aCons (cV 1) (aCons (cV 2) (a1 (cV 5)))))) (ρ (.im r.o))=some (r.fit s,ρ (.im r.o)):=AA (pb (ds:=[WO Q c,s.o,k,r.o]) rfl (M5 _ hs g.t));rw[aW,eG];unfold yw;rw[cq];cases hb:r.fit s with
  |true=>rw[hb]at e1;refine⟨.im r.o,?_⟩;have e2:aB (ρ (.im r.o))=some (.rt (r.out s) (ρ (.im r.o))):=(qp e1).trans (sk (pb (ds:=[WO Q c,s.o,k,r.o]) rfl (FX hs g.d)));exact DD (ρ1:=ρ (.im r.o)) rfl e2
  |false=>rw[hb]at e1;obtain⟨y,ih⟩:=yx hs a b L l (.im r.o) λr hr=>h r (aG _ hr);refine⟨y,?_⟩;have e2:aB (ρ (.im r.o))=some (.nx (ρ (.im r.o))):=(pM e1).trans rfl;exact(z7 (ρ1:=ρ (.im r.o)) rfl e2).trans ih
end
structure Cm where
 v:Str
 a:L4.D
 b:L4.D
 sn:List L4.D
 l:L4.D
def Cm.o(q:Cm):L4.D:=.tup [.str q.v,q.a,q.b]
def cmK(v:Str):Cm:=⟨v,.str "key", .non,[.str "key"],.non⟩
def cmT(v:Str):Cm:=⟨v,.str "key", .str "case", [.str "key", .str "case"],.str "case"⟩
def cmN(v:Str):Cm:=⟨v,.non,.non,[],.non⟩
def cmW(v:Str):Cm:=⟨v,.str "north", .non,[],.non⟩
def cmU:List Cm:=[cmK "push", cmT "tie", cmN "hum", cmW "swim"]
def cmC:List Cm:=[cmK "take", cmT "put", cmW "go", cmN "wait"]
def cm3:List Cm:=[cmN "turn", cmK "shut", cmK "drop"]
def cmA:List Cm:=cmU++(cmC++cm3)
section
variable{Q:List Ru}{c:L4.D}{s:Sd}{q:Cm}
def NM:FS:=(oP 3 (cL (oS 1 [0,1] (iT (oa qh (aCons (cV 0) (a1 (cV 2))))) (gN 0) (cT (oa yW (aCons (cV 1) (aCons (cV 2) (a1 (cV 0)))))) (cV 0))))
def TL:FS:=(qd (iT (oa qh (aCons (cV 0) (a1 (cV 2))))) (gN 4) (sIf (sM (cT (c2 qP (cV 4) (cC D.non))) (cT (c2 (dIn true) (cV 4) (cV 3)))) (oo (oQ (aCons (oQ (aCons (cS "unseen") (a1 (cV 4)))) (a1 (cV 1))))) oI))
theorem Q8(Q:List Ru)(c:L4.D):(cmA.map λq=>qB [WO Q c,q.o])=cmA.map λ_=>some .non:=by kernel_rfl
theorem Q9(Q:List Ru)(c:L4.D):(yu.map λs=>cmA.map λq=>NM [.im (WO Q c),.im s.o,.im q.o,.un])=yu.map λs=>cmA.map λq=>some (.nx [.im (WO Q c),.im s.o,.im q.o,.im (.lst q.sn)]):=by kernel_rfl
theorem Rb(Q:List Ru)(c x:L4.D):(cmA.map λq=>TL [.im (WO Q c),.im x,.im q.o,.im (.lst q.sn),.un,.un])=cmA.map λq=>some (.nx [.im (WO Q c),.im x,.im q.o,.im (.lst q.sn),.im q.l,.un]):=by kernel_rfl
abbrev ρA(Q:List Ru)(c:L4.D)(s:Sd)(q:Cm)(y:Sl):List Sl:=[.im (WO Q c),.im s.o,.im q.o,.im (.lst q.sn),.im q.l,y]
theorem TM(Q:List Ru)(ks:List Key)(dss:List (List L4.D))(v:Str):qg [WO Q (.dic ks (dss.map .lst)),.str v]=some (.lst (gl ks dss (.inr v))):=by
 let ρ:List Sl:=[.im (WO Q (.dic ks (dss.map .lst))),.im (.str v)];have e:AD (c1 (ou p8 "rules_by_verb") (cV 0)) (cV 1) (cL (oM oT)) ρ=some (.lst (gl ks dss (.inr v)),ρ):=by rw[<-GY];rfl
 refine Pl (ρ:=ρ) rfl (Mx ?_);show sO (AD (c1 (ou p8 "rules_by_verb") (cV 0)) (cV 1) (cL (oM oT))) ρ=_;unfold sO;rw[e];rfl
theorem yY(hs:s.ok)(hq:q∈cmA){ks:List Key}{dss:List (List L4.D)}{o:Out}(h:forL (gN 5) aB (gl ks dss (.inr q.v)) (ρA Q (.dic ks (dss.map .lst)) s q .un)=some o)(hd:(∃ρ,o=.rt d ρ)\/(∃y,o=.nx (ρA Q (.dic ks (dss.map .lst)) s q y))/\d=anD "refused" "Nothing comes of it." s):qx [WO Q (.dic ks (dss.map .lst)),s.o,q.o]=some d:=by
 let c:L4.D:=.dic ks (dss.map .lst);let W:=WO Q c;have an:uJ [W,s.o,q.o,.lst q.sn]=some d:=by
  have e0:xk [.im W,.im s.o,.im q.o,.im (.lst q.sn),.un,.un]=oe TL (oe (qd (iL (oU pC "rules_to_try" (cV 0) (a1 (c2 dIx (cV 2) (cC (.int 0)))))) (gN 5) aB) (oo (oQ (aCons (oQ (aCons (cS "refused") (a1 (cC rK)))) (a1 (cV 1)))))) [.im W,.im s.o,.im q.o,.im (.lst q.sn),.un,.un]:=rfl;have e1:=qk (Rb Q c s.o) hq;have e2:iL (oU pC "rules_to_try" (cV 0) (a1 (c2 dIx (cV 2) (cC (.int 0))))) (ρA Q c s q .un)=some (gl ks dss (.inr q.v),ρA Q c s q .un):=by have e3:oU pC "rules_to_try" (cV 0) (a1 (c2 dIx (cV 2) (cC (.int 0)))) (ρA Q c s q .un)=some (.lst (gl ks dss (.inr q.v)),ρA Q c s q .un):=wb (hh:=qg) (ys:=[.str q.v]) rfl rfl rfl rfl (TM Q ks dss q.v);unfold iL;rw[e3]
  have e4:=(vv (f:=aB) (g:=gN 5) e2).trans h;rcases hd with ⟨ρ,rfl⟩|⟨⟨y,rfl⟩,rfl⟩
  ·exact p6 rfl (e0.trans ((om e1).trans (qm e4)))
  ·exact p6 rfl (e0.trans ((om e1).trans ((om e4).trans rfl)))
 have e0:FN [.im W,.im s.o,.im q.o,.un]=oe (o4 (oa qB (aCons (cV 0) (a1 (cV 2))))) (oe NM (oo (oa uJ (aCons (cV 0) (aCons (cV 1) (aCons (cV 2) (a1 (cV 3)))))))) [.im W,.im s.o,.im q.o,.un]:=rfl;exact p6 (ρ:=[.im W,.im s.o,.im q.o,.im (.lst q.sn)]) rfl (e0.trans ((om (ρ':=[.im W,.im s.o,.im q.o,.un]) (zZ (pb (ds:=[W,q.o]) rfl (qk (Q8 Q c) hq)))).trans ((om (qk (qk (Q9 Q c) (FV hs)) hq)).trans (sk (pb (ds:=[W,s.o,q.o,.lst q.sn]) rfl an)))))
end
def rtD:Option Out->Option L4.D
 |some (.rt d _)=>some d
 |_=>none
theorem Re{x:Option Out}(h:rtD x=some d):∃ρ,x=some (.rt d ρ):=by
 unfold rtD at h;split at h
 ·rename_i d' ρ;cases h;exact⟨ρ,rfl⟩
 ·cases h
def ixT(d:L4.D)(n:Nat):L4.D:=match d with
 |.tup ds=>(ds[n]?).getD .non
 |_=>.non
def stT:L4.D->Str
 |.str s=>s
 |_=>""
def itT:L4.D->Int
 |.int i=>i
 |_=>0
def dec(d:L4.D):Sd:=⟨stT (ixT (ixT d 1) 1),itT (ixT (ixT d 4) 1),itT (ixT (ixT d 5) 1),itT (ixT (ixT d 6) 1)⟩
def okB(s:Sd):Bool:=decide (s.p∈(["hall", "me"]:List Str))&&decide (s.g∈vls)&&decide (s.l∈vls)&&decide (s.t∈vls)
theorem Rf{s:Sd}(h:okB s=true):s.ok:=by unfold okB at h;simp only[aE,aX]at h;exact⟨h.1.1.1,h.1.1.2,h.1.2,h.2⟩
def swB(t:Str):Bool:=match dSw (.str t) (.str "Rule")with
 |some (.bl b)=>!b
 |_=>false
theorem Rg{t:Str}(h:swB t=true):dSw (.str t) (.str "Rule")=some (.bl false):=by
 unfold swB at h;split at h
 ·rename_i b e;rw[e];cases b
  ·rfl
  ·cases h
 ·cases h
def shV(v:Str):List L4.D:=SH.filter λd=>decide (kv d=.inr v)
def cmS:List Cm:=cmC++[cmK "shut", cmK "drop"]
def shF(Q:List Ru)(c:L4.D)(s:Sd)(q:Cm)(y:Sl):L4.D:=(rtD (forL (gN 5) aB (shV q.v) (ρA Q c s q y))).getD .non
theorem Rh(Q:List Ru)(c:L4.D)(y:Sl):(yu.map λs=>cmS.map λq=>rtD (forL (gN 5) aB (shV q.v) (ρA Q c s q y)))=yu.map λs=>cmS.map λq=>some (anD (stT (ixT (ixT (shF Q c s q y) 0) 0)) (stT (ixT (ixT (shF Q c s q y) 0) 1)) (dec (ixT (shF Q c s q y) 1))):=by kernel_rfl
theorem Rj(Q:List Ru)(c:L4.D)(y:Sl):(yu.all λs=>cmS.all λq=>okB (dec (ixT (shF Q c s q y) 1))&&swB (stT (ixT (ixT (shF Q c s q y) 0) 1)))=true:=by kernel_rfl
theorem TN(Q:List Ru)(c:L4.D)(y:Sl){s:Sd}(hs:s.ok){q:Cm}(hq:q∈cmS):∃k t s' ρ,s'.ok/\swB t=true/\forL (gN 5) aB (shV q.v) (ρA Q c s q y)=some (.rt (anD k t s') ρ):=by obtain⟨ρ,e⟩:=Re (qk (qk (Rh Q c y) (FV hs)) hq);have h:=aS.mp (aS.mp (Rj Q c y) s (FV hs)) q hq;rw[aE]at h;exact⟨_,_,_,ρ,Rf h.1,h.2,e⟩
section
variable{Q:List Ru}{s:Sd}{q:Cm}{ks:List Key}{dss:List (List L4.D)}{l:List Ru}
theorem KY(h:∀j,gl ks dss j=(Q.map Ru.o++SH).filter λd=>decide (kv d=j))(v:Str):gl ks dss (.inr v)=(Q.filter (own v)).map Ru.o++shV v:=by
 rw[h,fz,List.filter_map];have e:((λd=>decide (kv d=.inr v))∘Ru.o:Ru->Bool)=own v:=by
  funext r
  have k:kv r.o=.inr r.vb:=rfl;show decide (kv r.o=.inr v)=decide (r.vb=v);rw[k,cp,aX,aX];exact⟨λz=>by injection z,λz=>by rw[z]⟩
 rw[e];rfl
theorem EN(hs:s.ok)(hl:∀r∈l,r.g)(h:yw s l=some d):∃k t s',s'.ok/\d=anD k t s':=by
 unfold yw at h;rw[hE]at h;obtain⟨r,h1,rfl⟩:=h;have hr:=hl r (jD h1);unfold Ru.out;split
 ·exact⟨_,_,_,hs,rfl⟩
 ·exact⟨_,_,_,M4 hs hr.d,rfl⟩
theorem EO(hs:s.ok)(hq:q∈cmA)(hg:gl ks dss (.inr q.v)=l.map Ru.o++shV q.v)(hl:∀r∈l,r.g)(h:yw s l=some d):qx [WO Q (.dic ks (dss.map .lst)),s.o,q.o]=some d:=by obtain⟨y,e⟩:=yx (Q:=Q) (c:=.dic ks (dss.map .lst)) (k:=q.o) hs (.im (.lst q.sn)) (.im q.l) (shV q.v) l .un hl;rw[h,<- hg]at e;exact yY hs hq e (.inl ⟨_,rfl⟩)
def cmV:List Cm:=cmU++[cmN "turn"]
theorem v_all:(cmV.map λq=>shV q.v)=cmV.map λ_=>[]:=by kernel_rfl
theorem Rk{q:Cm}(h:q∈cmV):q∈cmA:=by simp only[cmV,cmU,eG,dG,aF,ee,or_false]at h;rcases h with rfl|rfl|rfl|rfl|rfl<;>simp[cmA,cmU,cm3]
theorem Rl{q:Cm}(h:q∈cmS):q∈cmA:=by simp only[cmS,cmC,eG,dG,aF,ee,or_false]at h;rcases h with rfl|rfl|rfl|rfl|rfl|rfl<;>simp[cmA,cmC,cm3]
theorem KZ(hs:s.ok)(hq:q∈cmV)(hg:gl ks dss (.inr q.v)=l.map Ru.o++shV q.v)(hl:∀r∈l,r.g)(h:yw s l=none):qx [WO Q (.dic ks (dss.map .lst)),s.o,q.o]=some (anD "refused" "Nothing comes of it." s):=by obtain⟨y,e⟩:=yx (Q:=Q) (c:=.dic ks (dss.map .lst)) (k:=q.o) hs (.im (.lst q.sn)) (.im q.l) (shV q.v) l .un hl;rw[h,<- hg,qk v_all hq]at e;exact yY hs (Rk hq) e (.inr ⟨⟨y,rfl⟩,rfl⟩)
theorem K0(hs:s.ok)(hq:q∈cmS)(hg:gl ks dss (.inr q.v)=l.map Ru.o++shV q.v)(hl:∀r∈l,r.g)(h:yw s l=none):∃k t s',s'.ok/\swB t=true/\qx [WO Q (.dic ks (dss.map .lst)),s.o,q.o]=some (anD k t s'):=by obtain⟨y,e⟩:=yx (Q:=Q) (c:=.dic ks (dss.map .lst)) (k:=q.o) hs (.im (.lst q.sn)) (.im q.l) (shV q.v) l .un hl;obtain⟨k,t,s',ρ,a,b,e2⟩:=TN Q (.dic ks (dss.map .lst)) y hs hq;rw[h,<- hg]at e;exact⟨k,t,s',a,b,yY hs (Rl hq) (e.trans e2) (.inl ⟨_,rfl⟩)⟩
theorem step_any(hs:s.ok)(hq:q∈cmV\/q∈cmS)(hg:gl ks dss (.inr q.v)=l.map Ru.o++shV q.v)(hl:∀r∈l,r.g):∃k t s',s'.ok/\qx [WO Q (.dic ks (dss.map .lst)),s.o,q.o]=some (anD k t s'):=by
 cases h:yw s l with
 |some d=>obtain⟨k,t,s',a,rfl⟩:=EN hs hl h;exact⟨k,t,s',a,EO hs (hq.elim Rk Rl) hg hl h⟩
 |none=>
  rcases hq with hq|hq
  ·exact⟨_,_,s,hs,KZ hs hq hg hl h⟩
  ·obtain⟨k,t,s',a,_,e⟩:=K0 (Q:=Q) hs hq hg hl h;exact⟨k,t,s',a,e⟩
end
abbrev Fc:Type:=Str×Int×Bool
def fD(f:Fc):L4.D:=.tup [.str f.1,.int f.2.1,.bl f.2.2]
def Tt.fc:Tt->List Fc
 |.no n v=>[(n,v,false)]
 |.bo n v m=>[(n,v,true),(m,1,false)]
 |.pl n v=>[(n,v,true)]
theorem TQ(t:Tt):t.fs=t.fc.map fD:=by cases t<;>rfl
def fno(s:Sd)(f:Fc):Bool:=!(decide (s.m f.1=f.2.1)==f.2.2)
theorem Ue(s:Sd)(t:Tt):t.h s=t.fc.all λf=>!fno s f:=by cases t<;>simp[Tt.h,Tt.fc,fno]
def K1:List Fc:=mks.flatMap λn=>vls.flatMap λv=>[(n,v,true),(n,v,false)]
theorem Ug(ht:t.ok){f:Fc}(h:f∈t.fc):f∈K1:=by
 have:∀{n:Str} {v:Int} {b:Bool},n∈mks->v∈vls->(n,v,b)∈K1:=λ{n v b} hn hv=>eI.mpr ⟨n,hn,eI.mpr ⟨v,hv,by cases b<;>simp⟩⟩;cases t with
 |no n v=>rw[aU.mp h];exact this ht.1 ht.2
 |pl n v=>rw[aU.mp h];exact this ht.1 ht.2
 |bo n v m=>
  rcases aF.mp h with rfl|h
  ·exact this ht.1 ht.2.1
  ·rw[aU.mp h];exact this ht.2.2 (by decide)
def ftB:FT:=cT (c2 (dEq true) (c2 (dEq false) (oa se (aCons (cV 3) (a1 (cV 0)))) (cV 1)) (cV 2))
theorem Rm:(yu.map λs=>K1.map λf=>ftB [.im (.str f.1),.im (.int f.2.1),.im (.bl f.2.2),.im s.o])=yu.map λs=>K1.map λf=>some (fno s f,[.im (.str f.1),.im (.int f.2.1),.im (.bl f.2.2),.im s.o]):=by kernel_rfl
def cB:FA:=oS 3 [0] (iL (cV 5)) (gT (oR (gN 0) (oR (gN 1) (oR (gN 2) qw))) 3) ftB (cC (.int 1))
theorem Ro:((aL 7).map λn=>dEq false (.lst (eM n (.int 1))) (.lst []))=(aL 7).map λn=>some (.bl (decide (n=0))):=by kernel_rfl
theorem Rp(ts:List Tt):(ts.flatMap Tt.fc).length<=2 * ts.length:=by
 induction ts with
 |nil=>simp
 |cons t ts ih=>
  rw[kE,aM,aI];have:t.fc.length<=2:=by cases t<;>simp[Tt.fc]
  omega
theorem TR{s:Sd}(hs:s.ok)(hr:r.g)(a b c d e g h i:Sl):cT (c2 (dEq false) (cL cB) (cL (oM oT))) [.im s.o,a,b,c,d,.im (.lst (r.ts.flatMap Tt.fs)),g,h,i]=some (r.fit s,[.im s.o,a,b,c,d,.im (.lst (r.ts.flatMap Tt.fs)),g,h,i]):=by
 let ρ:List Sl:=[.im s.o,a,b,c,d,.im (.lst (r.ts.flatMap Tt.fs)),g,h,i];let F:=r.ts.flatMap Tt.fc;have eF:r.ts.flatMap Tt.fs=F.map fD:=by show r.ts.flatMap Tt.fs=(r.ts.flatMap Tt.fc).map fD;rw[List.map_flatMap];exact bf (λf=>r.ts.flatMap f) (funext TQ)
 have hF:∀f∈F,f∈K1:=λf hf=>by obtain⟨t,h1,h2⟩:=eI.mp hf;exact Ug (hr.t t h1) h2
 have lF:F.length<=6:=by have:=Rp r.ts;have:=hr.l;show (r.ts.flatMap Tt.fc).length<=6;omega
 have e1:cB ρ=some ((F.filter (fno s)).map λ_=>.int 1,ρ):=by refine(sQ (ds:=F.map fD) (ρ1:=ρ) (by rw[<-eF];rfl) (by rw[aw];omega)).trans (AJ fD (fno s) (λ_=>.int 1) F λf hf=>?_);exact⟨[.im (.str f.1),.im (.int f.2.1),.im (.bl f.2.2),.im s.o],[.im (.str f.1),.im (.int f.2.1),.im (.bl f.2.2),.im s.o],rfl,qk (qk Rm (FV hs)) (hF f hf),λ_=>⟨[.im (.str f.1),.im (.int f.2.1),.im (.bl f.2.2),.im s.o],rfl,rfl⟩,λ_=>rfl⟩
 have e2:dEq false (.lst ((F.filter (fno s)).map λ_=>.int 1)) (.lst [])=some (.bl (r.fit s)):=by
  rw[List.map_const'];have le:(F.filter (fno s)).length<=6:=bF (jU _ _) lF;rw[qk Ro (bh.mpr (by omega))];have:decide ((F.filter (fno s)).length=0)=r.fit s:=by
   unfold Ru.fit;rw[show r.ts.all (Tt.h s)=F.all λf=>!fno s f from by
    show _=(r.ts.flatMap Tt.fc).all _;rw[List.all_flatMap];exact bf r.ts.all (funext (Ue s))]
   rw[cp,aX,fY,List.filter_eq_nil_iff,aS];simp
  rw[this]
 exact AA (oW (ρ1:=ρ) (yH e1) rfl e2)
def dsB:FS:=(oP 0 (Ax (cL (oS 2 [8,7] (iT (cV 0)) (gT (oR (gN 0) (oR (gN 1) qw)) 2) pH (oQ (aCons (cV 0) (a1 (c2 dIx (cL (oM (aCons (cV 1) (a1 (cV 2))))) (c1 JI (c2 (dEq false) (cV 0) (oQ (aCons (cS "mark") (a1 (cV 3))))))))))))))
theorem Rq(a b c d e f:Sl):(yu.map λs=>FQ.map λq=>dsB [.im s.o,a,b,c,d,e,f,.im (.str q.1),.im (.int q.2)])=yu.map λs=>FQ.map λq=>some (.nx [.im (s.put q).o,a,b,c,d,e,f,.im (.str q.1),.im (.int q.2)]):=by kernel_rfl
theorem GZ(a b c d e f:Sl):∀(l:List (Str×Int)) (s:Sd) (x y:Sl),s.ok->(∀q∈l,dOk q)->∃x' y',forL (gT (oR (gN 7) (oR (gN 8) qw)) 2) dsB (l.map prD) [.im s.o,a,b,c,d,e,f,x,y]=some (.nx [.im (l.foldl Sd.put s).o,a,b,c,d,e,f,x',y'])
 |[],s,x,y,_,_=>⟨x,y,rfl⟩
 |q::l,s,x,y,hs,h=>by obtain⟨x',y',ih⟩:=GZ a b c d e f l (s.put q) (.im (.str q.1)) (.im (.int q.2)) (FW hs (h q aH)) λx hx=>h x (aG _ hx);refine⟨x',y',?_⟩;rw[aW];exact(z7 (ρ1:=[.im s.o,a,b,c,d,e,f,.im (.str q.1),.im (.int q.2)]) rfl (qk (qk (Rq a b c d e f) (FV hs)) (QY (h q aH)))).trans ih
def duB:FS:=(sIf (cT (c2 (dEq false) (cL cB) (cL (oM oT)))) (oe (sIf (cT (cV 4)) (oo (oQ (aCons (oQ (aCons (cS "refused") (a1 (cV 3)))) (a1 (cV 0))))) oI)
 (oe (qd (iL (cV 6)) (gT (oR (gN 7) (oR (gN 8) qw)) 2) dsB)
 (oo (oQ (aCons (oQ (aCons (cS "told") (a1 (cV 3)))) (a1 (cV 0))))))) oI)
abbrev duG:FG:=gT (oR (gN 3) (oR (gN 4) (oR (gN 5) (oR (gN 6) qw)))) 4
theorem ER{s:Sd}(hs:s.ok)(a b:Sl):∀(l:List Ru) (x3 x4 x5 x6 x7 x8:Sl),(∀r∈l,r.g)->(∀d,yw s l=some d->∃ρ,forL duG duB (l.map Ru.du) [.im s.o,a,b,x3,x4,x5,x6,x7,x8]=some (.rt d ρ))/\(yw s l=none->∃y3 y4 y5 y6 y7 y8,forL duG duB (l.map Ru.du) [.im s.o,a,b,x3,x4,x5,x6,x7,x8]=some (.nx [.im s.o,a,b,y3,y4,y5,y6,y7,y8]))
 |[],x3,x4,x5,x6,x7,x8,_=>⟨λd h=>(by cases h),λ_=>⟨x3,x4,x5,x6,x7,x8,rfl⟩⟩
 |r::l,x3,x4,x5,x6,x7,x8,h=>by
  have g:=h r aH;let ρ:List Sl:=[.im s.o,a,b,.im (.str r.tx),.im (.bl r.rf),.im (.lst (r.ts.flatMap Tt.fs)),.im (.lst (r.ds.map prD)),x7,x8];have e1:cT (c2 (dEq false) (cL cB) (cL (oM oT))) ρ=some (r.fit s,ρ):=TR hs g a b (.im (.str r.tx)) (.im (.bl r.rf)) .un (.im (.lst (r.ds.map prD))) x7 x8;have e0:duG r.du [.im s.o,a,b,x3,x4,x5,x6,x7,x8]=some ρ:=rfl;rw[aW];unfold yw;rw[cq];cases hb:r.fit s with
  |false=>rw[hb]at e1;have e2:duB ρ=some (.nx ρ):=(pM e1).trans rfl;rw[z7 e0 e2];exact ER hs a b l _ _ _ _ _ _ λr hr=>h r (aG _ hr)
  |true=>
   rw[hb]at e1;refine⟨λd hd=>?_,λz=>by cases z⟩;cases hd;have e3:cT (cV 4) ρ=some (r.rf,ρ):=rfl;unfold Ru.out;cases hf:r.rf with
   |true=>rw[hf]at e3;exact⟨ρ,DD e0 ((qp e1).trans (qm ((qp e3).trans rfl)))⟩
   |false=>rw[hf]at e3;obtain⟨x',y',e4⟩:=GZ a b (.im (.str r.tx)) (.im (.bl r.rf)) (.im (.lst (r.ts.flatMap Tt.fs))) (.im (.lst (r.ds.map prD))) r.ds s x7 x8 hs g.d;exact⟨_,DD e0 ((qp e1).trans ((om (ρ':=ρ) ((pM e3).trans rfl)).trans ((om ((vv (ds:=r.ds.map prD) (ρ1:=ρ) rfl).trans e4)).trans rfl)))⟩
theorem Rr{s:Sd}(hs:s.ok)(l:List Ru)(hl:∀r∈l,r.g)(x:L4.D):(∀d,yw s l=some d->qF [s.o,.lst (l.map Ru.du),x]=some d)/\(yw s l=none->(x=.non->qF [s.o,.lst (l.map Ru.du),x]=some .non)/\∀t,x=.str t->qF [s.o,.lst (l.map Ru.du),x]=some (anD "refused" t s)):=by
 obtain⟨h1,h2⟩:=ER hs (.im (.lst (l.map Ru.du))) (.im x) l .un .un .un .un .un .un hl;let ρ:List Sl:=[.im s.o,.im (.lst (l.map Ru.du)),.im x,.un,.un,.un,.un,.un,.un];have e0:xl ρ=oe (qd (iL (cV 1)) duG duB) (oe (sIf (cT (c2 tV (cV 2) (cC D.non))) (oo (cC D.non)) oI) (oo (oQ (aCons (oQ (aCons (cS "refused") (a1 (cV 2)))) (a1 (cV 0)))))) ρ:=rfl;have e1:qd (iL (cV 1)) duG duB ρ=_:=vv (ds:=l.map Ru.du) (ρ1:=ρ) rfl;refine⟨λd h=>?_,λh=>?_⟩
 ·obtain⟨ρ',e⟩:=h1 d h;exact p6 rfl (e0.trans (qm (e1.trans e)))
 ·obtain⟨y3,y4,y5,y6,y7,y8,e⟩:=h2 h;refine⟨λz=>?_,λt z=>?_⟩
  ·subst z;exact p6 rfl (e0.trans ((om (e1.trans e)).trans rfl))
  ·subst z;exact p6 rfl (e0.trans ((om (e1.trans e)).trans rfl))
theorem G0(ns:List Int)(k:Nat):∃c,qj [.fzl (ns.map D.int),.int k]=some (.int c):=by
 let ρ:List Sl:=[.im (.fzl (ns.map D.int)),.im (.int k)];have ev:cT (c2 JC (cV 1) (c1 uq (cV 0))) ρ=some (decide ((k:Int)<((ns.map D.int).length:Nat)),ρ):=rfl;rw[aw]at ev;by_cases h:k<ns.length
 ·rw[bj (by omega)]at ev;refine⟨ns[k],p6 (ρ:=ρ) rfl (qm ((qp ev).trans (sk (oW (x:=.fzl (ns.map D.int)) (y:=.int k) rfl rfl ?_))))⟩;exact Lr (by rw[aV,aJ h];rfl)
 ·rw[aY (by omega)]at ev;exact⟨0,p6 (ρ:=ρ) rfl ((om ((pM ev).trans rfl)).trans rfl)⟩
theorem eq_self{x:L3.Dq}(e0:Fe true d d=none)(e1:toD d=some x)(h1:Jg x x=true)(h2:dpt x<=20):dEq true d d=some (.bl false):=by unfold dEq;rw[e0];simp only;unfold Mn;rw[e1];simp only;rw[h1,DT,bj h2];rfl
def an3(k t p:Str)(g l m:Int):L3.Dq:=(toD (anD k t ⟨p,g,l,m⟩)).getD .non
theorem G1(k t:Str)(s:Sd):dEq true (anD k t s) (anD k t s)=some (.bl false):=by
 obtain⟨p,g,l,m⟩:=s;have e:toD (anD k t ⟨p,g,l,m⟩)=some (an3 k t p g l m):=by kernel_rfl
 exact eq_self (x:=an3 k t p g l m) (by kernel_rfl) e (by kernel_rfl) (bY (by kernel_rfl))
variable{c':FT}
theorem CD{c:FT}(h:c ρ=some (true,ρ1)):sM c c' ρ=c' ρ1:=by unfold sM;rw[h]
theorem CG{c:FT}(h:c ρ=some (false,ρ1)):sM c c' ρ=some (false,ρ1):=by unfold sM;rw[h]
def lT:FS:=(oe (oP 12 (cL (oM (aCons (oQ (aCons (cS "turn") (aCons (cC D.non) (a1 (cC D.non))))) (aCons (oQ (aCons (cS "shut") (aCons (cS "key") (a1 (cC D.non))))) (a1 (oQ (aCons (cS "drop") (aCons (cS "key") (a1 (cC D.non)))))))))))
 (oP 8 (c2 dIx (oa qx (aCons (cV 6) (aCons (c2 dIx (cV 10) (cC (.int 1))) (a1 (c2 dIx (cV 12) (c2 rp (c2 rQ (oa qj (aCons (cV 0) (a1 (cV 9)))) (cV 9)) (cC (.int 3)))))))) (cC (.int 1)))))
def lI1:FS:=(sIf (sM (cT (c2 qP (cV 11) (cC D.non))) (rH (cT (c2 (dEq true) (cV 10) (cV 11))) (cT (c2 (dEq true) (oa qx (aCons (cV 6) (aCons (cV 8) (a1 (cV 3))))) (cV 11))))) (oo (cC (.bl false))) oI)
def lI2:FS:=(sIf (sM (cT (c2 tV (cV 11) (cC D.non))) (cT (c2 dSw (c2 dIx (c2 dIx (cV 10) (cC (.int 0))) (cC (.int 1))) (cS "Rule")))) (oo (cC (.bl false))) oI)
def lB:FS:=(oe (oP 10 (oa qx (aCons (cV 6) (aCons (cV 8) (a1 (cV 3))))))
 (oe (oP 11 (oa qF (aCons (cV 8) (aCons (cV 5) (a1 (cV 7)))))) (oe lI1 (oe lI2 lT))))
abbrev lR(sc:L4.D)(es:List L4.D)(cs qo rs du W x:L4.D)(s8:L4.D)(a b c d:Sl):List Sl:=[.im sc,.ls es,.im cs,.im qo,.im rs,.im du,.im W,.im x,.im s8,a,b,c,d]
variable{i:Int}
theorem three(h0:0<=i)(h1:i<3):∃q:Cm,(q∈cmV\/q∈cmS)/\dIx (.lst (cm3.map Cm.o)) (.int i)=some q.o:=by
 rcases c3 h0 h1 with rfl|rfl|rfl
 ·exact⟨cmN "turn", .inl (by simp[cmV]),rfl⟩
 ·exact⟨cmK "shut", .inr (by simp[cmS]),rfl⟩
 ·exact⟨cmK "drop", .inr (by simp[cmS]),rfl⟩
section
variable{ns:List Int}{es:List L4.D}{cs rs x:L4.D}{Q:List Ru}{ks:List Key}{dss:List (List L4.D)}{q:Cm}{l:List Ru}
theorem TU{qo du:L4.D}(hQ:∀r∈Q,r.g)(hj:∀j,gl ks dss j=(Q.map Ru.o++SH).filter λd=>decide (kv d=j)){k t:Str}{s1:Sd}(h1:s1.ok)(s8:L4.D)(n:Nat)(c d:Sl):∃(s2:Sd) (d':Sl),s2.ok/\lT (lR (.fzl (ns.map D.int)) es cs qo rs du (WO Q (.dic ks (dss.map .lst))) x s8 (.im (.int n)) (.im (anD k t s1)) c d)=some (.nx (lR (.fzl (ns.map D.int)) es cs qo rs du (WO Q (.dic ks (dss.map .lst))) x s2.o (.im (.int n)) (.im (anD k t s1)) c d')):=by obtain⟨v,e1⟩:=G0 ns n;obtain⟨q3,hq,e2⟩:=three (i:=(v+n) % 3) (fJ _ (by decide)) (fw _ (by decide));obtain⟨k2,t2,s2,h2,e3⟩:=step_any (Q:=Q) (q:=q3) h1 hq (KY hj q3.v) λr hr=>hQ r (fG.mp hr).1;let ρ:Sl->List Sl:=λz=>lR (.fzl (ns.map D.int)) es cs qo rs du (WO Q (.dic ks (dss.map .lst))) x s8 (.im (.int n)) (.im (anD k t s1)) c z;refine⟨s2,.im (.lst (cm3.map Cm.o)),h2,?_⟩;unfold lT;refine(om (ρ':=ρ (.im (.lst (cm3.map Cm.o)))) rfl).trans ((pQ (ρ':=ρ (.im (.lst (cm3.map Cm.o)))) (oW (x:=anD k2 t2 s2) (pb (oJ rfl (oJ (d:=s1.o) rfl (oJ (oW (x:=.lst (cm3.map Cm.o)) rfl (oW (x:=.int (v+n)) (y:=.int 3) (oW (x:=.int v) (y:=.int n) (pb (ds:=[.fzl (ns.map D.int),.int n]) rfl e1) rfl rfl) rfl (v8 (by decide))) e2) rfl))) e3) rfl rfl)).trans rfl)
theorem TV(hQ:∀r∈Q,r.g)(hj:∀j,gl ks dss j=(Q.map Ru.o++SH).filter λd=>decide (kv d=j))(hl:∀r∈l,r.g)(hg:gl ks dss (.inr q.v)=l.map Ru.o++shV q.v)(hx:(q∈cmV/\x=.str "Nothing comes of it.")\/(q∈cmS/\x=.non)){s:Sd}(hs:s.ok)(n:Nat)(b c d:Sl):
  ∃(s2:Sd) (b' c' d':Sl),s2.ok/\lB (lR (.fzl (ns.map D.int)) es cs q.o rs (.lst (l.map Ru.du)) (WO Q (.dic ks (dss.map .lst))) x s.o (.im (.int n)) b c d)=some (.nx (lR (.fzl (ns.map D.int)) es cs q.o rs (.lst (l.map Ru.du)) (WO Q (.dic ks (dss.map .lst))) x s2.o (.im (.int n)) b' c' d')):=by
 let W:=WO Q (.dic ks (dss.map .lst));let ρ:Sl->Sl->Sl->List Sl:=λb c d=>lR (.fzl (ns.map D.int)) es cs q.o rs (.lst (l.map Ru.du)) W x s.o (.im (.int n)) b c d;obtain⟨d1,d2⟩:=Rr hs l hl x;have tail:∀{k t:Str} {s1:Sd} {du:L4.D},s1.ok->qx [W,s.o,q.o]=some (anD k t s1)->qF [s.o,.lst (l.map Ru.du),x]=some du->lI1 (ρ (.im (anD k t s1)) (.im du) d)=some (.nx (ρ (.im (anD k t s1)) (.im du) d))->lI2 (ρ (.im (anD k t s1)) (.im du) d)=some (.nx (ρ (.im (anD k t s1)) (.im du) d))->∃(s2:Sd) (b' c' d':Sl),s2.ok/\lB (ρ b c d)=some (.nx (lR (.fzl (ns.map D.int)) es cs q.o rs (.lst (l.map Ru.du)) W x s2.o (.im (.int n)) b' c' d')):=by intro k t s1 du h1 e1 e2 e3 e4;obtain⟨s2,d',h2,e5⟩:=TU (ns:=ns) (es:=es) (cs:=cs) (rs:=rs) (x:=x) (qo:=q.o) (du:=.lst (l.map Ru.du)) (k:=k) (t:=t) hQ hj h1 s.o n (.im du) d;refine⟨s2,.im (anD k t s1),.im du,d',h2,?_⟩;unfold lB;exact(om (ρ':=ρ (.im (anD k t s1)) c d) ((pQ (pb (ds:=[W,s.o,q.o]) rfl e1)).trans rfl)).trans ((om (ρ':=ρ (.im (anD k t s1)) (.im du) d) ((pQ (pb (ds:=[s.o,.lst (l.map Ru.du),x]) rfl e2)).trans rfl)).trans ((om e3).trans ((om e4).trans e5)))
 have same:∀{k t:Str} {s1:Sd},qx [W,s.o,q.o]=some (anD k t s1)->lI1 (ρ (.im (anD k t s1)) (.im (anD k t s1)) d)=some (.nx (ρ (.im (anD k t s1)) (.im (anD k t s1)) d))/\lI2 (ρ (.im (anD k t s1)) (.im (anD k t s1)) d)=some (.nx (ρ (.im (anD k t s1)) (.im (anD k t s1)) d)):=by
  intro k t s1 e1;let r:=ρ (.im (anD k t s1)) (.im (anD k t s1)) d;refine⟨?_,?_⟩
  ·exact(pM (ρ':=r) ((CD (ρ1:=r) rfl).trans (Fj (ρ1:=r) (AA (oW (x:=anD k t s1) (y:=anD k t s1) rfl rfl (G1 k t s1))) (AA (oW (x:=anD k t s1) (y:=anD k t s1) (pb (ds:=[W,s.o,q.o]) rfl e1) rfl (G1 k t s1)))))).trans rfl
  ·exact(pM (ρ':=r) (CG rfl)).trans rfl
 cases h:yw s l with
 |some dd=>obtain⟨k,t,s1,h1,rfl⟩:=EN hs hl h;have e1:qx [W,s.o,q.o]=some (anD k t s1):=EO hs (hx.elim (λz=>Rk z.1) λz=>Rl z.1) hg hl h;exact tail h1 e1 (d1 _ h) (same e1).1 (same e1).2
 |none=>
  rcases hx with ⟨hq,hx⟩|⟨hq,hx⟩
  ·have e1:qx [W,s.o,q.o]=_:=KZ hs hq hg hl h;exact tail hs e1 ((d2 h).2 _ hx) (same e1).1 (same e1).2
  ·obtain⟨k,t,s1,h1,hw,e1⟩:=K0 (Q:=Q) hs hq hg hl h;let r:=ρ (.im (anD k t s1)) (.im .non) d;refine tail h1 e1 ((d2 h).1 hx) ((pM (ρ':=r) (CG rfl)).trans rfl) ?_;exact(pM (ρ':=r) ((CD (ρ1:=r) rfl).trans (AA (oW (x:=.str t) (y:=.str "Rule") rfl rfl (Rg hw))))).trans rfl
end
theorem Rt{f:FE}{gg:FG}(h1:f ρ=some (d,ρ1))(h2:gg d ρ1=some ρ2):HD f gg ρ=some (.nx ρ2):=by unfold HD;rw[h1];simp only[h2]
def cm8:List Cm:=cmU++cmC
def Iv(q:Cm):L4.D:=if q.v∈(["push", "tie", "hum", "swim"]:List Str)then .str "Nothing comes of it." else .non
def lX:FS:=(sIf (cT (c2 dInT (cV 3) (cL (cSl (cV 2) none (some 4))))) (oP 7 (cS "Nothing comes of it.")) oI)
theorem Rv(sc:L4.D)(es:List L4.D)(rs du W:L4.D)(a b c d e:Sl):(cm8.map λq=>lX [.im sc,.ls es,.im (.lst (cm8.map Cm.o)),.im q.o,.im rs,.im du,.im W,.im .non,a,b,c,d,e])=cm8.map λq=>some (.nx [.im sc,.ls es,.im (.lst (cm8.map Cm.o)),.im q.o,.im rs,.im du,.im W,.im (Iv q),a,b,c,d,e]):=by kernel_rfl
theorem Uh(h0:0<=i)(h1:i<8):∃q∈cm8,dIx (.lst (cm8.map Cm.o)) (.int i)=some q.o/\q.v∈cvs/\((q∈cmV/\Iv q=.str "Nothing comes of it.")\/(q∈cmS/\Iv q=.non)):=by
 have c:i=0\/i=1\/i=2\/i=3\/i=4\/i=5\/i=6\/i=7:=by omega
 rcases c with rfl|rfl|rfl|rfl|rfl|rfl|rfl|rfl
 ·exact⟨cmK "push", by simp[cm8,cmU],rfl,by decide,.inl ⟨by simp[cmV,cmU],by kernel_rfl⟩⟩
 ·exact⟨cmT "tie", by simp[cm8,cmU],rfl,by decide,.inl ⟨by simp[cmV,cmU],by kernel_rfl⟩⟩
 ·exact⟨cmN "hum", by simp[cm8,cmU],rfl,by decide,.inl ⟨by simp[cmV,cmU],by kernel_rfl⟩⟩
 ·exact⟨cmW "swim", by simp[cm8,cmU],rfl,by decide,.inl ⟨by simp[cmV,cmU],by kernel_rfl⟩⟩
 ·exact⟨cmK "take", by simp[cm8,cmC],rfl,by decide,.inr ⟨by simp[cmS,cmC],by kernel_rfl⟩⟩
 ·exact⟨cmT "put", by simp[cm8,cmC],rfl,by decide,.inr ⟨by simp[cmS,cmC],by kernel_rfl⟩⟩
 ·exact⟨cmW "go", by simp[cm8,cmC],rfl,by decide,.inr ⟨by simp[cmS,cmC],by kernel_rfl⟩⟩
 ·exact⟨cmN "wait", by simp[cm8,cmC],rfl,by decide,.inr ⟨by simp[cmS,cmC],by kernel_rfl⟩⟩
theorem Rw(h:c∈cvs):c∉(["drop", "shut"]:List Str)/\c≠"turn" := by
 have:∀x∈cvs,x∉(["drop", "shut"]:List Str)/\x≠"turn" := by decide
 exact this c h
theorem Rx(ns:List Int)(hl:ns.length<=63):NI [.fzl (ns.map D.int)]=some (.bl true):=by
 let sc:L4.D:=.fzl (ns.map D.int);let cs:L4.D:=.lst (cm8.map Cm.o);obtain⟨c0,e0⟩:=G0 ns 0;let P:List L4.D->Sl->Sl->Sl->Sl->Sl->Sl->Sl->List Sl:=λes a b c d e f g=>[.im sc,.ls es,a,b,c,d,e,f,g,.un,.un,.un,.un];obtain⟨i,e1,x1,p0,p1,h1⟩:=sf (i:=1) (ρ:=P [.int c0] (.im cs) .un .un .un .un .un .un) (b:=8) rfl (.inl ⟨c0,rfl⟩) (by decide) (by decide);obtain⟨q,hq,eq,hv,hx⟩:=Uh p0 p1;obtain⟨no1,no2⟩:=Rw hv;obtain⟨R,es2,hR,lR',_,er⟩:=KN no1 h1;obtain⟨ks,dss,ew,hj⟩:=Iu hv hR lR';let Q:=R++[tu1,tu2];have hQ:∀r∈Q,r.g:=λr hr=>by
  rcases dD.mp hr with hr|hr
  ·exact Q4 hv (hR r hr)
  ·rcases aF.mp hr with rfl|hr
   ·exact M3.1
   ·rw[aU.mp hr];exact M3.2
 have hf:Q.filter (own q.v)=R.filter (own q.v):=by show (R++[tu1,tu2]).filter (own q.v)=_;rw[fz];have o:∀r:Ru,r.vb="turn" -> own q.v r=false:=λr h=>aY (by rw[h];exact λz=>no2 z.symm);rw[cP,cP,o tu1 rfl,o tu2 rfl];simp
 have hg:gl ks dss (.inr q.v)=(R.filter (own q.v)).map Ru.o++shV q.v:=by rw[<-hf];exact KY hj q.v
 let W:=WO Q (.dic ks (dss.map .lst));let rs:L4.D:=.lst (R.map Ru.o);let du:L4.D:=.lst (duL q.v R);let L:L4.D->Sl->Sl->Sl->Sl->List Sl:=λs a b c d=>lR sc es2 cs q.o rs du W (Iv q) s a b c d;have loop:∀(l:List Nat) (s:Sd) (a b c d:Sl),s.ok->∃s' a' b' c' d',forL (gN 9) lB (l.map λk:Nat=>D.int (k:Nat)) (L s.o a b c d)=some (.nx (L s' a' b' c' d')):=by
  intro l
  induction l with
  |nil=>exact λs a b c d _=>⟨s.o,a,b,c,d,rfl⟩
  |cons n l ih=>intro s a b c d hs;obtain⟨s2,b',c',d',h2,e⟩:=TV (ns:=ns) (es:=es2) (cs:=cs) (rs:=rs) (x:=Iv q) (q:=q) (l:=R.filter (own q.v)) hQ hj (λr hr=>Q4 hv (hR r (fG.mp hr).1)) hg hx hs n b c d;obtain⟨s3,a3,b3,c3,d3,e3⟩:=ih s2 (.im (.int n)) b' c' d' h2;refine⟨s3,a3,b3,c3,d3,?_⟩;rw[aW];exact(z7 (ρ1:=L s.o (.im (.int n)) b c d) rfl e).trans e3
 obtain⟨m,em,hm⟩:∃m:Nat,c2 dMax2 (cC (.int 3)) (c2 dMin2 (cC (.int 14)) (c1 uq (cV 0))) (L (Sd.o ⟨"hall", 0,1,2⟩) .un .un .un .un)=some (.int m,L (Sd.o ⟨"hall", 0,1,2⟩) .un .un .un .un)/\m<=14:=by have e:c2 dMax2 (cC (.int 3)) (c2 dMin2 (cC (.int 14)) (c1 uq (cV 0))) (L (Sd.o ⟨"hall", 0,1,2⟩) .un .un .un .un)=some (.int (if (if ((ns.map D.int).length:Int)<14 then ((ns.map D.int).length:Int)else 14) > 3 then (if ((ns.map D.int).length:Int)<14 then ((ns.map D.int).length:Int)else 14)else 3),L (Sd.o ⟨"hall", 0,1,2⟩) .un .un .un .un):=rfl;refine⟨(if (if ((ns.map D.int).length:Int)<14 then ((ns.map D.int).length:Int)else 14) > 3 then (if ((ns.map D.int).length:Int)<14 then ((ns.map D.int).length:Int)else 14)else 3).toNat,?_,by split<;>split<;>omega⟩;rw[e,Int.toNat_of_nonneg (by split<;>split<;>omega)]
 obtain⟨s',a',b',c',d',e⟩:=loop ((aL ((m:Int) - 1).toNat).map (1 + ·)) ⟨"hall", 0,1,2⟩ .un .un .un .un ⟨by decide,by decide,by decide,by decide⟩
 have e0':EK [.im sc,.un,.un,.un,.un,.un,.un,.un,.un,.un,.un,.un,.un]=some (.rt (.bl true) (L s' a' b' c' d')):=by
  unfold EK;refine(om (ρ':=P [.int c0] .un .un .un .un .un .un .un) ((Mw (JU (oJ (pb (ds:=[sc,.int 0]) rfl e0) rfl) (bY rfl))).trans rfl)).trans ?_;refine(om (ρ':=P [.int c0] (.im (.lst (cmU.map Cm.o))) .un .un .un .un .un .un) (by kernel_rfl)).trans ((om (ρ':=P [.int c0] (.im cs) .un .un .un .un .un .un) (by kernel_rfl)).trans ?_);refine(om (ρ':=P e1 (.im cs) (.im q.o) .un .un .un .un .un) ((pQ (oW (x:=cs) (y:=.int i) rfl x1 eq)).trans rfl)).trans ?_;refine(om (ρ':=P es2 (.im cs) (.im q.o) (.im rs) (.im du) .un .un .un) (Rt (d:=.tup [rs,du]) (ρ1:=P es2 (.im cs) (.im q.o) .un .un .un .un .un) ((Fl (i:=1) (es:=e1) (es0:=e1) (ds:=[.str q.v]) (ρ1:=P e1 (.im cs) (.im q.o) .un .un .un .un .un) rfl rfl rfl er).trans rfl) rfl)).trans ?_;refine(om (ρ':=P es2 (.im cs) (.im q.o) (.im rs) (.im du) (.im W) .un .un) ((pQ (pb (ds:=[rs]) rfl ew)).trans rfl)).trans ?_;refine(om (ρ':=P es2 (.im cs) (.im q.o) (.im rs) (.im du) (.im W) (.im .non) .un) rfl).trans ?_;refine(om (ρ':=P es2 (.im cs) (.im q.o) (.im rs) (.im du) (.im W) (.im (Iv q)) .un) (qk (Rv sc es2 rs du W .un .un .un .un .un) hq)).trans ?_;refine(om (ρ':=L (Sd.o ⟨"hall", 0,1,2⟩) .un .un .un .un) ((pQ (pb (ds:=[W]) rfl (Q5 Q (.dic ks (dss.map .lst))))).trans rfl)).trans ?_;refine(om ((vv (ds:=((aL ((m:Int) - 1).toNat).map (1 + ·)).map λk:Nat=>D.int (k:Nat)) (ρ1:=L (Sd.o ⟨"hall", 0,1,2⟩) .un .un .un .un) ?_).trans e)).trans rfl
  unfold iR2;rw[show cC (.int 1) (L (Sd.o ⟨"hall", 0,1,2⟩) .un .un .un .un)=some (.int 1,L (Sd.o ⟨"hall", 0,1,2⟩) .un .un .un .un) from rfl];simp only[em];rw[ah (by omega)];unfold Bs;rw[gB];congr 2
 exact p6 rfl e0'
end K35x
namespace K35x
open PySem L2 L3 L4
open PySem.W (nsIn)
structure Fx(K:ak)(C0 C1 C2 C3 C4 C5 C6 C7 C8 C9 C10 C11 C12 C13 C14 C15:Addr):Prop where
 a0:nsIn K aC "Thing" = some (some (.ref C0))
 a1:nsIn K aC "Mark" = some (some (.ref C1))
 a2:nsIn K aC "Verb" = some (some (.ref C2))
 a3:nsIn K aC "At" = some (some (.ref C3))
 a4:nsIn K aC "Has" = some (some (.ref C4))
 a5:nsIn K aC "Seen" = some (some (.ref C5))
 a6:nsIn K aC "Marked" = some (some (.ref C6))
 a7:nsIn K aC "Kind" = some (some (.ref C7))
 a8:nsIn K aC "Word" = some (some (.ref C8))
 a9:nsIn K aC "Not" = some (some (.ref C9))
 a10:nsIn K aC "Both" = some (some (.ref C10))
 a11:nsIn K aC "Move" = some (some (.ref C11))
 a12:nsIn K aC "Put" = some (some (.ref C12))
 a13:nsIn K aC "Rule" = some (some (.ref C13))
 a14:nsIn K aC "World" = some (some (.ref C14))
 a15:nsIn K aC "Lit" = some (some (.ref C15))
 k0:CF K C0 ["kind", "name", "start", "words"]
 k1:CF K C1 ["most", "name", "start"]
 k2:CF K C2 ["form", "joining", "name", "others"]
 k3:CF K C3 ["place", "term"]
 k4:CF K C4 ["term"]
 k5:CF K C5 ["term"]
 k6:CF K C6 ["term", "value"]
 k7:CF K C7 ["kind", "term"]
 k8:CF K C8 ["word"]
 k9:CF K C9 ["inner"]
 k10:CF K C10 ["one", "other"]
 k11:CF K C11 ["place", "term"]
 k12:CF K C12 ["term", "value"]
 k13:CF K C13 ["deeds", "refuses", "tests", "text", "verb"]
 k14:CF K C14 ["copied_rules", "kept_dark", "kept_marks", "kept_things", "kept_verbs", "kept_ways", "mosts_by_name", "rules_by_verb", "shared_rules", "shared_verbs", "things_by_name", "verbs_by_word", "your_name", "kept_rules"]
 k15:CF K C15 []
 i_At:pP K [C0,C1,C2,C3,C4,C5,C6,C7,C8,C9,C10,C11,C12,C13,C14,C15] C3 3=true
 i_Both:pP K [C0,C1,C2,C3,C4,C5,C6,C7,C8,C9,C10,C11,C12,C13,C14,C15] C10 10=true
 i_Has:pP K [C0,C1,C2,C3,C4,C5,C6,C7,C8,C9,C10,C11,C12,C13,C14,C15] C4 4=true
 i_Kind:pP K [C0,C1,C2,C3,C4,C5,C6,C7,C8,C9,C10,C11,C12,C13,C14,C15] C7 7=true
 i_Lit:pP K [C0,C1,C2,C3,C4,C5,C6,C7,C8,C9,C10,C11,C12,C13,C14,C15] C15 15=true
 i_Mark:pP K [C0,C1,C2,C3,C4,C5,C6,C7,C8,C9,C10,C11,C12,C13,C14,C15] C1 1=true
 i_Marked:pP K [C0,C1,C2,C3,C4,C5,C6,C7,C8,C9,C10,C11,C12,C13,C14,C15] C6 6=true
 i_Move:pP K [C0,C1,C2,C3,C4,C5,C6,C7,C8,C9,C10,C11,C12,C13,C14,C15] C11 11=true
 i_Not:pP K [C0,C1,C2,C3,C4,C5,C6,C7,C8,C9,C10,C11,C12,C13,C14,C15] C9 9=true
 i_Put:pP K [C0,C1,C2,C3,C4,C5,C6,C7,C8,C9,C10,C11,C12,C13,C14,C15] C12 12=true
 i_Rule:pP K [C0,C1,C2,C3,C4,C5,C6,C7,C8,C9,C10,C11,C12,C13,C14,C15] C13 13=true
 i_Seen:pP K [C0,C1,C2,C3,C4,C5,C6,C7,C8,C9,C10,C11,C12,C13,C14,C15] C5 5=true
 i_Thing:pP K [C0,C1,C2,C3,C4,C5,C6,C7,C8,C9,C10,C11,C12,C13,C14,C15] C0 0=true
 i_Verb:pP K [C0,C1,C2,C3,C4,C5,C6,C7,C8,C9,C10,C11,C12,C13,C14,C15] C2 2=true
 i_Word:pP K [C0,C1,C2,C3,C4,C5,C6,C7,C8,C9,C10,C11,C12,C13,C14,C15] C8 8=true
 nd:decide ([C0,C1,C2,C3,C4,C5,C6,C7,C8,C9,C10,C11,C12,C13,C14,C15]:List Addr).Nodup=true
 e:((["all", "any", "bool", "int", "isinstance", "len", "list", "max", "min", "range", "set", "sorted", "str", "tuple"]:List Str).all λx=>match nsIn K aC x with|some none=>true|_=>false)=true
 g0:GX K "CANNOT_BE" "That cannot be."
 g1:GS K "FORMS" ["alone", "one", "two", "way"]
 g2:GS K "KINDS" ["room", "plain", "fixed", "box", "lamp", "you"]
 g3:GS K "KINDS_APART" ["room", "you"]
 g4:GS K "KINDS_THAT_HOLD" ["room", "box", "you"]
 g5:GS K "KINDS_WITH_MARK" ["box", "lamp"]
 g6:GC K "MOST_BESIDE" 7
 g7:GC K "MOST_BY_COMMAND" 3
 g8:GC K "MOST_DEEDS" 4
 g9:GC K "MOST_DEEP" 4
 g10:GC K "MOST_IN_NAME" 8
 g11:GC K "MOST_IN_WORD" 12
 g12:GC K "MOST_MARKS" 4
 g13:GC K "MOST_OF_MARK" 3
 g14:GC K "MOST_ROOMS" 5
 g15:GC K "MOST_RULES" 20
 g16:GC K "MOST_SIGNS" 60
 g17:GC K "MOST_TESTS" 5
 g18:GC K "MOST_VERBS" 6
 g19:GC K "MOST_WAYS" 10
 g20:GC K "MOST_WORDS" 4
 g21:GX K "NOTHING_COMES" "Nothing comes of it."
 g22:GS K "NO_NAMES" ["it", "other", "here", "the", "a", "undo", "restart"]
 g23:GS K "NO_WORDS" ["the", "a"]
 g24:GS K "NO_WORDS_OF_ROWS" ["the", "a", "undo", "restart"]
 q25:GD K "is_small_letters" (top 6)
 q26:GD K "is_name" (top 7)
 q27:GD K "is_word" (top 8)
 q28:GD K "is_one_of" (top 10)
 q29:GD K "is_whole" (top 11)
 q30:GD K "is_list_up_to" (top 12)
 q31:GD K "own_list" (top 83)
 q32:GJ K C0 "Thing.__init__" (inClass (top 73) 0) [V.non]
 q33:GM K C1 "__init__" "Mark.__init__" (inClass (top 74) 0)
 q34:GJ K C2 "Verb.__init__" (inClass (top 75) 0) [V.non,(V.str "one"),V.non]
 q35:GM K C3 "__init__" "At.__init__" (inClass (top 32) 0)
 q36:GM K C4 "__init__" "Has.__init__" (inClass (top 33) 0)
 q37:GM K C6 "__init__" "Marked.__init__" (inClass (top 35) 0)
 q38:GM K C7 "__init__" "Kind.__init__" (inClass (top 36) 0)
 q39:GM K C8 "__init__" "Word.__init__" (inClass (top 37) 0)
 q40:GM K C9 "__init__" "Not.__init__" (inClass (top 39) 0)
 q41:GM K C10 "__init__" "Both.__init__" (inClass (top 40) 0)
 q42:GM K C11 "__init__" "Move.__init__" (inClass (top 63) 0)
 q43:GM K C12 "__init__" "Put.__init__" (inClass (top 64) 0)
 q44:GJ K C13 "Rule.__init__" (inClass (top 82) 0) [(V.bl false)]
 q45:GM K C0 "can_hold" "Thing.can_hold" (inClass (top 73) 1)
 q46:GM K C0 "has_mark" "Thing.has_mark" (inClass (top 73) 2)
 q47:GM K C0 "is_plainly" "Thing.is_plainly" (inClass (top 73) 3)
 q48:GD K "refuse_unless" (top 112)
 q49:GD K "count_of" (top 115)
 q50:GD K "plain_ones" (top 116)
 q51:GD K "is_mark" (top 118)
 q52:GD K "check_things" (top 114)
 q53:GD K "check_marks" (top 117)
 q54:GD K "are_unlike" (top 120)
 q55:GD K "check_names" (top 119)
 q56:GD K "mark_names" (top 121)
 q57:GD K "is_start" (top 123)
 q58:GD K "comes_to_room" (top 124)
 q59:GD K "check_starts" (top 122)
 q60:GD K "are_words" (top 126)
 q61:GD K "has_all" (top 128)
 q62:GD K "is_told_apart" (top 127)
 q63:GD K "check_words_of_things" (top 125)
 q64:GD K "check_dark" (top 129)
 q65:GD K "is_way" (top 131)
 q66:GD K "check_ways" (top 130)
 q67:GD K "is_verb" (top 133)
 q68:GD K "check_verbs" (top 132)
 q69:GD K "are_apart" (top 135)
 q70:GD K "check_vocabulary" (top 134)
 q71:GD K "check_parts" (top 113)
 q72:GD K "does" (top 139)
 q73:GD K "refuses" (top 140)
 q74:GD K "hand_rules" (top 141)
 q75:GD K "put_rules" (top 142)
 q76:GD K "lid_rules" (top 143)
 q77:GD K "flame_rules" (top 144)
 q78:GD K "way_tests" (top 146)
 q79:GD K "go_rules" (top 145)
 q80:GD K "wait_rules" (top 147)
 q81:GD K "common_rules" (top 138)
 q82:GD K "common_verbs" (top 137)
 q83:GD K "by_name" (top 151)
 q84:GD K "mosts_by_name" (top 152)
 q85:GD K "verbs_by_word" (top 153)
 q86:GD K "by_verb" (top 154)
 q87:GM K C14 "of_kind" "World.of_kind" (inClass (top 150) 3)
 q88:GM K C14 "all_verbs" "World.all_verbs" (inClass (top 150) 13)
 q89:GD K "is_same_text" (top 9)
 q90:GD K "copy_of" (top 84)
 q91:GM K C14 "thing_of" "World.thing_of" (inClass (top 150) 2)
 q92:GM K C14 "most_of" "World.most_of" (inClass (top 150) 6)
 q93:GM K C14 "verb_of" "World.verb_of" (inClass (top 150) 14)
 q94:GM K C14 "you" "World.you" (inClass (top 150) 4)
 q95:GD K "is_by_command" (top 95)
 q96:GD K "is_mark_value" (top 102)
 q97:GD K "is_said" (top 87)
 q98:GD K "is_verb_name" (top 86)
 q99:GD K "does_or_refuses" (top 88)
 q100:GD K "is_plain_test" (top 92)
 q101:GD K "is_test" (top 91)
 q102:GD K "is_deed" (top 93)
 q103:GD K "are_tests" (top 89)
 q104:GD K "are_deeds" (top 90)
 q105:GD K "is_rule" (top 85)
 q106:GM K C14 "__init__" "World.__init__" (inClass (top 150) 0)
 q107:GM K C14 "is_dark" "World.is_dark" (inClass (top 150) 5)
 q108:GM K C14 "own_marks" "World.own_marks" (inClass (top 150) 7)
 q109:GM K C14 "way_words" "World.way_words" (inClass (top 150) 12)
 q110:GM K C14 "rules_to_try" "World.rules_to_try" (inClass (top 150) 16)
 q111:GM K C14 "parts" "World.parts" (inClass (top 150) 18)
 q112:GD K "own_starts" (top 15)
 q113:GD K "first_value" (top 16)
 q114:GD K "first_stand" (top 14)
 q115:GD K "value_of" (top 17)
 q116:GD K "at_of" (top 18)
 q117:GD K "mark_of" (top 19)
 q118:GD K "with_part" (top 20)
 q119:GD K "holders_of" (top 22)
 q120:GD K "room_of" (top 23)
 q121:GD K "has" (top 26)
 q122:GD K "is_shut" (top 25)
 q123:GD K "in_open" (top 24)
 q124:GD K "burns_in" (top 28)
 q125:GD K "is_lit" (top 27)
 q126:GD K "is_seen" (top 29)
 q127:GD K "is_of_way" (top 41)
 q128:GD K "things_of" (top 42)
 q129:GD K "meant" (top 43)
 q130:GD K "at_parts" (top 44)
 q131:GD K "mark_parts" (top 45)
 q132:GD K "can_go" (top 65)
 q133:GD K "can_show" (top 66)
 q134:GM K C3 "holds" "At.holds" (inClass (top 32) 1)
 q135:GM K C4 "holds" "Has.holds" (inClass (top 33) 1)
 q136:GM K C6 "holds" "Marked.holds" (inClass (top 35) 1)
 q137:GM K C7 "holds" "Kind.holds" (inClass (top 36) 1)
 q138:GM K C8 "holds" "Word.holds" (inClass (top 37) 1)
 q139:GM K C15 "holds" "Lit.holds" (inClass (top 38) 0)
 q140:GM K C9 "holds" "Not.holds" (inClass (top 39) 1)
 q141:GM K C10 "holds" "Both.holds" (inClass (top 40) 1)
 q142:GM K C11 "done" "Move.done" (inClass (top 63) 1)
 q143:GM K C12 "done" "Put.done" (inClass (top 64) 1)
 q144:GD K "is_object" (top 56)
 q145:GD K "fits_form" (top 55)
 q146:GD K "is_command" (top 54)
 q147:GD K "check_command" (top 53)
 q148:GD K "fits" (top 59)
 q149:GD K "outcome" (top 60)
 q150:GD K "answered" (top 58)
 q151:GD K "step" (top 57)
 q152:GD K "_law_cell_at" (top 156)
 q153:GD K "_law_digit" (top 157)
 q154:GD K "_law_test" (top 158)
 q155:GD K "_law_rules" (top 159)
 q156:GD K "_law_due" (top 160)
 q157:GD K "_law_world" (top 161)
 q158:GD K "law" (top 162)
class Yx(B:Bz):Prop where
 y:Yw B.P B.w B.mg B.base B.G
 f:Fx B.G.K (B.G.ca 0) (B.G.ca 1) (B.G.ca 2) (B.G.ca 3) (B.G.ca 4) (B.G.ca 5) (B.G.ca 6) (B.G.ca 7) (B.G.ca 8) (B.G.ca 9) (B.G.ca 10) (B.G.ca 11) (B.G.ca 12) (B.G.ca 13) (B.G.ca 14) (B.G.ca 15)
section
variable{B:Bz}[Y:Yx B]
instance:Yb B:=⟨Y.y⟩
instance:Nb B "all" := ⟨Y.y.n Y.f.e 0 rfl⟩
instance:Nb B "any" := ⟨Y.y.n Y.f.e 1 rfl⟩
instance:Nb B "bool" := ⟨Y.y.n Y.f.e 2 rfl⟩
instance:Nb B "int" := ⟨Y.y.n Y.f.e 3 rfl⟩
instance:Nb B "isinstance" := ⟨Y.y.n Y.f.e 4 rfl⟩
instance:Nb B "len" := ⟨Y.y.n Y.f.e 5 rfl⟩
instance:Nb B "list" := ⟨Y.y.n Y.f.e 6 rfl⟩
instance:Nb B "max" := ⟨Y.y.n Y.f.e 7 rfl⟩
instance:Nb B "min" := ⟨Y.y.n Y.f.e 8 rfl⟩
instance:Nb B "range" := ⟨Y.y.n Y.f.e 9 rfl⟩
instance:Nb B "set" := ⟨Y.y.n Y.f.e 10 rfl⟩
instance:Nb B "sorted" := ⟨Y.y.n Y.f.e 11 rfl⟩
instance:Nb B "str" := ⟨Y.y.n Y.f.e 12 rfl⟩
instance:Nb B "tuple" := ⟨Y.y.n Y.f.e 13 rfl⟩
instance:Co B "CANNOT_BE" vH:=⟨Y.y.cx Y.f.g0⟩
instance:Co B "FORMS" GU:=⟨Y.y.cs Y.f.g1⟩
instance:Co B "KINDS" DA:=⟨Y.y.cs Y.f.g2⟩
instance:Co B "KINDS_APART" wG:=⟨Y.y.cs Y.f.g3⟩
instance:Co B "KINDS_THAT_HOLD" sU:=⟨Y.y.cs Y.f.g4⟩
instance:Co B "KINDS_WITH_MARK" sV:=⟨Y.y.cs Y.f.g5⟩
instance:Co B "MOST_BESIDE" wH:=⟨Y.y.ci Y.f.g6⟩
instance:Co B "MOST_BY_COMMAND" sX:=⟨Y.y.ci Y.f.g7⟩
instance:Co B "MOST_DEEDS" xK:=⟨Y.y.ci Y.f.g8⟩
instance:Co B "MOST_DEEP" sW:=⟨Y.y.ci Y.f.g9⟩
instance:Co B "MOST_IN_NAME" vF:=⟨Y.y.ci Y.f.g10⟩
instance:Co B "MOST_IN_WORD" vG:=⟨Y.y.ci Y.f.g11⟩
instance:Co B "MOST_MARKS" xO:=⟨Y.y.ci Y.f.g12⟩
instance:Co B "MOST_OF_MARK" vI:=⟨Y.y.ci Y.f.g13⟩
instance:Co B "MOST_ROOMS" xN:=⟨Y.y.ci Y.f.g14⟩
instance:Co B "MOST_RULES" xR:=⟨Y.y.ci Y.f.g15⟩
instance:Co B "MOST_SIGNS" xM:=⟨Y.y.ci Y.f.g16⟩
instance:Co B "MOST_TESTS" xJ:=⟨Y.y.ci Y.f.g17⟩
instance:Co B "MOST_VERBS" xP:=⟨Y.y.ci Y.f.g18⟩
instance:Co B "MOST_WAYS" zi:=⟨Y.y.ci Y.f.g19⟩
instance:Co B "MOST_WORDS" xQ:=⟨Y.y.ci Y.f.g20⟩
instance:Co B "NOTHING_COMES" rK:=⟨Y.y.cx Y.f.g21⟩
instance:Co B "NO_NAMES" AR:=⟨Y.y.cs Y.f.g22⟩
instance:Co B "NO_WORDS" AS:=⟨Y.y.cs Y.f.g23⟩
instance:Co B "NO_WORDS_OF_ROWS" sy:=⟨Y.y.cs Y.f.g24⟩
instance:Ff B tY "copied_rules" := ⟨qr (Y.f.k14.at 0 rfl)⟩
instance:Ff B r6 "deeds" := ⟨qr (Y.f.k13.at 0 rfl)⟩
instance:Ff B sm "form" := ⟨qr (Y.f.k2.at 0 rfl)⟩
instance:Ff B yM "inner" := ⟨qr (Y.f.k9.at 0 rfl)⟩
instance:Ff B rA "joining" := ⟨qr (Y.f.k2.at 1 rfl)⟩
instance:Ff B wC "kept_dark" := ⟨qr (Y.f.k14.at 1 rfl)⟩
instance:Ff B sq "kept_marks" := ⟨qr (Y.f.k14.at 2 rfl)⟩
instance:Ff B qA "kept_things" := ⟨qr (Y.f.k14.at 3 rfl)⟩
instance:Ff B vC "kept_verbs" := ⟨qr (Y.f.k14.at 4 rfl)⟩
instance:Ff B wF "kept_ways" := ⟨qr (Y.f.k14.at 5 rfl)⟩
instance:Ff B pE "kind" := ⟨orQ (qr (Y.f.k0.at 0 rfl)) (Y.f.k7.at 0 rfl)⟩
instance:Ff B vE "most" := ⟨qr (Y.f.k1.at 0 rfl)⟩
instance:Ff B sS "mosts_by_name" := ⟨qr (Y.f.k14.at 6 rfl)⟩
instance:Ff B o7 "name" := ⟨orQ (orQ (qr (Y.f.k0.at 1 rfl)) (Y.f.k1.at 1 rfl)) (Y.f.k2.at 2 rfl)⟩
instance:Ff B Dy "one" := ⟨qr (Y.f.k10.at 0 rfl)⟩
instance:Ff B yN "other" := ⟨qr (Y.f.k10.at 1 rfl)⟩
instance:Ff B sr "others" := ⟨qr (Y.f.k2.at 3 rfl)⟩
instance:Ff B yO "place" := ⟨orQ (qr (Y.f.k3.at 0 rfl)) (Y.f.k11.at 0 rfl)⟩
instance:Ff B qe "refuses" := ⟨qr (Y.f.k13.at 1 rfl)⟩
instance:Ff B p8 "rules_by_verb" := ⟨qr (Y.f.k14.at 7 rfl)⟩
instance:Ff B tZ "shared_rules" := ⟨qr (Y.f.k14.at 8 rfl)⟩
instance:Ff B t6 "shared_verbs" := ⟨qr (Y.f.k14.at 9 rfl)⟩
instance:Ff B qt "start" := ⟨orQ (qr (Y.f.k0.at 2 rfl)) (Y.f.k1.at 2 rfl)⟩
instance:Ff B qT "term" := ⟨orQ (orQ (orQ (orQ (orQ (orQ (qr (Y.f.k3.at 1 rfl)) (Y.f.k4.at 0 rfl)) (Y.f.k5.at 0 rfl)) (Y.f.k6.at 0 rfl)) (Y.f.k7.at 1 rfl)) (Y.f.k11.at 1 rfl)) (Y.f.k12.at 0 rfl)⟩
instance:Ff B r9 "tests" := ⟨qr (Y.f.k13.at 2 rfl)⟩
instance:Ff B su "text" := ⟨qr (Y.f.k13.at 3 rfl)⟩
instance:Ff B sv "things_by_name" := ⟨qr (Y.f.k14.at 10 rfl)⟩
instance:Ff B sd "value" := ⟨orQ (qr (Y.f.k6.at 1 rfl)) (Y.f.k12.at 1 rfl)⟩
instance:Ff B qy "verb" := ⟨qr (Y.f.k13.at 4 rfl)⟩
instance:Ff B sT "verbs_by_word" := ⟨qr (Y.f.k14.at 11 rfl)⟩
instance:Ff B AQ "word" := ⟨qr (Y.f.k8.at 0 rfl)⟩
instance:Ff B t7 "words" := ⟨qr (Y.f.k0.at 3 rfl)⟩
instance:Ff B tI "your_name" := ⟨qr (Y.f.k14.at 12 rfl)⟩
instance:Af B 0 ["kind", "name", "start", "words"]:=⟨Y.f.k0⟩
instance:Af B 1 ["most", "name", "start"]:=⟨Y.f.k1⟩
instance:Af B 2 ["form", "joining", "name", "others"]:=⟨Y.f.k2⟩
instance:Af B 3 ["place", "term"]:=⟨Y.f.k3⟩
instance:Af B 4 ["term"]:=⟨Y.f.k4⟩
instance:Af B 6 ["term", "value"]:=⟨Y.f.k6⟩
instance:Af B 7 ["kind", "term"]:=⟨Y.f.k7⟩
instance:Af B 8 ["word"]:=⟨Y.f.k8⟩
instance:Af B 9 ["inner"]:=⟨Y.f.k9⟩
instance:Af B 10 ["one", "other"]:=⟨Y.f.k10⟩
instance:Af B 11 ["place", "term"]:=⟨Y.f.k11⟩
instance:Af B 12 ["term", "value"]:=⟨Y.f.k12⟩
instance:Af B 13 ["deeds", "refuses", "tests", "text", "verb"]:=⟨Y.f.k13⟩
instance:Af B 14 ["copied_rules", "kept_dark", "kept_marks", "kept_things", "kept_verbs", "kept_ways", "mosts_by_name", "rules_by_verb", "shared_rules", "shared_verbs", "things_by_name", "verbs_by_word", "your_name", "kept_rules"]:=⟨Y.f.k14⟩
instance:Ic B "At" Te:=⟨3,pA Y.f.i_At rfl (vB 16 _) (uB.at ⟨Y.f.k0.ci,Y.f.k1.ci,Y.f.k2.ci,Y.f.k3.ci,Y.f.k4.ci,Y.f.k5.ci,Y.f.k6.ci,Y.f.k7.ci,Y.f.k8.ci,Y.f.k9.ci,Y.f.k10.ci,Y.f.k11.ci,Y.f.k12.ci,Y.f.k13.ci,Y.f.k14.ci,Y.f.k15.ci,trivial⟩),Y.y.g Y.f.a3⟩
instance:Ic B "Both" KB:=⟨10,pA Y.f.i_Both rfl (vB 16 _) (uB.at ⟨Y.f.k0.ci,Y.f.k1.ci,Y.f.k2.ci,Y.f.k3.ci,Y.f.k4.ci,Y.f.k5.ci,Y.f.k6.ci,Y.f.k7.ci,Y.f.k8.ci,Y.f.k9.ci,Y.f.k10.ci,Y.f.k11.ci,Y.f.k12.ci,Y.f.k13.ci,Y.f.k14.ci,Y.f.k15.ci,trivial⟩),Y.y.g Y.f.a10⟩
instance:Ic B "Has" NB:=⟨4,pA Y.f.i_Has rfl (vB 16 _) (uB.at ⟨Y.f.k0.ci,Y.f.k1.ci,Y.f.k2.ci,Y.f.k3.ci,Y.f.k4.ci,Y.f.k5.ci,Y.f.k6.ci,Y.f.k7.ci,Y.f.k8.ci,Y.f.k9.ci,Y.f.k10.ci,Y.f.k11.ci,Y.f.k12.ci,Y.f.k13.ci,Y.f.k14.ci,Y.f.k15.ci,trivial⟩),Y.y.g Y.f.a4⟩
instance:Ic B "Kind" KC:=⟨7,pA Y.f.i_Kind rfl (vB 16 _) (uB.at ⟨Y.f.k0.ci,Y.f.k1.ci,Y.f.k2.ci,Y.f.k3.ci,Y.f.k4.ci,Y.f.k5.ci,Y.f.k6.ci,Y.f.k7.ci,Y.f.k8.ci,Y.f.k9.ci,Y.f.k10.ci,Y.f.k11.ci,Y.f.k12.ci,Y.f.k13.ci,Y.f.k14.ci,Y.f.k15.ci,trivial⟩),Y.y.g Y.f.a7⟩
instance:Ic B "Lit" NC:=⟨15,pA Y.f.i_Lit rfl (vB 16 _) (uB.at ⟨Y.f.k0.ci,Y.f.k1.ci,Y.f.k2.ci,Y.f.k3.ci,Y.f.k4.ci,Y.f.k5.ci,Y.f.k6.ci,Y.f.k7.ci,Y.f.k8.ci,Y.f.k9.ci,Y.f.k10.ci,Y.f.k11.ci,Y.f.k12.ci,Y.f.k13.ci,Y.f.k14.ci,Y.f.k15.ci,trivial⟩),Y.y.g Y.f.a15⟩
instance:Ic B "Mark" KD:=⟨1,pA Y.f.i_Mark rfl (vB 16 _) (uB.at ⟨Y.f.k0.ci,Y.f.k1.ci,Y.f.k2.ci,Y.f.k3.ci,Y.f.k4.ci,Y.f.k5.ci,Y.f.k6.ci,Y.f.k7.ci,Y.f.k8.ci,Y.f.k9.ci,Y.f.k10.ci,Y.f.k11.ci,Y.f.k12.ci,Y.f.k13.ci,Y.f.k14.ci,Y.f.k15.ci,trivial⟩),Y.y.g Y.f.a1⟩
instance:Ic B "Marked" EA:=⟨6,pA Y.f.i_Marked rfl (vB 16 _) (uB.at ⟨Y.f.k0.ci,Y.f.k1.ci,Y.f.k2.ci,Y.f.k3.ci,Y.f.k4.ci,Y.f.k5.ci,Y.f.k6.ci,Y.f.k7.ci,Y.f.k8.ci,Y.f.k9.ci,Y.f.k10.ci,Y.f.k11.ci,Y.f.k12.ci,Y.f.k13.ci,Y.f.k14.ci,Y.f.k15.ci,trivial⟩),Y.y.g Y.f.a6⟩
instance:Ic B "Move" KE:=⟨11,pA Y.f.i_Move rfl (vB 16 _) (uB.at ⟨Y.f.k0.ci,Y.f.k1.ci,Y.f.k2.ci,Y.f.k3.ci,Y.f.k4.ci,Y.f.k5.ci,Y.f.k6.ci,Y.f.k7.ci,Y.f.k8.ci,Y.f.k9.ci,Y.f.k10.ci,Y.f.k11.ci,Y.f.k12.ci,Y.f.k13.ci,Y.f.k14.ci,Y.f.k15.ci,trivial⟩),Y.y.g Y.f.a11⟩
instance:Ic B "Not" ND:=⟨9,pA Y.f.i_Not rfl (vB 16 _) (uB.at ⟨Y.f.k0.ci,Y.f.k1.ci,Y.f.k2.ci,Y.f.k3.ci,Y.f.k4.ci,Y.f.k5.ci,Y.f.k6.ci,Y.f.k7.ci,Y.f.k8.ci,Y.f.k9.ci,Y.f.k10.ci,Y.f.k11.ci,Y.f.k12.ci,Y.f.k13.ci,Y.f.k14.ci,Y.f.k15.ci,trivial⟩),Y.y.g Y.f.a9⟩
instance:Ic B "Put" NF:=⟨12,pA Y.f.i_Put rfl (vB 16 _) (uB.at ⟨Y.f.k0.ci,Y.f.k1.ci,Y.f.k2.ci,Y.f.k3.ci,Y.f.k4.ci,Y.f.k5.ci,Y.f.k6.ci,Y.f.k7.ci,Y.f.k8.ci,Y.f.k9.ci,Y.f.k10.ci,Y.f.k11.ci,Y.f.k12.ci,Y.f.k13.ci,Y.f.k14.ci,Y.f.k15.ci,trivial⟩),Y.y.g Y.f.a12⟩
instance:Ic B "Rule" KF:=⟨13,pA Y.f.i_Rule rfl (vB 16 _) (uB.at ⟨Y.f.k0.ci,Y.f.k1.ci,Y.f.k2.ci,Y.f.k3.ci,Y.f.k4.ci,Y.f.k5.ci,Y.f.k6.ci,Y.f.k7.ci,Y.f.k8.ci,Y.f.k9.ci,Y.f.k10.ci,Y.f.k11.ci,Y.f.k12.ci,Y.f.k13.ci,Y.f.k14.ci,Y.f.k15.ci,trivial⟩),Y.y.g Y.f.a13⟩
instance:Ic B "Seen" KG:=⟨5,pA Y.f.i_Seen rfl (vB 16 _) (uB.at ⟨Y.f.k0.ci,Y.f.k1.ci,Y.f.k2.ci,Y.f.k3.ci,Y.f.k4.ci,Y.f.k5.ci,Y.f.k6.ci,Y.f.k7.ci,Y.f.k8.ci,Y.f.k9.ci,Y.f.k10.ci,Y.f.k11.ci,Y.f.k12.ci,Y.f.k13.ci,Y.f.k14.ci,Y.f.k15.ci,trivial⟩),Y.y.g Y.f.a5⟩
instance:Ic B "Thing" GT:=⟨0,pA Y.f.i_Thing rfl (vB 16 _) (uB.at ⟨Y.f.k0.ci,Y.f.k1.ci,Y.f.k2.ci,Y.f.k3.ci,Y.f.k4.ci,Y.f.k5.ci,Y.f.k6.ci,Y.f.k7.ci,Y.f.k8.ci,Y.f.k9.ci,Y.f.k10.ci,Y.f.k11.ci,Y.f.k12.ci,Y.f.k13.ci,Y.f.k14.ci,Y.f.k15.ci,trivial⟩),Y.y.g Y.f.a0⟩
instance:Ic B "Verb" KH:=⟨2,pA Y.f.i_Verb rfl (vB 16 _) (uB.at ⟨Y.f.k0.ci,Y.f.k1.ci,Y.f.k2.ci,Y.f.k3.ci,Y.f.k4.ci,Y.f.k5.ci,Y.f.k6.ci,Y.f.k7.ci,Y.f.k8.ci,Y.f.k9.ci,Y.f.k10.ci,Y.f.k11.ci,Y.f.k12.ci,Y.f.k13.ci,Y.f.k14.ci,Y.f.k15.ci,trivial⟩),Y.y.g Y.f.a2⟩
instance:Ic B "Word" KI:=⟨8,pA Y.f.i_Word rfl (vB 16 _) (uB.at ⟨Y.f.k0.ci,Y.f.k1.ci,Y.f.k2.ci,Y.f.k3.ci,Y.f.k4.ci,Y.f.k5.ci,Y.f.k6.ci,Y.f.k7.ci,Y.f.k8.ci,Y.f.k9.ci,Y.f.k10.ci,Y.f.k11.ci,Y.f.k12.ci,Y.f.k13.ci,Y.f.k14.ci,Y.f.k15.ci,trivial⟩),Y.y.g Y.f.a8⟩
instance:Ij B 16:=⟨Ub Y.f.nd⟩
local macro_rules|`(tactic|trivial)=>do let x:=("Tc SX SW SY SZ Eu S6 PL Ql S0 PJ Qr Qk Pn Po Qm Qo Qi PQ Qd PV Qs Pw Px Py Pz Pr Qp S7 Qt Pt PN Qv Qx Qn QI PM PK PH Pm zr_i2I P1 P2 S4 Qz PD PF PB S8 S9 P6 Pp Pq P7 Pu QF QG QH Qw Qy QA S5 PR PU QB QC P8 PX PY P9 Qa Qb Qc QD QE MN MM MO Qe Qf Qg P0 zr_r2I P3 zr_xeI P4 zr_swI QX P5 Qu zr_srI zr_mxI zr_mnI zr_luI zr_w1I PZ QK zr_xsI QL QM ML QJ Qq".splitOn " ").toArray.map fun s=>Lean.mkIdent (.mkSimple s);`(tactic|repeat' first|(with_reducible apply eqI);(first|rfl|kernel_rfl)|((with_reducible first|apply Qj|apply zr_cpM);rotate_left 7;rfl)|(with_reducible first $[|apply $x]*)|(with_reducible intro _)|exact la)
instance:Df B 1 "is_small_letters" (spF B.G qE):=gF4 rfl Y.f.q25 rfl (by unfold sA;trivial)
instance:Df B 2 "is_name" (spF B.G t8):=gF4 rfl Y.f.q26 rfl (by unfold B8;trivial)
instance:Df B 2 "is_word" (spF B.G t9):=gF4 rfl Y.f.q27 rfl (by unfold B9;trivial)
instance:Df B 1 "is_one_of" (spF B.G pJ):=gF4 rfl Y.f.q28 rfl (by unfold zj;trivial)
instance:Df B 1 "is_whole" (spF B.G uC):=gF4 rfl Y.f.q29 rfl (by unfold AU;trivial)
instance:Df B 1 "is_list_up_to" (spF B.G pd):=gF4 rfl Y.f.q30 rfl (by unfold uR;trivial)
instance:Df B 1 "own_list" (spF B.G xf):=gF4 rfl Y.f.q31 rfl (by unfold AV;trivial)
theorem w6:Bdz B (nmO (inClass (top 73) 0)) "Thing.__init__" (inClass (top 73) 0) (oY (inClass (top 73) 0)) 0 uD:=by
 unfold uD;refine Eu ?_ ?_
 all_goals trivial
instance:Kf B 1 "Thing" 0 qu [D.non]:=gJ4 (dds:=[D.non]) Y.f.k0 Y.f.a0 rfl Y.f.q32 rfl rfl w6 0
instance:Kf B 1 "Thing" 0 qu []:=gJ4 (dds:=[D.non]) Y.f.k0 Y.f.a0 rfl Y.f.q32 rfl rfl w6 1
instance:Kf B 1 "Mark" 1 sY []:=gI4 Y.f.k1 Y.f.a1 rfl Y.f.q33 rfl rfl (by unfold zk;trivial)
theorem uO:Bdz B (nmO (inClass (top 75) 0)) "Verb.__init__" (inClass (top 75) 0) (oY (inClass (top 75) 0)) 0 vJ:=by
 unfold vJ;refine Eu ?_ ?_
 all_goals trivial
instance:Kf B 1 "Verb" 2 pz [D.non,(D.str "one"),D.non]:=gJ4 (dds:=[D.non,(D.str "one"),D.non]) Y.f.k2 Y.f.a2 rfl Y.f.q34 rfl rfl uO 0
instance:Kf B 1 "Verb" 2 pz [D.non]:=gJ4 (dds:=[D.non,(D.str "one"),D.non]) Y.f.k2 Y.f.a2 rfl Y.f.q34 rfl rfl uO 2
instance:Kf B 1 "Verb" 2 pz []:=gJ4 (dds:=[D.non,(D.str "one"),D.non]) Y.f.k2 Y.f.a2 rfl Y.f.q34 rfl rfl uO 3
instance:Kf B 1 "At" 3 yP []:=gI4 Y.f.k3 Y.f.a3 rfl Y.f.q35 rfl rfl (by unfold Ca;trivial)
instance:Kf B 1 "Has" 4 xg []:=gI4 Y.f.k4 Y.f.a4 rfl Y.f.q36 rfl rfl (by unfold AW;trivial)
instance:Kf B 1 "Marked" 6 o6 []:=gI4 Y.f.k6 Y.f.a6 rfl Y.f.q37 rfl rfl (by unfold wI;trivial)
instance:Kf B 1 "Kind" 7 qf []:=gI4 Y.f.k7 Y.f.a7 rfl Y.f.q38 rfl rfl (by unfold zl;trivial)
instance:Kf B 1 "Word" 8 zp []:=gI4 Y.f.k8 Y.f.a8 rfl Y.f.q39 rfl rfl (by unfold zm;trivial)
instance:Kf B 1 "Not" 9 pR []:=gI4 Y.f.k9 Y.f.a9 rfl Y.f.q40 rfl rfl (by unfold AX;trivial)
instance:Kf B 1 "Both" 10 zr []:=gI4 Y.f.k10 Y.f.a10 rfl Y.f.q41 rfl rfl (by unfold zq;trivial)
instance:Kf B 1 "Move" 11 rD []:=gI4 Y.f.k11 Y.f.a11 rfl Y.f.q42 rfl rfl (by unfold zt;trivial)
instance:Kf B 1 "Put" 12 pB []:=gI4 Y.f.k12 Y.f.a12 rfl Y.f.q43 rfl rfl (by unfold AY;trivial)
theorem yy:Bdz B (nmO (inClass (top 82) 0)) "Rule.__init__" (inClass (top 82) 0) (oY (inClass (top 82) 0)) 1 vK:=by
 unfold vK;refine Eu ?_ ?_
 all_goals trivial
instance:Kf B 2 "Rule" 13 o8 [(D.bl false)]:=gJ4 (dds:=[(D.bl false)]) Y.f.k13 Y.f.a13 rfl Y.f.q44 rfl rfl yy 0
instance:Kf B 2 "Rule" 13 o8 []:=gJ4 (dds:=[(D.bl false)]) Y.f.k13 Y.f.a13 rfl Y.f.q44 rfl rfl yy 1
instance:Mf B 9 "can_hold" qU:=⟨λc h e=>by
 unfold qU at e;split at e
 ·cases e;exact hF4 (k:=8) Y.f.k0 rfl Y.f.q45 rfl (by unfold ua;trivial)
 ·cases e⟩
instance:Mf B 9 "has_mark" qV:=⟨λc h e=>by
 unfold qV at e;split at e
 ·cases e;exact hF4 (k:=8) Y.f.k0 rfl Y.f.q46 rfl (by unfold ub;trivial)
 ·cases e⟩
instance:Mf B 9 "is_plainly" pV:=⟨λc h e=>by
 unfold pV at e;split at e
 ·cases e;exact hF4 (k:=8) Y.f.k0 rfl Y.f.q47 rfl (by unfold sC;trivial)
 ·cases e⟩
instance:Df B 1 "refuse_unless" (spF B.G oq):=gF4 rfl Y.f.q48 rfl (by unfold uS;trivial)
instance:Df B 1 "count_of" (spF B.G xi):=gF4 rfl Y.f.q49 rfl (by unfold AZ;trivial)
instance:Df B 10 "plain_ones" (spN B.G rT):=gN4 rfl Y.f.q50 rfl (by unfold xS;trivial)
instance:Df B 2 "is_mark" (spF B.G Cc):=gF4 rfl Y.f.q51 rfl (by unfold Cb;trivial)
instance:Df B 11 "check_things" (spF B.G vM):=gF4 rfl Y.f.q52 rfl (by unfold vL;trivial)
instance:Df B 3 "check_marks" (spF B.G wK):=gF4 rfl Y.f.q53 rfl (by unfold wJ;trivial)
instance:Df B 1 "are_unlike" (spF B.G qv):=gF4 rfl Y.f.q54 rfl (by unfold xT;trivial)
instance:Df B 3 "check_names" (spF B.G wM):=gF4 rfl Y.f.q55 rfl (by unfold wL;trivial)
instance:Df B 10 "mark_names" (spN B.G uE):=gN4 rfl Y.f.q56 rfl (by unfold xU;trivial)
instance:Df B 10 "is_start" (spF B.G A2):=gF4 rfl Y.f.q57 rfl (by unfold A0;trivial)
instance:Df B 1 "comes_to_room" (spF B.G uU):=gF4 rfl Y.f.q58 rfl (by unfold uT;trivial)
instance:Df B 11 "check_starts" (spF B.G vO):=gF5 ["things", "starts", "thing"] rfl Y.f.q59 rfl (by unfold vN;trivial)
instance:Df B 3 "are_words" (spF B.G zv):=gF4 rfl Y.f.q60 rfl (by unfold zu;trivial)
instance:Df B 1 "has_all" (spF B.G Ce):=gF4 rfl Y.f.q61 rfl (by unfold Cd;trivial)
instance:Df B 2 "is_told_apart" (spF B.G uW):=gF4 rfl Y.f.q62 rfl (by unfold uV;trivial)
instance:Df B 11 "check_words_of_things" (spF B.G qI):=gF4 rfl Y.f.q63 rfl (by unfold qH;trivial)
instance:Df B 2 "check_dark" (spF B.G xW):=gF4 rfl Y.f.q64 rfl (by unfold xV;trivial)
instance:Df B 3 "is_way" (spF B.G EC):=gF4 rfl Y.f.q65 rfl (by unfold EB;trivial)
instance:Df B 4 "check_ways" (spF B.G xY):=gF4 rfl Y.f.q66 rfl (by unfold xX;trivial)
instance:Df B 3 "is_verb" (spF B.G Cg):=gF4 rfl Y.f.q67 rfl (by unfold Cf;trivial)
instance:Df B 4 "check_verbs" (spF B.G wQ):=gF4 rfl Y.f.q68 rfl (by unfold wO;trivial)
instance:Df B 1 "are_apart" (spF B.G sZ):=gF4 rfl Y.f.q69 rfl (by unfold zw;trivial)
instance:Df B 11 "check_vocabulary" (spF B.G sE):=gF4 rfl Y.f.q70 rfl (by unfold sD;trivial)
instance:Df B 12 "check_parts" (spF B.G wU):=gF4 rfl Y.f.q71 rfl (by unfold wR;trivial)
instance:Df B 4 "does" (spF B.G tJ):=gF4 rfl Y.f.q72 rfl (by unfold KJ;trivial)
instance:Df B 4 "refuses" (spF B.G px):=gF4 rfl Y.f.q73 rfl (by unfold Ci;trivial)
instance:Df B 5 "hand_rules" (spN B.G x9):=gN4 rfl Y.f.q74 rfl (by unfold xZ;trivial)
instance:Df B 5 "put_rules" (spN B.G zy):=gN4 rfl Y.f.q75 rfl (by unfold zx;trivial)
instance:Df B 5 "lid_rules" (spN B.G zA):=gN4 rfl Y.f.q76 rfl (by unfold zz;trivial)
instance:Df B 5 "flame_rules" (spN B.G wW):=gN4 rfl Y.f.q77 rfl (by unfold wV;trivial)
instance:Df B 3 "way_tests" (spN B.G zC):=gN4 rfl Y.f.q78 rfl (by unfold zB;trivial)
instance:Df B 5 "go_rules" (spN B.G A4):=gN4 rfl Y.f.q79 rfl (by unfold A3;trivial)
instance:Df B 5 "wait_rules" (spN B.G yb):=gN4 rfl Y.f.q80 rfl (by unfold ya;trivial)
instance:Df B 6 "common_rules" (spN B.G sF):=gN4 rfl Y.f.q81 rfl (by unfold vP;trivial)
instance:Df B 3 "common_verbs" (spN B.G sG):=gN4 rfl Y.f.q82 rfl (by unfold vQ;trivial)
instance:Df B 1 "by_name" (spF B.G Ck):=gF4 rfl Y.f.q83 rfl (by unfold Cj;trivial)
instance:Df B 10 "mosts_by_name" (spF B.G uY):=gF4 rfl Y.f.q84 rfl (by unfold uX;trivial)
instance:Df B 1 "verbs_by_word" (spF B.G u4):=gF4 rfl Y.f.q85 rfl (by unfold uZ;trivial)
instance:Df B 1 "by_verb" (spF B.G Cp):=gF4 rfl Y.f.q86 rfl (by unfold Cn;refine⟨Ib (stW (by kernel_rfl) DP rfl) (IG la rfl (D6 (DU B.G.K (E9 (pvI (by kernel_rfl))))) (pgI (by kernel_rfl)) (CK (FY (Jh B.G.K gr ik kj yB (Ka (pvI (by kernel_rfl)) (Ju (E9 (pvI (by kernel_rfl))) (Ff.p (B:=B))) (IS sj) ⟨rfl,rfl,rfl,rfl⟩) (pW (pvI (by kernel_rfl)) sj))))) (ET (PE.ghost (pvI (by kernel_rfl))))⟩)
instance:Mf B 9 "of_kind" rg:=⟨λc h e=>by
 unfold rg at e;split at e
 ·cases e;exact hF4 (k:=8) Y.f.k14 rfl Y.f.q87 rfl (by unfold u5;trivial)
 ·cases e⟩
instance:Mf B 9 "all_verbs" rL:=⟨λc h e=>by
 unfold rL at e;split at e
 ·cases e;exact hF4 (k:=8) Y.f.k14 rfl Y.f.q88 rfl (by unfold tm;trivial)
 ·cases e⟩
instance:Df B 1 "is_same_text" (spF B.G sH):=gF4 rfl Y.f.q89 rfl (by unfold vR;trivial)
instance:Df B 4 "copy_of" (spF B.G yS):=gF4 rfl Y.f.q90 rfl (by unfold Cq;trivial)
instance:Mf B 9 "thing_of" pq:=⟨λc h e=>by
 unfold pq at e;split at e
 ·cases e;exact hF4 (k:=8) Y.f.k14 rfl Y.f.q91 rfl (by unfold uc;trivial)
 ·cases e⟩
instance:Mf B 9 "most_of" qz:=⟨λc h e=>by
 unfold qz at e;split at e
 ·cases e;exact hF4 (k:=8) Y.f.k14 rfl Y.f.q92 rfl (by unfold u6;trivial)
 ·cases e⟩
instance:Mf B 9 "verb_of" pS:=⟨λc h e=>by
 unfold pS at e;split at e
 ·cases e;exact hF4 (k:=8) Y.f.k14 rfl Y.f.q93 rfl (by unfold u7;trivial)
 ·cases e⟩
instance:Mf B 9 "you" ud:=⟨λc h e=>by
 unfold ud at e;split at e
 ·cases e;exact hF4 (k:=8) Y.f.k14 rfl Y.f.q94 rfl (by unfold zD;trivial)
 ·cases e⟩
instance:Df B 2 "is_by_command" (spF B.G va):=gF4 rfl Y.f.q95 rfl (by unfold u9;trivial)
instance:Df B 10 "is_mark_value" (spF B.G rN):=gF4 rfl Y.f.q96 rfl (by unfold vc;trivial)
instance:Df B 1 "is_said" (spF B.G wc):=gF4 rfl Y.f.q97 rfl (by unfold Cr;trivial)
instance:Df B 10 "is_verb_name" (spF B.G qW):=gF4 rfl Y.f.q98 rfl (by unfold vS;trivial)
instance:Df B 1 "does_or_refuses" (spF B.G qX):=gF4 rfl Y.f.q99 rfl (by unfold tu;trivial)
instance:Df B 11 "is_plain_test" (spF B.G ve):=gF4 rfl Y.f.q100 rfl (by unfold vd;trivial)
instance:Df B 1 "is_test" (spF B.G (qJ 0)):=gF4 (k:=0) rfl Y.f.q101 rfl (by trivial)
instance:Df B 12 "is_test" (spF B.G (qJ 1)):=gF4 (k:=11) rfl Y.f.q101 rfl (by unfold wd;trivial)
instance:Df B 13 "is_test" (spF B.G (qJ 2)):=gF4 (k:=12) rfl Y.f.q101 rfl (by unfold wd;trivial)
instance:Df B 14 "is_test" (spF B.G (qJ 3)):=gF4 (k:=13) rfl Y.f.q101 rfl (by unfold wd;trivial)
instance:Df B 11 "is_deed" (spF B.G we):=gF4 rfl Y.f.q102 rfl (by unfold Cs;trivial)
instance:Df B 16 "are_tests" (spF B.G vT):=gF4 rfl Y.f.q103 rfl (by unfold zE;trivial)
instance:Df B 12 "are_deeds" (spF B.G vU):=gF4 rfl Y.f.q104 rfl (by unfold zF;trivial)
instance:Df B 17 "is_rule" (spF B.G yV):=gF4 rfl Y.f.q105 rfl (by unfold yU;trivial)
instance:Kf B 18 "World" 14 rU []:=gI4 Y.f.k14 Y.f.a14 rfl Y.f.q106 rfl rfl (by unfold qY;trivial)
instance:Mf B 9 "is_dark" tK:=⟨λc h e=>by
 unfold tK at e;split at e
 ·cases e;exact hF4 (k:=8) Y.f.k14 rfl Y.f.q107 rfl (by unfold vf;trivial)
 ·cases e⟩
instance:Mf B 9 "own_marks" rO:=⟨λc h e=>by
 unfold rO at e;split at e
 ·cases e;exact hF4 (k:=8) Y.f.k14 rfl Y.f.q108 rfl (by unfold tw;trivial)
 ·cases e⟩
instance:Mf B 9 "way_words" rP:=⟨λc h e=>by
 unfold rP at e;split at e
 ·cases e;exact hF4 (k:=8) Y.f.k14 rfl Y.f.q109 rfl (by unfold tD;trivial)
 ·cases e⟩
instance:Mf B 9 "rules_to_try" pC:=⟨λc h e=>by
 unfold pC at e;split at e
 ·cases e;exact hF4 (k:=8) Y.f.k14 rfl Y.f.q110 rfl (by unfold rE;trivial)
 ·cases e⟩
instance:Mf B 12 "parts" vV:=⟨λc h e=>by
 unfold vV at e;split at e
 ·cases e;exact hF4 (k:=11) Y.f.k14 rfl Y.f.q111 rfl (by unfold wX;trivial)
 ·cases e⟩
instance:Df B 10 "own_starts" (spF B.G yg):=gF4 rfl Y.f.q112 rfl (by unfold yf;trivial)
instance:Df B 10 "first_value" (spF B.G wZ):=gF4 rfl Y.f.q113 rfl (by unfold wY;trivial)
instance:Df B 13 "first_stand" (spF B.G tL):=gF4 rfl Y.f.q114 rfl (by unfold w5;trivial)
instance:Df B 1 "value_of" (spF B.G xj):=gF4 rfl Y.f.q115 rfl (by unfold A5;trivial)
instance:Df B 2 "at_of" (spF B.G yh):=gF4 rfl Y.f.q116 rfl (by unfold GV;trivial)
instance:Df B 2 "mark_of" (spF B.G se):=gF4 rfl Y.f.q117 rfl (by unfold Ct;trivial)
instance:Df B 1 "with_part" (spF B.G vW):=gF4 rfl Y.f.q118 rfl (by unfold zG;trivial)
instance:Df B 3 "holders_of" (spN B.G rV):=gN4 rfl Y.f.q119 rfl (by unfold yi;trivial)
instance:Df B 10 "room_of" (spF B.G wg):=gF4 rfl Y.f.q120 rfl (by unfold Cu;trivial)
instance:Df B 10 "has" (spF B.G NH):=gF4 rfl Y.f.q121 rfl (by unfold NG;trivial)
instance:Df B 10 "is_shut" (spF B.G Cy):=gF4 rfl Y.f.q122 rfl (by unfold Cv;trivial)
instance:Df B 11 "in_open" (spF B.G wm):=gF4 rfl Y.f.q123 rfl (by unfold CA;trivial)
instance:Df B 12 "burns_in" (spF B.G A7):=gF4 rfl Y.f.q124 rfl (by unfold A6;trivial)
instance:Df B 13 "is_lit" (spF B.G A8):=gF4 rfl Y.f.q125 rfl (by unfold EE;trivial)
instance:Df B 14 "is_seen" (spF B.G yW):=gF4 rfl Y.f.q126 rfl (by unfold CB;trivial)
instance:Df B 10 "is_of_way" (spF B.G vX):=gF4 rfl Y.f.q127 rfl (by unfold zH;trivial)
instance:Df B 11 "things_of" (spF B.G qh):=gF4 rfl Y.f.q128 rfl (by unfold zI;trivial)
instance:Df B 12 "meant" (spF B.G rW):=gF4 rfl Y.f.q129 rfl (by unfold GW;trivial)
instance:Df B 10 "at_parts" (spF B.G Ba):=gF4 rfl Y.f.q130 rfl (by unfold A9;trivial)
instance:Df B 10 "mark_parts" (spF B.G yk):=gF4 rfl Y.f.q131 rfl (by unfold yj;trivial)
instance:Df B 11 "can_go" (spF B.G EG):=gF4 rfl Y.f.q132 rfl (by unfold EF;trivial)
instance:Df B 11 "can_show" (spF B.G Bc):=gF4 rfl Y.f.q133 rfl (by unfold Bb;trivial)
instance:Mf B 14 "holds" (o9 0):=⟨λc h e=>by
 unfold o9 uG at e;split at e
 ·cases e;exact hF4 (k:=13) Y.f.k3 rfl Y.f.q134 rfl (by unfold Bd;trivial)
 ·cases e;exact hF4 (k:=13) Y.f.k4 rfl Y.f.q135 rfl (by unfold zJ;trivial)
 ·cases e;exact hF4 (k:=13) Y.f.k6 rfl Y.f.q136 rfl (by unfold vY;trivial)
 ·cases e;exact hF4 (k:=13) Y.f.k7 rfl Y.f.q137 rfl (by unfold ym;trivial)
 ·cases e;exact hF4 (k:=13) Y.f.k8 rfl Y.f.q138 rfl (by unfold yn;trivial)
 ·cases e;exact hF4 (k:=13) Y.f.k15 rfl Y.f.q139 rfl (by unfold zK;trivial)
 ·cases e⟩
instance:Mf B 15 "holds" (o9 1):=⟨λc h e=>by
 unfold o9 at e;split at e
 ·cases e;exact hF4 (k:=14) Y.f.k9 rfl Y.f.q140 rfl (by unfold vZ;trivial)
 ·cases e;exact hF4 (k:=14) Y.f.k10 rfl Y.f.q141 rfl (by unfold uF;trivial)
 ·exact(Mf.p (B:=B) (g:=o9 0) c h e).mono rfl⟩
instance:Mf B 16 "holds" (o9 2):=⟨λc h e=>by
 unfold o9 at e;split at e
 ·cases e;exact hF4 (k:=15) Y.f.k9 rfl Y.f.q140 rfl (by unfold vZ;trivial)
 ·cases e;exact hF4 (k:=15) Y.f.k10 rfl Y.f.q141 rfl (by unfold uF;trivial)
 ·exact(Mf.p (B:=B) (g:=o9 0) c h e).mono rfl⟩
instance:Mf B 14 "done" uI:=⟨λc h e=>by
 unfold uI at e;split at e
 ·cases e;exact hF4 (k:=13) Y.f.k11 rfl Y.f.q142 rfl (by unfold zL;trivial)
 ·cases e;exact hF4 (k:=13) Y.f.k12 rfl Y.f.q143 rfl (by unfold Bf;trivial)
 ·cases e⟩
instance:Df B 10 "is_object" (spF B.G tE):=gF4 rfl Y.f.q144 rfl (by unfold zM;trivial)
instance:Df B 11 "fits_form" (spF B.G zO):=gF4 rfl Y.f.q145 rfl (by unfold zN;trivial)
instance:Df B 12 "is_command" (spF B.G yq):=gF4 rfl Y.f.q146 rfl (by unfold yp;trivial)
instance:Df B 13 "check_command" (spF B.G qB):=gF4 rfl Y.f.q147 rfl (by unfold vg;trivial)
instance:Df B 17 "fits" (spF B.G Bh):=gF4 rfl Y.f.q148 rfl (by unfold FM;trivial)
instance:Df B 15 "outcome" (spF B.G wo):=gF4 rfl Y.f.q149 rfl (by unfold yX;trivial)
instance:Df B 18 "answered" (spF B.G uJ):=gF4 rfl Y.f.q150 rfl (by unfold xk;trivial)
instance:Df B 19 "step" (spF B.G qx):=gF4 rfl Y.f.q151 rfl (by unfold FN;trivial)
instance:Df B 1 "_law_cell_at" (spF B.G qj):=gF4 rfl Y.f.q152 rfl (by unfold v3;trivial)
instance:Df B 1 "_law_digit" (spM B.G oh):=gM4 rfl Y.f.q153 rfl rfl (by unfold rX;trivial)
instance:Df B 3 "_law_test" (spM B.G qK):=gM4 rfl Y.f.q154 rfl rfl (by unfold rF;trivial)
instance:Df B 4 "_law_rules" (spM B.G uL):=gM5 ["_law_state", "_law_verb", "_law_rules_here", "_law_due_here", "_law_k", "_law_tests", "_law_text", "_law_refuses", "_law_deeds", "_law_facts_told", "_law_test_here", "_law_facts"] rfl Y.f.q155 rfl rfl (by unfold uK;trivial)
instance:Df B 3 "_law_due" (spF B.G qF):=gF4 rfl Y.f.q156 rfl (by unfold xl;trivial)
instance:Df B 20 "_law_world" (spF B.G uN):=gF4 rfl Y.f.q157 rfl (by unfold uM;trivial)
theorem K2:Bdz B (nmO (top 162)) "law" (top 162) (oY (top 162)) 20 EK:=by
 unfold EK;refine Eu ?_ ?_
 all_goals trivial
end
end K35x
namespace K35x
open PySem L2 L3 L4
def G2(K:ak):Sp:=λvs H Q _=>∃(a:Addr) (ns:List Int),vs=[.ref a]/\SqL K H a (ns.map V.int)/\ns.length<=63/\∀H',Q (.bl true) H'
theorem CH{G:Bg}{H:Hp}:∀ns:List Int,og G H (ns.map D.int) (ns.map V.int)
 |[]=>oV
 |n::ns=>oZ (pY n) (CH ns)
theorem M6{G:Bg}:∀vs H Q E,G2 G.K vs H Q E->spF G NI vs H Q E:=λvs H Q E h=>by obtain⟨a,ns,rfl,hs,hl,k⟩:=h;refine⟨H,[.fzl (ns.map D.int)],.bl true,oA.refl _,oZ (by unfold L4.Rep;exact⟨a,_,rfl,hs,CH ns⟩) oV,Rx ns hl,λv H0' H' _ _ _ _ r=>?_⟩;unfold L4.Rep at r;subst r;exact k H'
section
variable{K:ak}{x m q:Str}{st:Stmt}{f C:Addr}{oc:aa}{od:Option Addr}{kV doc pm:aa}{an:Option Addr}{cdv ct:aa}{osl:Array (Option aa)}
theorem K4(lk:K.lookup f=some ⟨oc,od,.func (cY x q (qM st) (oY st) (oH st) .none kV doc pm an cdv ct),osl⟩)(hc:eV K cdv q=true)(kp:cA K (.ref f)=true):∃fd,Fun K x q st f fd:=⟨_,⟨_,_,_,_,_,_,_,_,_,rfl,lk,hc⟩,kp⟩
theorem gd_mk(h:fV K aC x=some (some (.ref f)))(lk:K.lookup f=some ⟨oc,od,.func (cY x x (qM st) (oY st) (oH st) .none kV doc pm an cdv ct),osl⟩)(hc:eV K cdv x=true)(kp:cA K (.ref f)=true):GD K x st:=⟨f,(K4 lk hc kp).imp λ_ F=>⟨h,F⟩⟩
theorem gm_mk(h:bV K (.ref C) m=some (some (.ref f)))(hf:gW K (.ref f)=true)(lk:K.lookup f=some ⟨oc,od,.func (cY m q (qM st) (oY st) (oH st) .none kV doc pm an cdv ct),osl⟩)(hc:eV K cdv q=true)(kp:cA K (.ref f)=true):GM K C m q st:=⟨f,(K4 lk hc kp).imp λ_ F=>⟨h,hf,F⟩⟩
end
variable{l:gS}
theorem all_mk{w:aj}{K:ak}{h:Heap}{mg:Str->Option aa}{fa:Addr}(X:K.In h)(Gn:h.Ns aC mg)(hfa:mg "law" = some (.ref fa)){C0 C1 C2 C3 C4 C5 C6 C7 C8 C9 C10 C11 C12 C13 C14 C15:Addr}(F:Fx K C0 C1 C2 C3 C4 C5 C6 C7 C8 C9 C10 C11 C12 C13 C14 C15):
  ∃fd:bq,(∀(s:ab) (v:aa),eW s fd ⟨[v],[]⟩ [("_law_script", v)])/\∀base:Heap,K.In base->base.Ns aC mg->qZ l.prog w K mg base CX0 21 fa fd ["_law_script"] (G2 K):=by
 have gen:∃B:Bg,B.K=K/\B.ca 0=C0/\B.ca 1=C1/\B.ca 2=C2/\B.ca 3=C3/\B.ca 4=C4/\B.ca 5=C5/\B.ca 6=C6/\B.ca 7=C7/\B.ca 8=C8/\B.ca 9=C9/\B.ca 10=C10/\B.ca 11=C11/\B.ca 12=C12/\B.ca 13=C13/\B.ca 14=C14/\B.ca 15=C15:=⟨⟨K,λc=>[C0,C1,C2,C3,C4,C5,C6,C7,C8,C9,C10,C11,C12,C13,C14,C15].getD c 0⟩,rfl,rfl,rfl,rfl,rfl,rfl,rfl,rfl,rfl,rfl,rfl,rfl,rfl,rfl,rfl,rfl,rfl⟩;obtain⟨B,rfl,rfl,rfl,rfl,rfl,rfl,rfl,rfl,rfl,rfl,rfl,rfl,rfl,rfl,rfl,rfl,rfl⟩:=gen;have Z:∀base,Yx ⟨l.prog,w,mg,base,B⟩:=λbase=>⟨⟨h,X,Gn⟩,F⟩;obtain⟨f,fd,a,FF⟩:=F.q158;have e:=hfa.symm.trans (fT X Gn a);cases e;obtain⟨oc,od,kV,doc,pm,an,cdv,ct,osl,rfl,lk,hcd⟩:=FF.ex;exact⟨_,λs v=>.of_eq rfl,λbase _ _=>(JP rfl rfl rfl FF (okk (N:=nmO (top 162)) (ps:=["_law_script"]) (np:=1) (n:=13) (by kernel_rfl)).1 ((@K2 _ (Z base)).ok rfl _)).imp (M6 (G:=B))⟩
theorem walk{q:aq}{loose:List Str}{XP:(Str->Option aa)->Heap->Prop}{YP:aj->Heap->Prop}{d:DefRec}{K:fU->ak}(hn:l.most=some 63)(hdf:d.params.defaults=[])
  (hY:∀(w:aj) (h:Heap),YP w h->(K w.params).In h)
  (F:∀(w:aj) (mg:Str->Option aa) (fa:Addr) (h:Heap),(K w.params).In h->h.Ns aC mg->mg d.name=some (.ref fa)->
   ∃fd:bq,(∀(s:ab) (u:aa),eW s fd ⟨[u],[]⟩ [("_law_script", u)])/\∀base:Heap,(K w.params).In base->base.Ns aC mg->qZ l.prog w (K w.params) mg base CX0 21 fa fd ["_law_script"] (G2 (K w.params))):
  W.WalkO q loose XP YP l.row.toRowW d [] (λf vs=>jq f vs):=
 L2.LA (n:=63) (k:=21) (x:="_law_script") (CX:=λ_=>CX0) (sp:=λw=>G2 (K w.params)) hn (by decide) hdf ⟨rfl,by decide,by decide⟩ hY F (λ_ _ a ns hl _ hS=>⟨a,ns,rfl,hS,hl,λ_=>rfl⟩) λ_ _ _ _ _ z=>z
end K35x
set_option maxHeartbeats 0
open PySem PySem.W PyProof.Rows
theorem PySem.Challenge.cw_tellworld_k35_the_first_rule_that_fits_holds : PySem.Challenge.rw_tellworld_k35_the_first_rule_that_fits.Holds := by
 refine hd ?_
 k_fill
 refine K35x.walk (l:=PySem.Challenge.rw_tellworld_k35_the_first_rule_that_fits) rfl rfl (λw h Y=>Y) ?F
 case F=>
  intro w mg fa h KX G hmg;refine' K35x.all_mk KX G hmg ?Q
  case Q=>
   constructor
   all_goals as_aux_lemma=>first
   |k_is
   |kernel_rfl
   |exact⟨⟨⟨by k_is,by k_is,by k_is,by k_is⟩,by k_is,by k_is,by k_is,by k_is⟩,by k_is,by k_is,by kernel_rfl⟩
   |exact⟨_,by k_is⟩
   |exact K35x.gd_mk (by k_is) (by k_is) (by k_is) (by k_is)
   |exact K35x.gm_mk (by k_is) (by k_is) (by k_is) (by k_is) (by k_is)
   |exact⟨_,_,_,_,by k_is,by k_is,by rfl,by rfl,by simp,by repeat' first|exact .nil|exact .cons rfl .nil|refine .cons rfl ?_⟩
   |exact⟨_,_,_,_,[_],_,by k_is,by k_is,⟨⟨_,_,_,_,_,_,_,_,_,rfl,by k_is,by k_is⟩,by k_is⟩,by k_is,by rfl,.cons (by first|rfl|exact⟨_,rfl⟩) .nil⟩
   |exact⟨_,_,_,_,[_,_,_],_,by k_is,by k_is,⟨⟨_,_,_,_,_,_,_,_,_,rfl,by k_is,by k_is⟩,by k_is⟩,by k_is,by rfl,.cons (by first|rfl|exact⟨_,rfl⟩) (.cons (by first|rfl|exact⟨_,rfl⟩) (.cons (by first|rfl|exact⟨_,rfl⟩) .nil))⟩
end
