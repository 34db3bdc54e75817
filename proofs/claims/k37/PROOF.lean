import PyProof.Rows.All
import Open.Pieces
import OpenK.KLine
import PySem.Challenge.RW_tellworld_k37_unseen_things
import PyProof.EqAt
import PyProof.EqKinds
import PyProof.TupleCall
import PyProof.StrWalks
import PyProof.ConsumeWalk
import PyProof.NeKinds
import PyProof.Rows.SetFrom
import KE.KIsAll
import PyProof.WalksMore
import PyProof.TupleKey
import PyProof.DictWalks
import PyProof.Rows.ZipGen
import KE.KDictLaws
import PyProof.DictItems
import KE.KSortTup
import PyProof.TupleOfSeq
import PyProof.Rows.SortStr
import PyProof.Rows.StrInSeq3
import PyProof.TupleIter
import KE.KDictOf
import PyProof.CollectWalk
import PyProof.Rows.SeqMore
set_option genSizeOf false
local macro_rules (kind:=Lean.Parser.Command.declaration)|s=>do
 if s.getPos?.isNone||s[1][1][0].getId.getRoot== `PySem then Lean.Macro.throwUnsupported
 let s:=s.rewriteBottomUp (·.setInfo .none)
 if s[1].getKind∈[``Lean.Parser.Command.definition,``Lean.Parser.Command.abbrev,``Lean.Parser.Command.instance]&&s[0][4].isNone then
  return s.setArg 0 (s[0].setArg 4 (Lean.mkNullNode #[Lean.Syntax.node .none ``Lean.Parser.Command.noncomputable #[Lean.mkAtom "noncomputable"]]))
 return s
set_option compiler.extract_closed false
noncomputable section
open Option renaming some->Z,none->J
open Bool renaming true->γ,false->δ
def O{α:Sort _}{a:α}:a=a:=rfl
open List renaming length_map->ah,length_append->aE,mem_map->au,getElem?_eq_getElem->bh,mem_cons_of_mem->ba,length_cons->aN,mem_cons_self->bb,all_eq_true->aS,mem_append->aT,map_cons->aJ,mem_singleton->bj,size_toArray->bg,mem_cons->aL,mem_filter->aY,mem_append_right->bx,map_map->aZ,mem_append_left->bF,getElem?_map->bA,map_append->bu,getElem?_eq_some_iff->cj,range->aU,mem_of_getElem?->cn,length_filter_le->cu,mem_range->bL,getD_eq_getElem?_getD->cX,append_assoc->bX,append_nil->bR,length_singleton->cF,getElem?_set->b8,length_take->bY,nodup_append->cp,nil_append->bZ,mem_map_of_mem->cG,replicate->bU,length_replicate->cY,length_range->cH,not_mem_nil->cA,getElem?_append_right->fQ,getElem?_append_left->fR,filterMap_cons->eD,nodup_cons->dB,mem_flatMap->dR,getElem?_drop->fj,zip_cons_cons->fm,flatMap_cons->fw,replicate_succ->fS,length_set->eJ,find?_cons->eK,getElem?_eq_none->gB,getElem_mem->fz,length_drop->fA,lookup_cons->fC,any_eq_true->fD,length->dh,length_nil->fE,zipWith_cons_cons->iu,take_of_length_le->iw,lookup->dE,drop_eq_getElem_cons->jn,flatten_cons->gG,mem_of_mem_take->iz,mergeSort_perm->iB,getElem?_replicate->jr,length_eq_zero_iff->js,filter_cons->gL,pairwise_mergeSort->jt,getElem?_set_self->jv,mem_filterMap->iC,map_nil->fJ,length_pos_of_mem->jw,any_cons->f6,getElem?_toArray->jx,take_sublist->iG,attach_map_subtype_val->kG,perm_append_singleton->kH,zipWith->gh,filter_sublist->jA,all_cons->gW,map->dH,foldl_cons->iK,length_zip->iM,filter_cons_of_pos->kM,pairwise_map->jG,contains_iff_mem->kN,map_take->iP,getElem?_set_ne->kP,mem_iff_getElem->kQ,map_id->gZ,of_mem_zip->jK,length_zipWith->kW,getElem_of_mem->kX,map_eq_nil_iff->kY,map_congr_left->kZ,ext_getElem?->lj,take_add_one->lq,length_erase_of_mem->oh,zip_map'->jO,getElem_inj->lD,filter_cons_of_neg->oo,cons_append->lQ,drop_eq_nil_of_le->ox,zip_append->lZ,filterMap_append->oI,nodup_nil->ma,mem_of_mem_drop->oO,mem_erase_of_ne->oP,length_eraseIdx->oQ,getElem?_range->oX,filter_eq_self->oY,length_pos_iff->oZ,map_drop->mm,contains_cons->pe,find?_eq_none->pq,map_filterMap->px,any_eq_false->pA,foldl_append->pF,nodup_range->p6,find?_some->qf,foldl->mX,drop_zero->qz,drop_nil->qH,all_map->qN,rec->rD
open PySem renaming wpAny_bind->af,Value->ab,wpAny_pure->ar,Shared->ae,wpAny->ai,starEach->aC,mainGlobals->bf,sizeLine->aG,Program->aH,wpAny_holding->bP,Around->aI,World->az,compareOp->bz,sizeLine_eq->bS,wpAny_setState_of->df,Spec->uI,SetTable->bC,wpAny_truthy_bool->dy,wpAny_Call_Name_kw->dP,wpAny_mono->b9,assignEach->cc,wpAny_newObj_type->dQ,codeAny_builtin->dS,FuncData->bV,backTo->bE,strKind->dX,wpAny_pyIter_list->fT,bootBuiltins->dY,wpAny_call_entry->fW,wpAny_passesOwn->fY,binaryOp->cJ,keywordEach->d8,sysModules->dF,attributeBase->fI,codeAny->cw,mem_of_lookup->iA,letOwnedTupleGo->gQ,wpAny_specialOf->gR,behindInMarks->fZ,swapsWith->dG,plainId_quiet->f7,foldedSetIterable->iF,ofAClassStatement->iH,wpAny_setField->gU,filterMap_getElem?_range->kK,tupleKind_room_in1->jC,codeAny_mono->gX,NameKind->ee,call_meetsIn->gY,wpAny_Call_method->jE,wpAny_storeSet_of->jI,Builtin->dJ,wpAny_execs_nil->jJ,isSubtype_type->jM,wpAny_rule->hG,Scope->cK,wpAny_standAt->jN,GenState->gn,wpAny_callSpecial?_slot->om,wpAny_forIn_list->lE,wpAny_askSetting->lG,Paired->hJ,wpAny_pyNext_list_item->oq,wpAny_typeOf->jQ,Keyword->fL,call_meets->iY,wpAny_updateSeq->l3,wpAny_isTrue_Compare1->oF,wpAny_pyNext_list_end->oG,wpAny_eqIsQuiet_tuple->oH,builtinLookup_eq_fast->oJ,carriedByValue->l5,wpAny_seqItems->l8,codeAny_call_builtin->oN,typeIs_none->jU,wpAny_newList->ml,wpAny_pyIter_tuple->o9,wpAny_call->jW,IsPart->fM,Within->mC,BindsTo->hZ,seqIndex_neg->mJ,slot_list_getitem->pC,wpAny_pyIter_slot->pJ,fits_of_scanBound->pK,wpAny_setEpoch_of->pL,wpAny_pyHash_str->pO,wpAny_execs_cons->pQ,PassesOwn->jX,Result->gp,noFill_tuple_add->pT,wpAny_isInstance->p8,wpAny_field->mO,seqIndex_of->mQ,codeAny_of_tree->qb,typeLookup_type->qh,wpAny_Name->mT,typeIs_int->mV,PlainAttrs->mW,meets_dict_get->qq,call->mY,wpAny_runValue->qr,boot_len->qt,wpAny_newTuple->qu,entryFor_alias->qy,KeyKind->qA,intBits_le_64->qB,seq_tuple_add->qC,evalPart_none->qD,call_list_seq->qE,signature?_of->qJ
open PySem.Heap renaming get?_push_of_some->aK,get?_push_size->br,lt_size->aR,size_push->cZ,get?_update_self->fi,get?_update_other->gA,SameBut->dD,ExtBut->rb
open Bool renaming and_eq_true->aW,false_ne_true->bq,eq_iff_iff->dg,false_eq_true->eG,not_eq_true'->fq,or_eq_false_iff->kR,or_eq_true->jL,eq_false_iff->lu,not_eq_true->pZ,and_false->qp,false_or->qF,not_true->qG,rec->m7
open Nat renaming le_refl->aO,ne_of_lt->bc,le_trans->bD,lt_of_lt_of_le->cv,zero_le->cq,lt_succ_self->dA,lt_succ_of_lt->eI,lt_irrefl->eO,le_add_right->gO,ble_eq->eQ,ne_of_gt->gb,lt_of_le_of_lt->jD,le_of_ble_eq_true->kO,mod_lt->gj,le_of_lt->iQ,min_self->iR,le_succ->iW,ble->eU,add_right_comm->o6,zero_add->mx,succ_pos->mK,le_of_lt_succ->pG,le_of_succ_le->pN,min_le_right->pV,le_of_not_lt->pX,min_eq_left->qk,beq->i3,le_of_eq->qL,sub_self->qM,pow_succ->qQ
open Array renaming length_toList->bO,getD_eq_getD_getElem?->gx,getElem?_toList->ix,getElem?_eq_getElem->jo,getElem?_eq_some_iff->n4,perm_iff_toList_perm->n8,toList_push->ly,size_eq_one_iff->oK,forIn_toList->pf,replicate->qg,size_map->qx,toList->qK,map->rA
open PySem.W renaming Frag->av,kia_one->cO,emptyDict->dZ,findIn->cP,kitOne->di,instObj->eS,keepIn->d9,kitx_list->iV,kitx_dict->jS,fnOf->eV,codeIn->hU,OpenLaw->hX,plainGet_of->mf,callWith_K0->mh,plainGet->jV,kitx_tuple->mF,callWith_K->mI,cellsFrom_some->pS,methodObj->mM,hasDictIn->mN,methodCall_KW->qa,mg_of->i6,lookIn->jY,looks_findIn->qm,kas_sort->jZ,makes_of->mZ,takerIn->m3,makesIn->m5,kas_ask->j1,nsIn->i7,plainOver->qU,make_core->qV,specialIn->qW,kitx_none->qX,kitx_bool->qY,isFn->j2
open Int renaming eq_ofNat_of_zero_le->cE,toNat_natCast->gE,emod_lt_of_pos->iE,emod_nonneg->iN,toNat_of_nonneg->o4
open PyProof.Rows.F renaming plain_set_update_loop->dO,entry_set_update_loop->gz
open Option.some renaming inj->cI,injEq->uA
open PySem.Heap.SameBut renaming update->dw,refl->uE
open PySem.SetTable.layClean renaming free->eB
open PySem.Around renaming under_plainId->eC,under->mG
open Prod renaming snd->bH,fst->cQ
open PySem.SetTable renaming bits->cM,below->dU,grown->dW,runEnd->fG,Probe->fH,insertAt->gH,turns->gS,fits->iO,advance->lI,insertAt_perm->oE,laid->mr,fill->mw,layClean->pH,has->qP
open PySem.Calls renaming spliced_cons->eE,spliced_nil->fV,callWith_builtin->ir,evalArgs_plain->iy,Name_function_global->nY,call_function_entry->oa
open PySem.Builtin.List renaming listTooLong->gy,listExtendWith->nW,listLengthHint->nX,listSameRef->oj
open PySem.Obj renaming data_mapFields->fo,mapSeq->cN,mapFields->f9,isFreed_of_fields->jy,putSet->hE,cls_mapFields->lC
open Classical renaming propDecidable->iq,byContradiction->oe
open False renaming elim->c9
open PySem.F renaming slot_dict_get->fF,called_set->fK,slot_NoneType_hash->jz,entry_dict_get->iJ,slot_list_extend->jB,plainAttrs_dict->jF,plainAttrs_list->jH,sub_list_frozenset->kT,slot_list_append->lg,args_dict_get_2->lp,slot_dict_setdefault->oA,type_dict_get->lY,args_list_extend_2->oM,sub_list_set->l9,entry_list_extend->oW,args_tuple_add_2->pb,type_list_append->ph,type_list_extend->pj,entry_tuple_add->pB,args_dict_get_3->pE,plain_list_iadd->pM,slot_tuple_add->pU,slot_int_rmul->p9,plain_set_new->qc,slot_set_iter->qj
open PyProof.Rows renaming slot_tuple_getitem->jl,StrsAre->kU,AllBare->eT,subscriptTail_builtinR->ou,boot_isinstance->l4,listUpdate_at->mj,seqEpoch_at->mR,get?_update_seq->qd,entry_list_sort->qe,IntsAre->i4,slicePart_none->qo,Subscript_->mU,slot_list_sort->qv,args_list_sort->qw,IsTup->gq,lt_str->uu
open PySem.Builtin.Slice renaming slicePlaces->jm,sliceAdjust->kI,sliceApplied->nZ,slicePartIndex->sC,sliceFields->sT
open Option renaming map_some->fX,bind_eq_some_iff->ju,getD_none->pW,getD_some->pY,map->rq
open PySem.Builtin.Tuple renaming tupleExact->jq,tupleItemsOf->sF
open PySem.SetTable.probe renaming go->iI
open PySem.Value renaming isStrOf->gV,isInt->qT
open List.Perm renaming eq_of_pairwise->kJ
open Ne renaming symm->dj
open Nat.succ renaming inj->iU
open LawfulBEq renaming eq_of_beq->gm
open PySem.SeqAt.EqAt renaming str_str->la,of_refs->lh,same->lX,none_int->oR,none_str->oT,int_none->oU,str_none->oV,int_str->o7,str_int->o8,tuple_none->tN,tuple_bool->tP,tuple_list->tQ,list_tuple->tR,none_tuple->tS,bool_tuple->tT,none_bool->tU,bool_none->tV,bool_bool->tW,tuple_int->tX,tuple_str->tY,list_none->tZ,list_bool->ua,none_list->uc,bool_list->ud,int_tuple->ue,str_tuple->uf,bool_int->ug,bool_str->uh,int_bool->ui,str_bool->uj,list_int->uk,list_str->um,int_list->uo,str_list->uq,int_int->uw
open PySem.AutoSeq1 renaming wpAny_loadPart'->og
open PySem.Str renaming ofString->jP
open PySem.SeqAt renaming EqAt->iX,notIn_listAt->pd
open PySem.Walks renaming list->iZ
open Sum.inr renaming inj->jR
open PySem.Moved renaming trans->jT
open PySem.Paired renaming length->md,snoc->q8
open PySem.Shared renaming TypeIs->mi
open PySem.Heap.IsList renaming extBut->pz
open PySem.Code renaming isFrame->mH,frames->qZ
open PySem.SetTable.below renaming go->pI
open Subtype renaming val->mS
open PySem.Builtin.Frozenset renaming updateFrom->sE,newClass->sH,sizeOf->tJ,slot0->tL
open PySem.PassesOwn renaming never->ql
open PySem.SeqAt.RcNeAt renaming lists_lengths->sG,tuples->ur,lists->ux
open PySem.EqNone renaming eq_none_none->sI,eq_none_bool->sJ,eq_bool_none->sL,ne_none_none->sO,ne_none_bool->sP,ne_bool_none->sQ,eq_none_int->sU,eq_none_str->sV,eq_int_none->sW,eq_str_none->sY,ne_none_int->tu,ne_none_str->tw,ne_int_none->tD,ne_str_none->tG
open PySem.EqMixed renaming eq_bool_str->sM,eq_str_bool->sN,ne_bool_str->sR,ne_str_bool->sS,eq_int_str->sX,eq_str_int->sZ,ne_int_str->tE,ne_str_int->tH
open PySem.SeqAt.RcAt renaming lists_lengths->tI,tuples->uC,lists->uG
open PySem.Pv renaming boot_tuple->qI,boot_list->qO,boot_set->q9,boot_int->ra
open PySem.Builtin.Range renaming rangeSize->tK
open PyProof.Rows.IsTup renaming new->m6
open PySem.pickOrder renaming go->qR
open Prod.mk renaming inj->qS
open PySem.Heap.IsSliceOf renaming new->uv
open PySem.W.WShape renaming has->rj
open List.Sublist renaming nodup->uy,refl->uF
open PySem.Within renaming cons->uz
open PySem.Txt renaming mul->m8
open List.Pairwise renaming map->uD
open PySem.Heap.DictOf renaming new->uH
def ak:=@if_pos
def ao:=@if_neg
def aX:=@decide_eq_false
def aV:=@decide_eq_true
def aq:=@absurd
def bB:=@of_decide_eq_true
def bQ:=@decide_eq_true_eq
def bG:=@congrArg
def Eq.t:=@Eq.trans
def Iff.t:=@Iff.trans
def List.Perm.t:=@List.Perm.trans
def PySem.Heap.SameBut.t:=@PySem.Heap.SameBut.trans
def PySem.Moved.t:=@PySem.Moved.trans
abbrev cD:=List (PySem.Addr×PySem.Obj)
abbrev aF:=List PySem.Str
set_option Elab.async false
set_option linter.all false
namespace L5
open PySem PySem.W
noncomputable def D'(l:List Obj):Nat->List Addr->List Obj:=
 @rD Obj (λ_=>Nat->List Addr->List Obj) (λ_ _=>[])
  (λo _ b i as=>@rD Addr (λ_=>List Obj) [] (λa r _=>@m7 (λ_=>List Obj) (b (Nat.succ i) as) (o::b (Nat.succ i) r) (i3 a i)) as) l
def RV(i:Nat)(as:List Addr):D' [] i as=[]:=rfl
def Vu(o:Obj)(l:List Obj)(i:Nat)(r:List Addr):D' (o::l) i (i::r)=o::D' l (i+1) r:=by show @m7 (λ_=>List Obj) _ _ (i3 i i)=_;rw[Nat.beq_refl];rfl
def Vv(o:Obj)(l:List Obj)(i a:Nat)(r:List Addr)(h:a≠i):D' (o::l) i (a::r)=D' l (i+1) (a::r):=by
 show @m7 (λ_=>List Obj) _ _ (i3 a i)=_;have:i3 a i=δ:=by
  cases q:i3 a i with
  |false=>rfl
  |true=>exact aq (Nat.eq_of_beq_eq_true q) h
 rw[this];rfl
theorem Lo:∀(l:List Obj) (i:Nat) (as:List Addr),(D' l i as).length=as.length->∀j (c:j<as.length),∃b,as[j]=i+b/\l[b]?=(D' l i as)[j]?
 |[],i,as,h,j,c=>by rw[RV]at h;simp at h;omega
 |o::l,i,[],h,j,c=>by simp at c
 |o::l,i,a::r,h,j,c=>by
  by_cases q:a=i
  .subst q;rw[Vu]at h ⊢;cases j with
   |zero=>exact⟨0,O,O⟩
   |succ j=>obtain⟨b,d,e⟩:=Lo l (a+1) r (by simpa using h) j (by simpa using c);exact⟨b+1,by rw[List.getElem_cons_succ,d];exact o6 a 1 b,by simpa using e⟩
  .rw[Vv _ _ _ _ _ q]at h ⊢;obtain⟨b,d,e⟩:=Lo l (i+1) (a::r) h j c;exact⟨b+1,by rw[d];exact o6 i 1 b,by simpa using e⟩
def live(o:Obj):Bool:=match o with|⟨_,_,.freed,_⟩=>δ|_=>γ
def Vw{h:Heap}{as:List Addr}{K:Frag}(e:as=K.map (·.1))(x:(D' h.objs.toList 0 as,K.all λp=>live p.2)=(K.map (·.2),γ)):K.In h:=by
 obtain⟨i,r⟩:=qS x;refine Frag.in_of e (lj λj=>?_);rw[bA,bA];by_cases a:j<as.length
 .have q:(D' h.objs.toList 0 as).length=as.length:=by rw[i,e,ah,ah]
  obtain⟨b,l,m⟩:=Lo _ _ _ q j a;have f:j<K.length:=by rw[e,ah]at a;exact a
  rw[bh a,bh f,fX,fX,l,mx];have o:h.objs[b]?=Z (K[j].2):=by rw[<-ix,m,i,bA,bh f];rfl
  have lv:live K[j].2=γ:=aS.1 r _ (fz f);refine bG Z ?_;unfold Heap.get?;rw[o];revert lv;cases K[j].2 with
  |mk c d data t=>cases data<;>intro lv<;>first|rfl|cases lv
 .rw[gB (by omega),gB (by rw[e,ah]at a;omega)];rfl
noncomputable def acb(K:Params->Frag) (as:List Addr) (e:∀P,as=(K P).map (·.1)):Hook:=
 ⟨List Obj×Bool,λs=>(D' s.heap.objs.toList 0 as,γ),λw=>((K w.params).map (·.2),(K w.params).all λp=>live p.2),InK K,λw s x=>Vw (e w.params) (by
  obtain⟨a,b⟩:=qS x;rw[a,<- b]),InK.keeps⟩
end L5
section
open PySem PySem.W PyProof.Rows
local macro_rules|`(tactic|o_head ($f:ident $k $as $e))=>`(tactic|o_head ((L5.acb $k $as (fun _=>by kernel_rfl)):W.Hook))
local macro_rules|`(command|#where)=>do
 let mut r:=#[]
 for n in [43:1709] do
  let x:=Lean.mkIdent (.mkSimple s!"tw{((Lean.Name.mkSimple "hd").str s!"o_{n}").hash}")
  r:=r.push ((<-`(command|noncomputable def $x:ident:=0)).raw.rewriteBottomUp (·.setInfo .none))
 return Lean.mkNullNode r
noncomputable section
namespace PySem.W.Fast
def tw15111928227656294813:=0
def tw15838607952813230112:=0
def tw14019881755177166336:=0
def tw3053750849978692993:=0
def tw442426154228614435:=0
def tw9586530580320156388:=0
def tw2195466600730450949:=0
def tw5164215015781942341:=0
def tw4738809144493168741:=0
def tw18090264274711557029:=0
def tw10686047710926766374:=0
def tw4019536504594846887:=0
def tw12428158363243832775:=0
def tw10374632558016547081:=0
def tw10156996719512802506:=0
def tw938635154573522699:=0
def tw8726500145642417389:=0
def tw16828129974981846989:=0
def tw7774113678449685934:=0
def tw7779248424791100879:=0
def tw14820581166966647791:=0
def tw10203300007123444082:=0
def tw2020029945253560339:=0
def tw861502493610598483:=0
def tw10575032129230884467:=0
def tw55536753830339475:=0
def tw9040558253995353078:=0
def tw8917917961894373751:=0
def tw16286755969882107640:=0
def tw13084661642996705785:=0
def tw15868113528992853466:=0
def tw13625530754347173179:=0
def tw2706584449700448635:=0
def tw5114918623987374716:=0
def tw1745904855532632988:=0
def tw13192593203697643614:=0
def tw329941283463616030:=0
def tw2971596502417355958:=0
def tw8591419872559144631:=0
def tw4353429745373954029:=0
def tw526603720282978120:=0
def tw5684239964104253501:=0
def tw12140563180475188368:=0
def tw1189735608061841266:=0
def tw8997383693586321770:=0
def tw13347621489011750686:=0
def tw5486008376365147428:=0
def tw9942697423348921712:=0
def tw13823908486322433141:=0
def tw11420276864471383886:=0
def tw1557068044175049091:=0
#where
end PySem.W.Fast
end
def zvp:=PySem.Challenge.pw_tellworld_k37_unseen_things
noncomputable def zvq:=PySem.W.view zvp [174]
local macro_rules|`(tactic|refine $t)=>do
 if t.raw[0].getId != ``PySem.W.holds_open||t.raw[1][0][3].getId.eraseMacroScopes== `zvq then Lean.Macro.throwUnsupported
 let n:=fun (i:Nat) (x:Lean.Term) (a:Array Lean.Syntax)=>a.set! i (a[i]!.setArg 3 x)
 `(tactic|refine $(Lean.TSyntax.mk (t.raw.setArg 1 (Lean.mkNullNode (n 0 (<-`(zvq)) (n 1 (<-`(zvp.boundNames)) (n 2 (<-`(fun s=>PySem.W.xlAt zvq [] s&&PySem.W.recOk [] s)) (n 3 (<-`(PySem.W.XL zvq [])) t.raw[1].getArgs))))))))
set_option maxRecDepth 100000 in
set_option maxHeartbeats 0 in
open_top hd for PySem.Challenge.rw_tellworld_k37_unseen_things
end
set_option maxRecDepth 100000
namespace L2
open PySem PySem.Spec PyProof.Rows
abbrev fc:=Sum Int Str
def Ip:fc->ab->Bool
 |.inl k,v=>qT k v
 |.inr x,v=>gV x v
def keyH(w:az):fc->Int
 |.inl k=>hashInt k
 |.inr x=>hashStr w x
def we:∀{k:fc} {v:ab},Ip k v=γ->(∃i t,k=Sum.inl i/\v=Value.int i t)\/(∃x t,k=Sum.inr x/\v=Value.str x t)
 |.inl i,v,h=>by obtain⟨t,e⟩:=Value.isInt_shape (k:=i) (v:=v) h;exact .inl ⟨i,t,O,e⟩
 |.inr x,v,h=>by obtain⟨t,e⟩:=Value.isStrOf_shape (x:=x) (v:=v) h;exact .inr ⟨x,t,O,e⟩
def Qx(i:Int)(t:Tok):Ip (.inl i) (.int i t)=γ:=by simp[Ip,qT]
def Qy(x:Str)(t:Tok):Ip (.inr x) (.str x t)=γ:=by simp[Ip,gV]
def Yo(a b:Int):decide ((Sum.inl a:fc)=Sum.inl b)=(a==b):=by
 by_cases e:a=b
 .subst e;simp
 .have h:¬(Sum.inl a:fc)=Sum.inl b:=λq=>e (Sum.inl.inj q);rw[aX h];exact(beq_eq_false_iff_ne.2 e).symm
def Yp(a b:Str):decide ((Sum.inr a:fc)=Sum.inr b)=decide (a=b):=by
 by_cases e:a=b
 .subst e;simp
 .have h:¬(Sum.inr a:fc)=Sum.inr b:=λq=>e (jR q);rw[aX h,aX e]
def Yq(a:Int)(b:Str):decide ((Sum.inl a:fc)=Sum.inr b)=δ:=aX (λq=>nomatch q)
def Yr(a:Str)(b:Int):decide ((Sum.inr a:fc)=Sum.inl b)=δ:=aX (λq=>nomatch q)
def vA(prog:aH)(w:az):qA prog w fc where
 is:=Ip
 hash:=keyH w
 inj:=λv a b ha hb=>by
  rcases we ha with ⟨i,t,rfl,rfl⟩|⟨x,t,rfl,rfl⟩
  .rcases we hb with ⟨j,u,rfl,e⟩|⟨y,u,rfl,e⟩
   .injection e with c _;rw[c]
   .exact nomatch e
  .rcases we hb with ⟨j,u,rfl,e⟩|⟨y,u,rfl,e⟩
   .exact nomatch e
   .injection e with c _;rw[c]
 byValue:=λk v h=>by rcases we h with ⟨i,t,rfl,rfl⟩|⟨x,t,rfl,rfl⟩<;>rfl
 pyHash:=λd h=>by
  rcases we d with ⟨i,t,rfl,rfl⟩|⟨x,t,rfl,rfl⟩
  .exact wpAny_pyHash_int h
  .exact pO h
 eqBool:=λf d h=>by
  rcases we f with ⟨i,t,rfl,rfl⟩|⟨x,t,rfl,rfl⟩
  .rcases we d with ⟨j,u,rfl,rfl⟩|⟨y,u,rfl,rfl⟩
   .rw[Yo]at h;exact wpAny_eqBool_int h
   .rw[Yq]at h;exact o7 i t y u _ _ _ _ h
  .rcases we d with ⟨j,u,rfl,rfl⟩|⟨y,u,rfl,rfl⟩
   .rw[Yr]at h;exact o8 x t j u _ _ _ _ h
   .rw[Yp]at h;exact wpAny_eqBool_str h
 «strs»:=λk x t v h=>by
  rcases we h with ⟨i,u,rfl,e⟩|⟨y,u,rfl,e⟩
  .exact nomatch e
  .injection e with c _;subst c;cases v<;>rfl
def Mz(prog:aH)(w:az)(i:Int)(t:Tok):(vA prog w).is (.inl i) (.int i t)=γ:=Qx i t
def MA(prog:aH)(w:az)(x:Str)(t:Tok):(vA prog w).is (.inr x) (.str x t)=γ:=Qy x t
inductive V where
 |E|I (b:Bool)|int (i:Int)|str (x:Str)|U (b:Array UInt8)|flt (b:UInt64)|ref (a:Addr)|ty (n:String)
 deriving DecidableEq
abbrev bN:=List V
def et:V->ab->Prop
 |.E,u=>u=Value.none
 |.I b,u=>u=Value.bool b
 |.int i,u=>∃t,u=Value.int i t
 |.str x,u=>∃t,u=Value.str x t
 |.U b,u=>∃t,u=Value.bytes b t
 |.flt b,u=>∃t,u=Value.float b t
 |.ref a,u=>u=Value.ref a
 |.ty n,u=>u=Value.type n
abbrev ef:bN->List ab->Prop:=hJ et
theorem ef.length(r:ef xs a):xs.length=a.length:=md r
theorem ef.get:∀{b:bN} {a:List ab} {i:Nat} {x:V},ef b a->b[i]?=Z x->∃u,a[i]?=Z u/\et x u
 |_,_,_,_,.nil,e=>by simp at e
 |_,_,0,_,.cons r _,e=>by simp at e;subst e;exact⟨_,O,r⟩
 |_,_,i+1,x,.cons _ t,e=>by obtain⟨u,c,d⟩:=ef.get (i:=i) (x:=x) t (by simpa using e);exact⟨u,by simpa using c,d⟩
theorem ef.set(r:et x u):∀{b:bN} {a:List ab} (i:Nat),ef b a->ef (b.set i x) (a.set i u)
 |_,_,_,.nil=>.nil
 |_,_,0,.cons _ t=>.cons r t
 |_,_,i+1,.cons q t=>.cons q (ef.set r i t)
theorem ef.append:∀{b c:bN} {a ws:List ab},ef b a->ef c ws->ef (b++c) (a++ws)
 |_,_,_,_,.nil,s=>s
 |_,_,_,_,.cons r t,s=>.cons r (ef.append t s)
theorem ef.take:∀{xs:bN} {a:List ab} (n:Nat),ef xs a->ef (xs.take n) (a.take n)
 |_,_,0,_=>.nil
 |_,_,_+1,.nil=>.nil
 |_,_,n+1,.cons r t=>.cons r (ef.take n t)
theorem ef.drop:∀{xs:bN} {a:List ab} (n:Nat),ef xs a->ef (xs.drop n) (a.drop n)
 |_,_,0,r=>r
 |_,_,_+1,.nil=>.nil
 |_,_,n+1,.cons _ t=>ef.drop n t
def CU:Option V->Option ab->Prop
 |some v,Z u=>et v u
 |none,J=>True
 |_,_=>False
def KV{a:Type}:List (a×V)->List (a×ab)->Prop:=hJ λ(p:a×V) (q:a×ab)=>p.1=q.1/\et p.2 q.2
def kV:fc->V
 |.inl i=>.int i
 |.inr x=>.str x
inductive HO where
 |bt (xs:bN)
 |du (xs:bN)
 |dK (kvs:List (fc×V))|dT (kvs:List (List fc×V))
 |set (S:Int->Bool) (n:Nat)
 |nj (C dx:Addr) (fs:List (Str×V))
 |jj (x:Addr)
 |xd (fs:List (Str×V))
 |met (f x:Addr)
 |rng (lo hi:Int)
 |n? (o:Obj) (u:HO)
 |tbl (ps:Array ab)
 |ext (φ:Heap->Prop)
abbrev Hp:=Addr->Option HO
def ff(H:Hp)(a:Addr)(o:HO):Hp:=λb=>if b=a then Z o else H b
def vb:ff H a o a=Z o:=by unfold ff;rw[ak O]
def vn(h:b≠a):ff H a o b=H b:=by unfold ff;rw[ao h]
def ace{H:Hp}{a b:Addr}{o u:HO}(h:H a=Z o)(c:H b=Z u)(d:o≠u):a≠b:=by intro e;subst e;rw[h]at c;exact d (cI c)
def xZ{H:Hp}{a b:Addr}{o:HO}(h:H a=Z o)(c:H b=J):a≠b:=by intro e;subst e;rw[h]at c;cases c
section
variable(P:aH)(w:az)
def wI(H:Hp)(h:Heap)(a:Addr):HO->Prop
 |.bt c=>c.length<=aG/\∃(b:List ab) (n:Nat),ef c b/\h.get? a=Z { cls:=.type "list", data:=.seq b.toArray n }
 |.du c=>c.length<=aG/\∃b:List ab,ef c b/\gq h a b.toArray
 |.dK kvs=>kvs.length<=aG/\(a==dF)=δ/\∃m,KV kvs m/\h.DictOf (vA P w) a m
 |.dT kvs=>kvs.length<=aG/\(a==dF)=δ/\∃c:List (List fc×Addr×ab),
   hJ (λ(p:List fc×V) (q:List fc×Addr×ab)=>p.1=q.1/\H q.2.1=Z (.du (p.1.map kV))/\et p.2 q.2.2) kvs c/\
   ∃o i r,h.get? a=Z o/\o.ExactDict/\o.data=.dict i r/\i.toList=c.map (entryOfKey (tupleKind (vA P w)))/\(c.map (·.1)).Nodup
 |.set S n=>h.SetOf (intKind P w) a S n
 |.nj C d fs=>H d=Z (.jj a)/\fs.length<=1000/\d≠a/\h.get? a=Z (eS C d)/\
   ∃mA,h.Ns1 d mA/\(∀f,CU (fs.lookup f) (mA f))/\mC mA (fs.map (·.1))
 |.jj _=>∃o,h.get? a=Z o
 |.xd fs=>∃mA,h.Ns1 a mA/\∀f,CU (fs.lookup f) (mA f)
 |.rng lo y=>∃t u v,h.get? a=Z { cls:=.type "range", data:=.fields #[.int lo t,.int y u,.int 1 v] }
 |.n? o u=>h.get? a=Z o/\wI H h a u
 |.tbl z=>h.get? a=Z { cls:=.none,data:=.fields z }
 |.met f x=>h.get? a=Z (mM (.ref f) (.ref x))
 |.ext e=>e h/\(∃o,h.get? a=Z o)/\∀j l:Heap,e j->(∀o,j.get? a=Z o->l.get? a=Z o)->e l
def rz(H:Hp)(h:Heap):Prop:=∀a o,H a=Z o->wI P w H h a o
end
section
variable{P:aH}{w:az}{H H':Hp}{h h':Heap}{a:Addr}{o:HO}
theorem wI.lt(x:wI P w H h a o):a<h.objs.size:=by
 cases o with
 |bt b=>obtain⟨_,_,_,_,e⟩:=x;exact aR e
 |du b=>obtain⟨_,_,_,p⟩:=x;exact p.lt
 |dK kvs=>obtain⟨_,_,_,_,o,_,_,e,_⟩:=x;exact aR e
 |dT kvs=>obtain⟨_,_,_,_,o,_,_,e,_⟩:=x;exact aR e
 |set S n=>obtain⟨o,_,_,_,e,_⟩:=x;exact aR e
 |nj C c fs=>obtain⟨_,_,_,e,_⟩:=x;exact aR e
 |jj y=>obtain⟨_,e⟩:=x;exact aR e
 |xd fs=>obtain⟨_,⟨_,_,_,e,_⟩,_⟩:=x;exact aR e
 |rng lo d=>obtain⟨_,_,_,e⟩:=x;exact aR e
 |n? i u=>obtain⟨e,_⟩:=x;exact aR e
 |tbl j=>exact aR (show h.get? a=Z _ from x)
 |met f y=>exact aR (show h.get? a=Z _ from x)
 |ext l=>obtain⟨_,⟨_,e⟩,_⟩:=x;exact aR e
theorem Paired.mapP{e i:Type}{F G:e->i->Prop}:∀{c:List e} {d:List i},hJ F c d->(∀a b,F a b->G a b)->hJ G c d
 |_,_,.nil,_=>.nil
 |_,_,.cons r t,f=>.cons (f _ _ r) (Paired.mapP t f)
def wI.χ(x:wI P w H h a o)(k:∀b u,(b=a\/H b=Z (.jj a))->h.get? b=Z u->h'.get? b=Z u)
  (G:∀b,H b=Z (.jj a)->H' b=Z (.jj a)) (I:∀b A,H b=Z (.du A)->H' b=Z (.du A)):wI P w H' h' a o:=by
 induction o with
 |bt A=>obtain⟨z,m,n,r,e⟩:=x;exact⟨z,m,n,r,k _ _ (.inl O) e⟩
 |du A=>obtain⟨z,m,r,i,e,c⟩:=x;exact⟨z,m,r,i,k _ _ (.inl O) e,c⟩
 |dK kvs=>obtain⟨z,y,Q,r,i,l,j,e,c⟩:=x;exact⟨z,y,Q,r,i,l,j,k _ _ (.inl O) e,c⟩
 |dT kvs=>obtain⟨z,y,A,r,i,l,j,e,c⟩:=x;exact⟨z,y,A,Paired.mapP r λp q z=>⟨z.1,I _ _ z.2.1,z.2.2⟩,i,l,j,k _ _ (.inl O) e,c⟩
 |set S n=>obtain⟨i,l,j,t,e,c⟩:=x;exact⟨i,l,j,t,k _ _ (.inl O) e,c⟩
 |nj C R fs=>obtain⟨d,z,N,e,mA,⟨B,l,j,F,c⟩,r⟩:=x;exact⟨G _ d,z,N,k _ _ (.inl O) e,mA,⟨B,l,j,k _ _ (.inr d) F,c⟩,r⟩
 |jj y=>obtain⟨i,e⟩:=x;exact⟨i,k _ _ (.inl O) e⟩
 |xd fs=>obtain⟨mA,⟨B,l,j,e,c⟩,r⟩:=x;exact⟨mA,⟨B,l,j,k _ _ (.inl O) e,c⟩,r⟩
 |rng lo T=>obtain⟨t,u,v,e⟩:=x;exact⟨t,u,v,k _ _ (.inl O) e⟩
 |n? i u M=>obtain⟨e,q⟩:=x;exact⟨k _ _ (.inl O) e,M q⟩
 |tbl E=>have e:h.get? a=Z { cls:=.none,data:=.fields E }:=x;show h'.get? a=Z { cls:=.none,data:=.fields E };exact k a _ (.inl O) e
 |met f y=>have e:h.get? a=Z (mM (.ref f) (.ref y)):=x;show h'.get? a=Z (mM (.ref f) (.ref y));exact k a _ (.inl O) e
 |ext U=>obtain⟨p,⟨o,e⟩,st⟩:=x;exact⟨st _ _ p λo q=>k _ _ (.inl O) q,⟨o,k _ _ (.inl O) e⟩,st⟩
theorem rz.lt(x:rz P w H h)(e:H a=Z o):a<h.objs.size:=(x a o e).lt
def rz.fresh(x:rz P w H h)(e:h.objs.size<=a):H a=J:=by
 cases q:H a with
 |none=>rfl
 |some u=>exact aq (cv (x.lt q) e) (eO _)
def rz.g?(x:rz P w H h)(k:∀b u,h.get? b=Z u->h'.get? b=Z u):rz P w H h':=λa o e=>
 (x a o e).χ (λb u _ q=>k b u q) (λ_ q=>q) λ_ _ q=>q
def rz.laid(x:rz P w H h)(k:∀b u,h.get? b=Z u->h'.get? b=Z u)(i:h.objs.size<=a)(new:wI P w (ff H a o) h' a o):rz P w (ff H a o) h':=λb u e=>by
 have f:=x.fresh i;by_cases d:b=a
 .subst d;rw[vb]at e;cases e;exact new
 .rw[vn d]at e;exact(x b u e).χ (λc v _ q=>k c v q) (λc q=>by rw[vn (xZ q f)];exact q) λc j q=>by rw[vn (xZ q f)];exact q
end
def Rd(H:Hp)(a:Addr)(u:HO):Prop:=H a=Z u\/∃o,H a=Z (.n? o u)
def Rd.ok(r:Rd H a u)(x:rz P w H h):wI P w H h a u:=by
 rcases r with r|⟨o,r⟩
 .exact x a u r
 .obtain⟨_,q⟩:=x a _ r;exact q
def Mut:Option HO->Prop
 |some (.bt _)=>True
 |some (.dK _)=>True
 |some (.dT _)=>True
 |some (.set _ _)=>True
 |some (.nj _ _ _)=>True
 |some (.ext _)=>True
 |_=>False
section
variable{P:aH}{w:az}{H:Hp}{h h':Heap}{x e:Addr}{o':HO}
def rz.vr(ok:rz P w H h)(f:Mut (H x))(j:e=x\/H e=Z (.jj x))(k:∀b u,b≠e->h.get? b=Z u->h'.get? b=Z u)(heo:∃u,h'.get? e=Z u)
  (new:wI P w (ff H x o') h' x o'):rz P w (ff H x o') h':=λb u q=>by
 have nown:∀c y,H c=Z (.jj y)->c≠x:=λc y r z=>by subst z;rw[r]at f;exact f
 have ntup:∀c i,H c=Z (.du i)->c≠x:=λc i r z=>by subst z;rw[r]at f;exact f
 by_cases a:b=x
 .subst a;rw[vb]at q;cases q;exact new
 .rw[vn a]at q;by_cases hbe:b=e
  .have l:H b=Z (.jj x):=by
    rcases j with z|z
    .exact aq (hbe.t z) a
    .rw[hbe];exact z
   rw[q]at l;cases l;obtain⟨v,m⟩:=heo;exact⟨v,by rw[hbe];exact m⟩
  .refine(ok b u q).χ (λc v d r=>k c v ?_ r) (λc r=>by rw[vn (nown c b r)];exact r) λc i r=>by rw[vn (ntup c i r)];exact r
   rcases d with rfl|d
   .exact hbe
   .rintro rfl;rcases j with z|z
    .exact nown c b d z
    .rw[d]at z;cases z;exact a O
end
structure Un(fs ex:List Addr)(H H':Hp)(h h':Heap):Prop where
 keep:∀b o,h.get? b=Z o->H b=J->b∉fs->b∉ex->h'.get? b=Z o
 slot:∀b o,h.get? b=Z o->H b=J->b∈fs->b∉ex->∃sl,h'.get? b=Z { o with slots:=sl }
 free:∀b o,h.get? b=Z o->H b=J->b∉ex->H' b=J
 there:∀b o,h.get? b=Z o->b∉ex->∃o',h'.get? b=Z o'
 y':∀b xs,H b=Z (.du xs)->H' b=Z (.du xs)
 B?:∀b o u,H b=Z (.n? o u)->H' b=Z (.n? o u)
 I?:∀b ps,H b=Z (.tbl ps)->∃more,H' b=Z (.tbl (ps++more))
section
variable{fs fs' ex ex':List Addr}{H H1 H2:Hp}{h h1 h2 h':Heap}{a x e:Addr}{o:HO}
def Un.any(u:Un fs ex H H1 h h1)(q:h.get? b=Z ob)(n:H b=J)(c:b∉ex):∃sl,h1.get? b=Z { ob with slots:=sl }:=by
 by_cases hb:b∈fs
 .exact u.slot b ob q n hb c
 .exact⟨ob.slots,u.keep b ob q n hb c⟩
def Un.g?(k:∀b u,h.get? b=Z u->h'.get? b=Z u):Un fs ex H H h h':=
 ⟨λb c q _ _ _=>k b c q,λb c q _ _ _=>⟨c.slots,k b c q⟩,λ_ _ _ n _=>n,λb c q _=>⟨c,k b c q⟩,λ_ _ q=>q,λ_ _ _ q=>q,λ_ d q=>⟨#[],by rw[q];simp⟩⟩
def Un.refl:Un fs ex H H h h:=Un.g? λ_ _ q=>q
def Un.laid(k:∀b u,h.get? b=Z u->h'.get? b=Z u)(c:h.objs.size<=a)(hn:H a=J):Un fs ex H (ff H a o) h h' where
 keep:=λb u q _ _ _=>k b u q
 slot:=λb u q _ _ _=>⟨u.slots,k b u q⟩
 free:=λb u q n _=>by rw[vn (bc (cv (aR q) c))];exact n
 there:=λb u q _=>⟨u,k b u q⟩
 y':=λb xs q=>by rw[vn (xZ q hn)];exact q
 B?:=λb u xs q=>by rw[vn (xZ q hn)];exact q
 I?:=λb ps q=>⟨#[],by rw[vn (xZ q hn),q];simp⟩
def Un.vr(c:Mut (H x))(j:e=x\/H e=Z (.jj x))(k:∀b u,b≠e->h.get? b=Z u->h'.get? b=Z u)(heo:∃u,h'.get? e=Z u):Un fs ex H (ff H x o) h h':=by
 have i:∀b,H b=J->b≠x:=λb n z=>by subst z;rw[n]at c;exact c
 have f:∀b,H b=J->b≠e:=λb n z=>by
  subst z;rcases j with r|r
  .exact i b n r
  .rw[n]at r;cases r
 have d:∀b u,H b=Z u->¬Mut (Z u)->b≠x:=λb u q l z=>by subst z;rw[q]at c;exact l c
 refine⟨λb u q n _ _=>k b u (f b n) q,λb u q n _ _=>⟨u.slots,k b u (f b n) q⟩,λb u q n _=>by rw[vn (i b n)];exact n,λb u q _=>?_,
  λb m q=>by rw[vn (d b _ q λz=>z)];exact q,λb u m q=>by rw[vn (d b _ q λz=>z)];exact q,λb p q=>⟨#[],by rw[vn (d b _ q λz=>z),q];simp⟩⟩
 by_cases hbe:b=e
 .subst hbe;exact heo
 .exact⟨u,k b u hbe q⟩
end
def trk(h:Heap)(H:Hp):List Addr:=(aU h.objs.size).filter λa=>(H a).isSome
def Lp(h:Heap)(H:Hp):Heap:=W.hideAll h (trk h H)
def Qz(h:Heap)(H:Hp):(Lp h H).objs.size=h.objs.size:=W.hideAll_size _ _
def RW{h:Heap}(e:h.get? b=Z o)(n:H b=J):(Lp h H).get? b=Z o:=
 W.hideAll_get _ e λa=>by have q:(H b).isSome=γ:=(aY.1 a).2;rw[n]at q;simp at q
def Vx(e:(Lp h H).get? b=Z o):h.get? b=Z o/\H b=J:=by
 have a:h.get? b=Z o:=W.of_hideAll (trk h H) e;refine⟨a,?_⟩;cases q:H b with
 |none=>rfl
 |some x=>have c:b∈trk h H:=aY.2 ⟨bL.2 (aR a),by simp[q]⟩;have z:(Lp h H).get? b=J:=W.hideAll_none (trk h H) c;rw[z]at e;cases e
def Vy(g h:Heap)(L:Addr):cD:=(aU h.objs.size).filterMap λa=>if a=L\/(g.get? a).isSome=γ then J else (h.get? a).map λo=>(a,o)
def er(g h:Heap)(L d:Addr):cD:=(Vy g h L).filter λp=>decide (p.1≠d)
structure Mod(K:av)(mg:Str->Option ab)(b?:Heap):Prop where
 kin:K.In b?
 C?:b?.Ns bf mg
 blt:∃mb,b?.Ns builtinsNs mb/\∀x:Str,x≠"__name__" -> mb x=dY x
 nolimit:b?.NoLimit
structure Cx where
 prog:aH
 w:az
 K:av
 mg:Str->Option ab
 b?:Heap
 A:aI
 N:aF
 s₀:ae
 H₀:Hp
 b1:Env
 da:List Env
 kb:List Env
 ex:List Addr
 fn:Str->Bool
 nq:Bool
 pn:cD
 xe:ab->ae->Prop
def frs(l:List Env):List Addr:=l.filterMap (·.frame)
abbrev Cx.fs(X:Cx):List Addr:=frs X.da
def Vis(a:cK)(x:Str):Prop:=a.names.lookup x=Z .local\/a.names.lookup x=Z .cell\/a.names.lookup x=Z .free
def Loc(a:cK)(x:Str):Prop:=a.names.lookup x=Z .local\/a.names.lookup x=Z .cell
def Look(b1:Env)(h:Heap)(m:Str->Option ab)(x:Str)(u:ab):Prop:=
 (b1.kindOf x=Z .local/\m x=Z u)\/((b1.kindOf x=Z .cell\/b1.kindOf x=Z .free)/\∃c,b1.cells.lookup x=Z c/\h.IsCell c (Z u))
structure Cx.Ok(X:Cx):Prop where
 Hj:Mod X.K X.mg X.b?
 kind:X.b1.scope.kind=.function
 C?:X.b1.globals=bf
 blt:X.b1.builtins=builtinsNs
 above:X.s₀.heap.objs.size<=X.b1.locals
 inj:∀x y c,X.b1.cells.lookup x=Z c->X.b1.cells.lookup y=Z c->x=y
 has:∀x,(X.b1.kindOf x=Z .cell\/X.b1.kindOf x=Z .free)->∃c,X.b1.cells.lookup x=Z c
 cab:∀x c,X.fn x=γ->X.b1.cells.lookup x=Z c->X.s₀.heap.objs.size<=c
 hd:X.nq=γ->X.A.handled=J
 frames:X.A.frames=Z X.kb
 stk:X.kb=X.da\/(X.kb=X.b1::X.da/\X.b1.frame=Z X.b1.locals)
 exf:∀b∈X.ex,b≠X.b1.locals/\∀x c,X.b1.cells.lookup x=Z c->c≠b
 bs:∀b o,X.b?.get? b=Z o->X.s₀.heap.get? b=Z o/\X.H₀ b=J
 bsz:X.b?.objs.size<=X.s₀.heap.objs.size
 noex:∀b o,X.b?.get? b=Z o->b∉X.ex
 exfs:∀b∈X.ex,b∉X.fs
 tz:X.s₀.heap.FunFrames X.b? X.da
 frf:∀b∈X.fs,X.H₀ b=J
structure c3(X:Cx)(pins:cD)(σ:List (Option V))(H:Hp)(s:ae):Prop where
 ok:X.Ok
 os:s.os=X.s₀.os
 l':eT s.gens
 b?:Un X.fs X.ex X.H₀ H X.s₀.heap s.heap
 L':∃m,s.heap.Ns X.b1.locals m/\∀(i:Nat) (x:Str) (v:V),X.N[i]?=Z x->σ[i]?=Z (Z v)->Vis X.b1.scope x->∃u,et v u/\Look X.b1 s.heap m x u
 cell:∀x c,X.b1.cells.lookup x=Z c->∃v,s.heap.IsCell c v
 free:H X.b1.locals=J
 m2:∀x c,X.b1.cells.lookup x=Z c->H c=J
 O?:∀p∈X.pn++pins,s.heap.get? p.1=Z p.2/\H p.1=J/\p.1≠X.b1.locals/\p.1∉X.fs/\∀v,p.2.data≠.cell v
 fx:rz X.prog X.w H s.heap
 len:σ.length=X.N.length
section
variable{X:Cx}{pins:cD}{σ:List (Option V)}{H H':Hp}{s:ae}{h':Heap}
def Cx.Ok.nofr(ok:X.Ok)(e:X.b?.get? b=Z o):b∉X.fs:=λa=>by have:=(ok.tz.mem a).1;rw[e]at this;cases this
theorem c3.bs(I:c3 X pins σ H s):∀b o,X.b?.get? b=Z o->s.heap.get? b=Z o/\H b=J:=λb o e=>
 ⟨I.b?.keep b o (I.ok.bs b o e).1 (I.ok.bs b o e).2 (I.ok.nofr e) (I.ok.noex b o e),I.b?.free b o (I.ok.bs b o e).1 (I.ok.bs b o e).2 (I.ok.noex b o e)⟩
def c3.bk(I:c3 X pins σ H s):∀b o,X.b?.get? b=Z o->s.heap.get? b=Z o:=λb o e=>(I.bs b o e).1
theorem c3.Hj(I:c3 X pins σ H s):Mod X.K X.mg X.b?:=I.ok.Hj
def c3.qi(I:c3 X pins σ H s):X.K.In s.heap:=I.ok.Hj.kin.keeps I.bk
def c3.fr(I:c3 X pins σ H s):∃m,Fr X.b? X.b1.locals s.heap m:=
 let ⟨m,a,_⟩:=I.L'
 ⟨m,a,I.bk,bD I.ok.bsz I.ok.above⟩
theorem c3.lt(I:c3 X pins σ H s):X.b1.locals<s.heap.objs.size:=let ⟨_,a,_⟩:=I.L';a.lt
def c3.sz(I:c3 X pins σ H s):X.s₀.heap.objs.size<=s.heap.objs.size:=bD I.ok.above (iQ I.lt)
def c3.nofs(I:c3 X pins σ H s)(h:s.heap.objs.size<=a):a∉X.fs:=λb=>by obtain⟨_,o,c,_⟩:=I.ok.tz.mem b;exact aq (cv (aR c) (bD I.sz h)) (eO _)
def c3.cne(I:c3 X pins σ H s):∀x c,X.b1.cells.lookup x=Z c->c≠X.b1.locals:=λx c e z=>by obtain⟨v,o,d,hd⟩:=I.cell x c e;obtain⟨m,⟨i,h,f,b,a,_⟩,_⟩:=I.L';rw[z,b]at d;cases d;rw[a]at hd;cases hd
theorem c3.tz(I:c3 X pins σ H s):s.heap.FunFrames X.b? X.da:=by
 have all:∀(l:List Env),(∀b∈frs l,b∈X.fs)->X.s₀.heap.FunFrames X.b? l->s.heap.FunFrames X.b? l:=by
  intro l
  induction l with
  |nil=>intro _ _;trivial
  |cons b1 r p=>intro d h;obtain⟨f,⟨L,o,c,i,j,hd⟩,m⟩:=h;have hL:L∈X.fs:=d L (by unfold frs;rw[eD,c];exact bb);obtain⟨q,e⟩:=I.b?.slot L o j (I.ok.frf L hL) hL λz=>I.ok.exfs L z hL;exact⟨f,⟨L,_,c,i,e,hd⟩,p (λb a=>d b (by unfold frs;rw[eD,c];exact ba _ a)) m⟩
 exact all X.da (λ_ a=>a) I.ok.tz
theorem c3.kb(I:c3 X pins σ H s):s.heap.FunFrames X.b? X.kb:=by
 rcases I.ok.stk with e|⟨e,a⟩
 .rw[e];exact I.tz
 .rw[e];obtain⟨m,b,_⟩:=I.L';refine .cons (by rw[I.ok.kind];decide) a b ?_ I.tz;exact Heap.get?_none_of_le (bD I.ok.bsz I.ok.above)
def c3.U'(I:c3 X pins σ H s):∀b∈frs X.kb,b∈X.b1.locals::X.fs:=λb a=>by
 rcases I.ok.stk with e|⟨e,c⟩
 .rw[e]at a;exact ba _ a
 .rw[e]at a;unfold frs at a;rw[eD,c]at a;exact a
def c3.X?(I:c3 X pins σ H s):∀b∈frs X.kb,H b=J:=λb hb=>by
 rcases aL.1 (I.U' b hb)with e|hb
 .rw[e];exact I.free
 .obtain⟨_,o,a,_⟩:=I.ok.tz.mem hb;exact I.b?.free b o a (I.ok.frf b hb) λz=>I.ok.exfs b z hb
def c3.step{g':Array gn}{t':Nat}{d':Drawn}{ch:List Addr}(I:c3 X pins σ H s)
  (hch:∀b∈ch,(b∈X.ex\/X.s₀.heap.objs.size<=b)/\b≠X.b1.locals/\(∀x c,X.b1.cells.lookup x=Z c->c≠b)/\∀p∈X.pn++pins,p.1≠b)
  (keep:∀b o,b≠X.b1.locals->b∉X.fs->b∉ch->s.heap.get? b=Z o->H b=J->h'.get? b=Z o)
  (slot:∀b o,b≠X.b1.locals->b∈X.fs->b∉ch->s.heap.get? b=Z o->H b=J->∃sl,h'.get? b=Z { o with slots:=sl }) (free:∀b o,b∉ch->s.heap.get? b=Z o->H b=J->H' b=J)
  (there:∀b o,b∉ch->s.heap.get? b=Z o->∃t,h'.get? b=Z t)
  (y':∀b xs,H b=Z (.du xs)->H' b=Z (.du xs)) (B?:∀b o u,H b=Z (.n? o u)->H' b=Z (.n? o u)) (I?:∀b ps,H b=Z (.tbl ps)->∃more,H' b=Z (.tbl (ps++more)))
  (ns:∀m,s.heap.Ns X.b1.locals m->h'.Ns X.b1.locals m) (fx:rz X.prog X.w H' h') (hg:eT g'):
  c3 X pins σ H' { s with heap:=h',gens:=g',drawn:=d',toks:=t' }:=by
 have neL:∀b o,X.s₀.heap.get? b=Z o->b≠X.b1.locals:=λb o e=>bc (cv (aR e) I.ok.above);have neC:∀b o,X.s₀.heap.get? b=Z o->b∉X.ex->b∉ch:=λb o e a hb=>by
  rcases(hch b hb).1 with z|z
  .exact a z
  .exact aq (cv (aR e) z) (eO _)
 have cellK:∀x c,X.b1.cells.lookup x=Z c->∀v,s.heap.IsCell c v->h'.IsCell c v:=λx c e v ⟨o,h,hd⟩=>by
  have nch:c∉ch:=λz=>(hch c z).2.2.1 x c e O;by_cases A:c∈X.fs
  .obtain⟨sl,q⟩:=slot c o (I.cne x c e) A nch h (I.m2 x c e);exact⟨_,q,hd⟩
  .exact⟨o,keep c o (I.cne x c e) A nch h (I.m2 x c e),hd⟩
 refine⟨I.ok,I.os,hg,⟨λb o e n hb a=>?_,λb o e n hb a=>?_,λb o e n a=>?_,λb o e a=>?_,λb xs e=>y' b xs (I.b?.y' b xs e),λb o xs e=>B? b o xs (I.b?.B? b o xs e),λb ps e=>?_⟩,?_,λx c e=>?_,?_,λx c e=>?_,λp B=>?_,fx,I.len⟩
 .exact keep b o (neL b o e) hb (neC b o e a) (I.b?.keep b o e n hb a) (I.b?.free b o e n a)
 .obtain⟨sl,f⟩:=I.b?.slot b o e n hb a;obtain⟨y,j⟩:=slot b _ (neL b o e) hb (neC b o e a) f (I.b?.free b o e n a);exact⟨y,j⟩
 .obtain⟨t,f⟩:=I.b?.there b o e a;exact free b t (neC b o e a) f (I.b?.free b o e n a)
 .obtain⟨t,f⟩:=I.b?.there b o e a;exact there b t (neC b o e a) f
 .obtain⟨F,f⟩:=I.b?.I? b ps e;obtain⟨G,j⟩:=I? b _ f;exact⟨F++G,by rw[j,Array.append_assoc]⟩
 .obtain⟨m,hn,E⟩:=I.L';refine⟨m,ns m hn,λi x v f j C=>?_⟩;obtain⟨u,r,l⟩:=E i x v f j C;refine⟨u,r,?_⟩;rcases l with l|⟨k,c,e,z⟩
  .exact .inl l
  .exact .inr ⟨k,c,e,cellK x c e _ z⟩
 .obtain⟨v,z⟩:=I.cell x c e;exact⟨v,cellK x c e v z⟩
 .obtain⟨m,⟨o,_,_,h,_⟩,_⟩:=I.L';exact free _ o (λz=>(hch _ z).2.1 O) h I.free
 .obtain⟨v,o,h,hd⟩:=I.cell x c e;exact free c o (λz=>(hch c z).2.2.1 x c e O) h (I.m2 x c e)
 .obtain⟨e,n,ne,nf,d⟩:=I.O? p B;have nch:p.1∉ch:=λz=>(hch p.1 z).2.2.2 p B O;exact⟨keep p.1 p.2 ne nf nch e n,free p.1 p.2 nch e n,ne,nf,d⟩
def c3.un(I:c3 X pins σ H s)(u:Un X.fs [] H H' s.heap h')(fx:rz X.prog X.w H' h'):c3 X pins σ H' { s with heap:=h',toks:=t' }:=by
 obtain⟨m,⟨o,es,ep,f,r⟩,_⟩:=id I.L';obtain⟨sl,hL⟩:=u.any f I.free (by simp);exact I.step (g':=s.gens) (d':=s.drawn) (ch:=[]) (λ_ z=>nomatch z) (λb o _ hb _ e n=>u.keep b o e n hb (by simp)) (λb o _ hb _ e n=>u.slot b o e n hb (by simp)) (λb o _ e n=>u.free b o e n (by simp)) (λb o _ e=>u.there b o e (by simp)) u.y' u.B? u.I? (λl hm=>by
  obtain⟨p,d,c,a,h⟩:=hm;rw[f]at a;cases a;exact⟨_,d,c,hL,h⟩) fx I.l'
def c3.call(I:c3 X pins σ H s)(u:Un (frs X.kb) ch H H' s.heap h')(fx:rz X.prog X.w H' h')(hg:eT g')
  (hch:∀b∈ch,(b∈X.ex\/X.s₀.heap.objs.size<=b)/\b≠X.b1.locals/\(∀x c,X.b1.cells.lookup x=Z c->c≠b)/\∀p∈X.pn++pins,p.1≠b):
  c3 X pins σ H' { s with heap:=h',gens:=g',drawn:=d',toks:=t' }:=by
 obtain⟨m,⟨o,es,ep,i,r⟩,_⟩:=id I.L';obtain⟨sl,hL⟩:=u.any i I.free λz=>(hch _ z).2.1 O;exact I.step (ch:=ch) hch (λb o hL hb a e n=>u.keep b o e n (λz=>(aL.1 (I.U' b z)).elim hL hb) a) (λb o _ _ a e n=>u.any e n a) (λb o a e n=>u.free b o e n a) (λb o a e=>u.there b o e a) u.y' u.B? u.I? (λl hm=>by
  obtain⟨q,h,f,d,j⟩:=hm;rw[i]at d;cases d;exact⟨_,h,f,hL,j⟩) fx hg
def c3.k?(I:c3 X pins σ H s)(k:∀b o,b≠it->s.heap.get? b=Z o->h'.get? b=Z o)(hn:H it=J)(hL:it≠X.b1.locals)
  (d:it∈X.ex\/X.s₀.heap.objs.size<=it) (f:∀x c,X.b1.cells.lookup x=Z c->c≠it) (h:∀p∈X.pn++pins,p.1≠it):c3 X pins σ H { s with heap:=h',toks:=t' }:=by
 have nit:∀b u,H b=Z u->b≠it:=λb u e z=>by rw[z,hn]at e;cases e
 refine I.step (g':=s.gens) (d':=s.drawn) (ch:=[it]) (λb hb=>?_) (λb o _ _ a e _=>k b o (λz=>a (by simp[z])) e) (λb o _ _ a e _=>⟨o.slots,k b o (λz=>a (by simp[z])) e⟩) (λ_ _ _ _ n=>n)
  (λb o a e=>⟨o,k b o (λz=>a (by simp[z])) e⟩) (λ_ _ e=>e) (λ_ _ _ e=>e) (λb ps e=>⟨#[],by rw[e];simp⟩) (λm hm=>?_) (λb u e=>?_) I.l'
 .have e:b=it:=by simpa using hb
  subst e;exact⟨d,hL,f,h⟩
 .obtain⟨o,es,ep,i,r⟩:=hm;exact⟨o,es,ep,k _ o (dj hL) i,r⟩
 .refine(I.fx b u e).χ (λc v a q=>k c v ?_ q) (λ_ q=>q) λ_ _ q=>q;rcases a with z|z
  .rw[z];exact nit b u e
  .exact nit c _ z
def c3.xr(I:c3 X pins σ H s)(t:Nat):c3 X pins σ H { s with toks:=t }:=I.un (h':=s.heap) (t':=t) Un.refl I.fx
theorem c3.g?(I:c3 X pins σ H s)(k:∀b u,s.heap.get? b=Z u->h'.get? b=Z u):c3 X pins σ H { s with heap:=h',toks:=t' }:=I.un (Un.g? k) (I.fx.g? k)
theorem c3.laid(I:c3 X pins σ H s)(k:∀b u,s.heap.get? b=Z u->h'.get? b=Z u)(c:s.heap.objs.size<=a)(new:wI X.prog X.w (ff H a o) h' a o):
  c3 X pins σ (ff H a o) { s with heap:=h',toks:=t' }:=I.un (Un.laid k c (I.fx.fresh c)) (I.fx.laid k c new)
theorem c3.vr(I:c3 X pins σ H s)(c:Mut (H x))(a:e=x\/H e=Z (.jj x))(k:∀b u,b≠e->s.heap.get? b=Z u->h'.get? b=Z u)(heo:∃u,h'.get? e=Z u)
  (new:wI X.prog X.w (ff H x o) h' x o):c3 X pins σ (ff H x o) { s with heap:=h',toks:=d }:=I.un (Un.vr c a k heo) (I.fx.vr c a k heo new)
def c3.d?{a:List (Option V)}(I:c3 X pins σ H s)(f:a.length=σ.length)(w:∀(i:Nat) v,a[i]?=Z (Z v)->σ[i]?=Z (Z v)):c3 X pins a H s:=
 ⟨I.ok,I.os,I.l',I.b?,let ⟨m,h,b⟩:=I.L';⟨m,h,λi x v c d e=>b i x v c (w i v d) e⟩,I.cell,I.free,I.m2,I.O?,I.fx,f.t I.len⟩
def c3.ε(I:c3 X pins σ H s)(h:∀p∈a,s.heap.get? p.1=Z p.2/\H p.1=J/\p.1≠X.b1.locals/\p.1∉X.fs/\∀v,p.2.data≠.cell v):c3 X a σ H s:=
 ⟨I.ok,I.os,I.l',I.b?,I.L',I.cell,I.free,I.m2,λp b=>(aT.1 b).elim (λz=>I.O? p (bF _ z)) (h p),I.fx,I.len⟩
def MB{N:aF}(hN:N.Nodup){i j:Nat}{x:Str}(a:N[i]?=Z x)(b:N[j]?=Z x):i=j:=by obtain⟨e,c⟩:=cj.1 a;obtain⟨f,d⟩:=cj.1 b;exact(lD hN).1 (c.t d.symm)
def QA(I:c3 X pins σ H s)(hN:X.N.Nodup)(hi:X.N[i]?=Z x)(B:Loc X.b1.scope x)(r:et v u)
  (h:∀s',c3 X pins (σ.set i (Z v)) H s'->(∃a,dD a s.heap s'.heap/\(a=X.b1.locals\/X.b1.cells.lookup x=Z a))->Q () s') (hf:X.fn x=γ\/X.b1.scope.names.lookup x=Z .local:=by first|exact .inl O|exact .inr O|assumption):ai M A (storeName X.b1 x u) Q E s:=by
 obtain⟨m,hn,hl⟩:=id I.L';have hcls:(X.b1.scope.kind==.class||(X.b1.scope.kind==.module&&X.b1.locals != X.b1.globals))=δ:=by rw[I.ok.kind];rfl
 have hiσ:i<σ.length:=by rw[I.len];exact(cj.1 hi).1
 have cne:=I.cne;have tracked:∀{a:Addr} {h':Heap},(∃o,s.heap.get? a=Z o/\H a=J)->dD a s.heap h'->rz X.prog X.w H h':=λ{a h'} ha f b ob e=>by
  obtain⟨_,_,hfree⟩:=ha;refine(I.fx b ob e).χ (λc S t q=>(f.2 c ?_).t q) (λ_ q=>q) λ_ _ q=>q;rintro rfl;rcases t with rfl|t
  .rw[hfree]at e;cases e
  .rw[hfree]at t;cases t
 rcases B with F|F
 .refine wpAny_storeName_local F hn (λh' U f=>?_) hcls;obtain⟨oL,_,_,hoL,_⟩:=id hn;refine h _ ⟨I.ok,I.os,I.l',⟨λb o e n hb B=>?_,λb o e n hb B=>?_,I.b?.free,λb o e B=>?_,I.b?.y',I.b?.B?,I.b?.I?⟩,⟨_,U,λj y v' l C T=>?_⟩,λy c e=>?_,I.free,I.m2,λp W=>?_,tracked ⟨oL,hoL,I.free⟩ f,by simpa using I.len⟩ ⟨_,f,.inl O⟩
  .exact(f.2 b (bc (cv (aR e) I.ok.above))).t (I.b?.keep b o e n hb B)
  .obtain⟨sl,l⟩:=I.b?.slot b o e n hb B;exact⟨sl,(f.2 b (bc (cv (aR e) I.ok.above))).t l⟩
  .obtain⟨Y,l⟩:=I.b?.there b o e B;exact⟨Y,(f.2 b (bc (cv (aR e) I.ok.above))).t l⟩
  .by_cases G:j=i
   .subst G;rw[hi]at l;cases l;rw[jv hiσ]at C;cases C;exact⟨u,r,.inl ⟨F,by simp⟩⟩
   .rw[kP (dj G)]at C;obtain⟨u',r',q⟩:=hl j y v' l C T;refine⟨u',r',?_⟩;rcases q with ⟨k,e⟩|⟨k,c,e,z⟩
    .refine .inl ⟨k,?_⟩;have:y≠x:=λe=>G (MB hN l (e▸hi));simp[this,e]
    .exact .inr ⟨k,c,e,z.sameBut f (cne y c e)⟩
  .obtain⟨S,z⟩:=I.cell y c e;exact⟨S,z.sameBut f (cne y c e)⟩
  .obtain⟨e,n,ne,nf,d⟩:=I.O? p W;exact⟨(f.2 p.1 ne).t e,n,ne,nf,d⟩
 .have hfn:X.fn x=γ:=by
   rcases hf with z|z
   .exact z
   .rw[z]at F;cases F
  obtain⟨c,t⟩:=I.ok.has x (.inl F);obtain⟨S,z⟩:=I.cell x c t;refine wpAny_storeName_cell I.ok.kind F t z (λh' P f=>?_);obtain⟨oc,hoc,hocd⟩:=id z;refine h { s with heap:=h' } ⟨I.ok,I.os,I.l',⟨λb o e n hb B=>?_,λb o e n hb B=>?_,I.b?.free,λb o e B=>?_,I.b?.y',I.b?.B?,I.b?.I?⟩,⟨m,hn.sameBut f (dj (cne x c t)),λj y v' l C T=>?_⟩,λy R e=>?_,I.free,I.m2,λp W=>?_,tracked ⟨oc,hoc,I.m2 x c t⟩ f,by simpa using I.len⟩ ⟨c,f,.inr t⟩
  .exact(f.2 b (bc (cv (aR e) (I.ok.cab x c hfn t)))).t (I.b?.keep b o e n hb B)
  .obtain⟨sl,l⟩:=I.b?.slot b o e n hb B;exact⟨sl,(f.2 b (bc (cv (aR e) (I.ok.cab x c hfn t)))).t l⟩
  .obtain⟨Y,l⟩:=I.b?.there b o e B;exact⟨Y,(f.2 b (bc (cv (aR e) (I.ok.cab x c hfn t)))).t l⟩
  .by_cases G:j=i
   .subst G;rw[hi]at l;cases l;rw[jv hiσ]at C;cases C;exact⟨u,r,.inr ⟨.inl F,c,t,P⟩⟩
   .rw[kP (dj G)]at C;obtain⟨u',r',q⟩:=hl j y v' l C T;refine⟨u',r',?_⟩;rcases q with q|⟨k,R,e,z'⟩
    .exact .inl q
    .refine .inr ⟨k,R,e,z'.sameBut f ?_⟩;rintro rfl;exact G (MB hN l (I.ok.inj _ _ _ e t▸hi))
  .by_cases hcc:R=c
   .subst hcc;exact⟨_,P⟩
   .obtain⟨w2,z2⟩:=I.cell y R e;exact⟨w2,z2.sameBut f hcc⟩
  .obtain⟨e,n,ne,nf,d⟩:=I.O? p W;refine⟨(f.2 p.1 ?_).t e,n,ne,nf,d⟩;intro q;rw[q,hoc]at e;have q':oc=p.2:=cI e;exact d S (by rw[<-q'];exact hocd)
def MC(I:c3 X pins σ H s)(hN:X.N.Nodup)(d:X.N[i]?=Z x)(e:Loc X.b1.scope x)(r:et v u)
  (h:∀a,c3 X pins (σ.set i (Z v)) H a->Q () a) (c:X.fn x=γ\/X.b1.scope.names.lookup x=Z .local:=by first|exact .inl O|exact .inr O|assumption):ai M A (storeName X.b1 x u) Q E s:=
 QA I hN d e r (λa b _=>h a b) c
def c3.call'{s':ae}(I:c3 X pins σ H s)(i:s'.os=s.os)(u:Un (frs X.kb) ch H H' s.heap s'.heap)(fx:rz X.prog X.w H' s'.heap)(h:eT s'.gens)
  (hch:∀b∈ch,(b∈X.ex\/X.s₀.heap.objs.size<=b)/\b≠X.b1.locals/\(∀x c,X.b1.cells.lookup x=Z c->c≠b)/\∀p∈X.pn++pins,p.1≠b):c3 X pins σ H' s':=by
 obtain⟨h',d,a,f,j⟩:=s';have e:j=s.os:=i;subst e;exact I.call (g':=d) (t':=f) (d':=a) u fx h hch
end
abbrev XK:=ab->Option Addr->Hp->Prop
abbrev St:=List (Option V)
abbrev VK:=V->Hp->Prop
abbrev TE:=St->Hp->VK->Prop
abbrev TT:=St->Hp->(Bool->Hp->Prop)->Prop
abbrev TA:=St->Hp->(bN->Hp->Prop)->Prop
structure ψ where
 nx:St->Hp->Prop
 rt:VK
 bk:St->Hp->Prop:=λ_ _=>False
 ct:St->Hp->Prop:=λ_ _=>False
abbrev TS:=ψ->St->Hp->Prop
def EP(X:Cx)(a:cD)(d:St)(Q:VK)(u:ab)(c:ae):Prop:=∃v b,c3 X a d b c/\et v u/\Q v b
def TP(X:Cx)(a:cD)(e:St)(Q:Bool->Hp->Prop)(b:Bool)(d:ae):Prop:=∃c,c3 X a e c d/\Q b c
def AP(X:Cx)(a:cD)(f:St)(Q:bN->Hp->Prop)(e:List ab)(d:ae):Prop:=∃c b,c3 X a f b d/\ef c e/\Q c b
def SP(X:Cx)(b:cD)(D:ψ)(f:Flow)(d:ae):Prop:=
 match f with
 |.next=>∃a c,c3 X b a c d/\D.nx a c
 |.brk=>∃a c,c3 X b a c d/\D.bk a c
 |.cont=>∃a c,c3 X b a c d/\D.ct a c
 |.ret u=>∃v a c,c3 X b a c d/\et v u/\D.rt v c
def PE(X:Cx)(e:Expr)(t:TE):Prop:=
 ∀(a:cD) (s:ae) (b:St) (H:Hp) (Q:VK),c3 X a b H s->t b H Q->ai (model X.prog X.w) X.A (eval e X.b1) (EP X a b Q) X.xe s
def PT(X:Cx)(e:Expr)(t:TT):Prop:=
 ∀(a:cD) (s:ae) (b:St) (H:Hp) (Q:Bool->Hp->Prop),c3 X a b H s->t b H Q->ai (model X.prog X.w) X.A (isTrue e X.b1 (eval e X.b1)) (TP X a b Q) X.xe s
def PW(X:Cx)(e:Expr)(t:TT):Prop:=
 ∀(whole:Sem ab) (a:cD) (s:ae) (b:St) (H:Hp) (Q:Bool->Hp->Prop),c3 X a b H s->t b H Q->ai (model X.prog X.w) X.A (isTrue e X.b1 whole) (TP X a b Q) X.xe s
def PW.pt(h:PW X e t):PT X e t:=h _
def PA(X:Cx)(c:List Expr)(t:TA):Prop:=
 ∀(pos:Pos) (a:cD) (s:ae) (b:St) (H:Hp) (Q:bN->Hp->Prop),c3 X a b H s->t b H Q->ai (model X.prog X.w) X.A (spliced (bE pos (aC c X.b1))) (AP X a b Q) X.xe s
def PS(X:Cx)(st:Stmt)(t:TS):Prop:=
 ∀(a:cD) (s:ae) (b:St) (H:Hp) (D:ψ),c3 X a b H s->t D b H->ai (model X.prog X.w) X.A (exec st X.b1) (SP X a D) X.xe s
def p5(X:Cx)(st:List Stmt)(t:TS):Prop:=
 ∀(a:cD) (s:ae) (b:St) (H:Hp) (D:ψ),c3 X a b H s->t D b H->ai (model X.prog X.w) X.A (execs st X.b1) (SP X a D) X.xe s
def fy{c:Type}{t:Sem c}{Q b:c->ae->Prop}{M:Model}{A:aI}{E:ab->ae->Prop}{s:ae}(h:ai M A t Q E s)(hQ:∀a s,Q a s->b a s):ai M A t b E s:=b9 h hQ λ_ _ x=>x
section
variable{X:Cx}
def bin{a b:Expr}{o p:TE}(z:PE X a o)(B:PE X b p){c:cD}{s:ae}{e:St}{H:Hp}{R:V->V->Hp->Prop}(I:c3 X c e H s)(h:o e H λx m=>p e m λy d=>R x y d)
  {q:Type} {Q:q->ae->Prop} {f:ab->ab->Sem q}
  (C:∀v u l x y d,c3 X c e d l->et x v->et y u->R x y d->ai (model X.prog X.w) X.A (f v u) Q X.xe l):
  ai (model X.prog X.w) X.A (eval a X.b1) (λv i=>ai (model X.prog X.w) X.A (eval b X.b1) (λu j=>ai (model X.prog X.w) X.A (f v u) Q X.xe j) X.xe i) X.xe s:=by
 refine fy (z c s e H _ I h) λv N zz=>?_;obtain⟨x,m,r,G,E⟩:=zz;refine fy (B c N e m _ r E) λu l zz=>?_;obtain⟨y,d,t,M,F⟩:=zz;exact C v u l x y d t G M F
def BU(i:Nat):TE:=λa H Q=>∃v,a[i]?=Z (Z v)/\Q v H
def tC(v:V):TE:=λ_ H Q=>Q v H
def Ys(hN:X.N[i]?=Z x)(p:Vis X.b1.scope x)(hd:(x==("__debug__" : Str))=δ:=by decide)(hcd:(x==("__classdict__" : Str))=δ:=by decide):PE X (.Name x pos) (BU i):=by
 intro b s q H Q I h;obtain⟨v,e,h⟩:=h;obtain⟨m,o,f⟩:=I.L';obtain⟨u,r,l⟩:=f i x v hN e p;have fin:EP X b q Q u s:=⟨v,H,I,r,h⟩;rcases l with ⟨a,j⟩|⟨a,c,d,hcell⟩
 .exact mT (wpAny_loadName_local I.ok.kind a o j fin) hd
 .rcases a with a|a
  .exact mT (wpAny_loadName_cell I.ok.kind a d hcell fin) hd
  .exact mT (wpAny_loadName_free I.ok.kind a d hcell fin hcd) hd
def Lq{i j pos}:PE X (.Constant (.int i) j pos) (tC (.int i)):=λ_ _ _ H _ I h=>wpAny_Constant_int ⟨.int i,H,I.xr _,⟨_,O⟩,h⟩
def acf{b j pos}:PE X (.Constant (.bool b) j pos) (tC (.I b)):=λ_ _ _ H _ I h=>Constant_bool ⟨.I b,H,I,O,h⟩
def Yt{j pos}:PE X (.Constant .none j pos) (tC .E):=λ_ _ _ H _ I h=>Constant_none ⟨.E,H,I,O,h⟩
def Yu{x j pos}:PE X (.Constant (.str x) j pos) (tC (.str x)):=λ_ _ _ H _ I h=>Calls.Constant_str ⟨.str x,H,I.xr _,⟨_,O⟩,h⟩
def Gl(X:Cx)(x:Str):Prop:=X.b1.kindOf x=Z .globalImplicit
def EM(I:c3 X a d H s)(b:Gl X x)(c:X.mg x=Z u)(h:Q u s)
  (hd:(x==("__debug__" : Str))=δ:=by decide):ai (model X.prog X.w) X.A (eval (.Name x pos) X.b1) Q E s:=
 nY I.ok.kind b (Calls.loadGlobal_global (by rw[I.ok.C?];exact I.Hj.C?.keeps I.bk) c h) hd
def BV(I:c3 X a l H s)(d:Gl X x)(e:X.mg x=J)(i:dY x=Z u)(h:Q u s)
  (f:x≠"__name__" := by decide) (hd:(x==("__debug__" : Str))=δ:=by decide):ai (model X.prog X.w) X.A (eval (.Name x pos) X.b1) Q E s:=by
 obtain⟨j,b,c⟩:=I.Hj.blt;exact nY I.ok.kind d (Calls.loadGlobal_builtin (by rw[I.ok.C?];exact I.Hj.C?.keeps I.bk) e (by rw[I.ok.blt];exact b.keeps I.bk) ((c x f).t i) h) hd
def HY(a:Gl X x)(b:X.mg x=Z u)(r:et v u)(hd:(x==("__debug__" : Str))=δ:=by decide):PE X (.Name x pos) (tC v):=
 λ_ _ _ H _ I h=>EM I a b ⟨v,H,I,r,h⟩ hd
def Vz(a:Gl X x)(b:X.mg x=J)(d:dY x=Z u)(r:et v u)(c:x≠"__name__" := by decide)(hd:(x==("__debug__" : Str))=δ:=by decide):PE X (.Name x pos) (tC v):=
 λ_ _ _ H _ I h=>BV I a b d ⟨v,H,I,r,h⟩ c hd
variable{a b:Expr}{ta tb:TE}{pos:Pos}
def PC(X:Cx)(h:CmpOp)(a b:Expr)(t:TE):Prop:=
 ∀(c:cD) (s:ae) (f:St) (H:Hp) (Q:VK),c3 X c f H s->t f H Q->
  ai (model X.prog X.w) X.A (eval a X.b1) (λv d=>ai (model X.prog X.w) X.A (eval b X.b1) (λu e=>ai (model X.prog X.w) X.A (bz h v u) (EP X c f Q) X.xe e) X.xe d) X.xe s
def tB(t:TE):TT:=λe H Q=>t e H λx d=>∃c,x=.I c/\Q c d
def ad4(h:PC X i a b t)(f:fZ i b=δ:=by first|exact nobehind _ (by decide) (by decide)|rfl):PT X (.Compare a [i] [b] pos) (tB t):=by intro e s w H Q I o;refine oF (fy (h e s w H _ I o) λv y f=>fy f λu z m=>fy m λc A zz=>?_) f;obtain⟨x,j,l,r,p⟩:=zz;obtain⟨d,rfl,q⟩:=p;cases r;exact dy ⟨j,l,q⟩
def Yv(h:PE X e t)(j:∀whole,isTrue e X.b1 whole=(do let v<-whole;standAt e.pos;holding [v] (truthy v)):=by intro _;rfl):PT X e (tB t):=by intro c s p H Q I l;refine isTrue_plain (fy (h c s p H _ I l) λv r zz=>?_) (j _);obtain⟨x,f,i,o,m⟩:=zz;obtain⟨d,rfl,q⟩:=m;cases o;exact dy ⟨f,i,q⟩
variable{tA tB':TT}{er:List Expr}
def tAnd(t u:TT):TT:=λe H Q=>t e H λc d=>if c=γ then u e d Q else Q δ d
def tOr(t u:TT):TT:=λe H Q=>t e H λc d=>if c=γ then Q γ d else u e d Q
def tNot(t:TT):TT:=λe H Q=>t e H λc d=>Q (!c) d
def VA(f:PT X a tA):PW X (.BoolOp .And [a] pos) tA:=by
 intro l d s i H Q I h;refine isTrue_and (fy (f d s i H Q I h) λc j e=>?_);cases c with
 |true=>exact isTrue_and_nil e
 |false=>exact e
def Yy(f:PT X a tA):PW X (.BoolOp .Or [a] pos) tA:=by
 intro l d s i H Q I h;refine isTrue_or (fy (f d s i H Q I h) λc j e=>?_);cases c with
 |false=>exact isTrue_or_nil e
 |true=>exact e
def Yz(l:PT X a tA)(m:PW X (.BoolOp .And (b::er) pos) tB'):PW X (.BoolOp .And (a::b::er) pos) (tAnd tA tB'):=by
 intro p d s j H Q I h;refine isTrue_and (fy (l d s j H _ I h) λc o zz=>?_);obtain⟨e,f,i⟩:=zz;cases c with
 |true=>exact m p d o j e Q f i
 |false=>exact⟨e,f,i⟩
def ach(l:PT X a tA)(m:PW X (.BoolOp .Or (b::er) pos) tB'):PW X (.BoolOp .Or (a::b::er) pos) (tOr tA tB'):=by
 intro p d s j H Q I h;refine isTrue_or (fy (l d s j H _ I h) λc o zz=>?_);obtain⟨e,f,i⟩:=zz;cases c with
 |true=>exact⟨e,f,i⟩
 |false=>exact m p d o j e Q f i
def YA(f:PT X a tA):PT X (.UnaryOp .Not a pos) (tNot tA):=by intro d s i H Q I h;exact isTrue_not (f d s i H (λc e=>Q (!c) e) I h)
def aci(ta tb:TE):TE:=λe H Q=>ta e H λx d=>∃c,x=.I c/\if c=γ then tb e d Q else Q (.I δ) d
def tOrV(ta tb:TE):TE:=λe H Q=>ta e H λx d=>∃c,x=.I c/\if c=γ then Q (.I γ) d else tb e d Q
def acj(ta:TE):TE:=λe H Q=>ta e H λx d=>∃c,x=.I c/\Q (.I (!c)) d
def YB{e}(h:PE X a t):PE X (.BoolOp e [a] pos) t:=λc s f H Q I d=>BoolOp_one (h c s f H Q I d)
def YC(l:PE X a ta)(m:PE X (.BoolOp .And (b::er) pos) tb):PE X (.BoolOp .And (a::b::er) pos) (aci ta tb):=by
 intro d s j H Q I h;refine BoolOp_and (fy (l d s j H _ I h) λv p zz=>?_);obtain⟨x,f,i,o,e⟩:=zz;obtain⟨c,rfl,e⟩:=e;cases o;refine dy ?_;cases c with
 |true=>exact m d p j f Q i e
 |false=>exact⟨.I δ,f,i,O,e⟩
def ack(l:PE X a ta)(m:PE X (.BoolOp .Or (b::er) pos) tb):PE X (.BoolOp .Or (a::b::er) pos) (tOrV ta tb):=by
 intro d s j H Q I h;refine BoolOp_or (fy (l d s j H _ I h) λv p zz=>?_);obtain⟨x,f,i,o,e⟩:=zz;obtain⟨c,rfl,e⟩:=e;cases o;refine dy ?_;cases c with
 |false=>exact m d p j f Q i e
 |true=>exact⟨.I γ,f,i,O,e⟩
def YD(j:PE X a ta):PE X (.UnaryOp .Not a pos) (acj ta):=by intro d s m H Q I h;refine UnaryOp_ (fy (j d s m H _ I h) λv o zz=>?_);obtain⟨x,f,i,l,e⟩:=zz;obtain⟨c,rfl,e⟩:=e;cases l;exact not_of (dy ⟨.I (!c),f,i,O,e⟩)
def tIf(t:TT)(ta tb:TE):TE:=λd H Q=>t d H λc e=>if c=γ then ta d e Q else tb d e Q
def RX(q:PT X c tA)(o:PE X a ta)(p:PE X b tb):PE X (.IfExp c a b pos) (tIf tA ta tb):=by
 intro e s f H Q I h;refine wpAny_IfExp (fy (q e s f H _ I h) λd m zz=>?_);obtain⟨i,j,l⟩:=zz;cases d with
 |true=>exact o e m f i Q j l
 |false=>exact p e m f i Q j l
end
def gd(K:av)(H:Hp)(a:Addr)(c:bN):Prop:=
 Rd H a (.bt c)\/
  ∃(o:Obj) (b:Array ab) (n:Nat),K.lookup a=Z o/\o.cls=.type "list" /\ o.dict=J/\o.data=.seq b n/\b.size<=aG/\ef c b.toList
def ij(K:av)(H:Hp)(a:Addr)(c:bN):Prop:=
 Rd H a (.du c)\/
  ∃(o:Obj) (b:Array ab) (n:Nat),K.lookup a=Z o/\o.cls=.type "tuple" /\ o.data=.seq b n/\b.size<=aG/\ef c b.toList
def absV:ab->Option V
 |.none=>Z .E
 |.bool b=>Z (.I b)
 |.int i _=>Z (.int i)
 |.str x _=>Z (.str x)
 |.bytes b _=>Z (.U b)
 |.float b _=>Z (.flt b)
 |.ref a=>Z (.ref a)
 |.type n=>Z (.ty n)
 |_=>J
def et.abs(r:et x u):absV u=Z x:=by
 cases x with
 |E=>cases r;rfl
 |I _=>cases r;rfl
 |int _=>obtain⟨t,rfl⟩:=r;rfl
 |str _=>obtain⟨t,rfl⟩:=r;rfl
 |U _=>obtain⟨t,rfl⟩:=r;rfl
 |flt _=>obtain⟨t,rfl⟩:=r;rfl
 |ref _=>cases r;rfl
 |ty _=>cases r;rfl
def et.inj(r:et x u)(q:et y u):x=y:=cI (r.abs.symm.t q.abs)
theorem ef.inj:∀{b c:bN} {a:List ab},ef b a->ef c a->b=c
 |_,_,_,.nil,.nil=>rfl
 |_,_,_,.cons r t,.cons d e=>by rw[r.inj d,ef.inj t e]
section
variable{X:Cx}{pins:cD}{σ:St}{H:Hp}{s:ae}{a:Addr}{xs ys:bN}
def gd.of{K:av}(h:H a=Z (.bt xs)):gd K H a xs:=.inl (.inl h)
def ij.of{K:av}(h:H a=Z (.du xs)):ij K H a xs:=.inl (.inl h)
def c3.list(I:c3 X pins σ H s)(h:gd X.K H a xs):∃b:List ab,ef xs b/\PlainL s.heap a b.toArray/\xs.length<=aG:=by
 rcases h with h|⟨o,b,n,d,c,hd,f,i,r⟩
 .obtain⟨z,b,n,r,e⟩:=h.ok I.fx;exact⟨b,r,⟨_,n,e,O,O,O⟩,z⟩
 .refine⟨b.toList,r,⟨o,n,I.qi a o d,c,hd,by simpa using f⟩,?_⟩;have e:=r.length;simp only[bO]at e;omega
def c3.tuple(I:c3 X pins σ H s)(h:ij X.K H a xs):∃b:List ab,ef xs b/\gq s.heap a b.toArray/\xs.length<=aG:=by
 rcases h with h|⟨o,b,n,d,c,f,i,r⟩
 .obtain⟨z,b,r,p⟩:=h.ok I.fx;exact⟨b,r,p,z⟩
 .refine⟨b.toList,r,⟨o,I.qi a o d,c,n,by simpa using f⟩,?_⟩;have e:=r.length;simp only[bO]at e;omega
def c3.Q?(I:c3 X pins σ H s)(h:gd X.K H a xs)(l:gd X.K H a ys):xs=ys:=by
 obtain⟨c,r,⟨o,n,e,_,_,d⟩,_⟩:=I.list h;obtain⟨b,m,⟨q,p,i,_,_,f⟩,_⟩:=I.list l;rw[e]at i;cases i;rw[d]at f;injection f with j _;have:c=b:=by simpa using bG qK j
 subst this;exact r.inj m
def c3.G?(I:c3 X pins σ H s)(h:ij X.K H a xs)(l:ij X.K H a ys):xs=ys:=by
 obtain⟨c,r,⟨o,e,_,n,d⟩,_⟩:=I.tuple h;obtain⟨b,m,⟨q,i,_,p,f⟩,_⟩:=I.tuple l;rw[e]at i;cases i;rw[d]at f;injection f with j _;have:c=b:=by simpa using bG qK j
 subst this;exact r.inj m
end
abbrev Cx.Dw(X:Cx)(E:ab->ae->Prop):Cx:={ X with xe:=E }
abbrev Cx.nox(X:Cx):Cx:=X.Dw λ_ _=>False
theorem Cx.Ok.Dw{X:Cx}(ok:X.Ok)(E:ab->ae->Prop):(X.Dw E).Ok:=
 ⟨ok.Hj,ok.kind,ok.C?,ok.blt,ok.above,ok.inj,ok.has,ok.cab,ok.hd,ok.frames,ok.stk,ok.exf,ok.bs,ok.bsz,ok.noex,ok.exfs,ok.tz,ok.frf⟩
def Cx.Ok.pw{X:Cx}(ok:(X.Dw E).Ok):X.Ok:=
 ⟨ok.Hj,ok.kind,ok.C?,ok.blt,ok.above,ok.inj,ok.has,ok.cab,ok.hd,ok.frames,ok.stk,ok.exf,ok.bs,ok.bsz,ok.noex,ok.exfs,ok.tz,ok.frf⟩
section
variable{X:Cx}{pins:cD}{σ:St}{H:Hp}{s:ae}{E:ab->ae->Prop}
theorem c3.Dw(I:c3 X pins σ H s)(E:ab->ae->Prop):c3 (X.Dw E) pins σ H s:=⟨I.ok.Dw E,I.os,I.l',I.b?,I.L',I.cell,I.free,I.m2,I.O?,I.fx,I.len⟩
theorem c3.pw(I:c3 (X.Dw E) pins σ H s):c3 X pins σ H s:=⟨I.ok.pw,I.os,I.l',I.b?,I.L',I.cell,I.free,I.m2,I.O?,I.fx,I.len⟩
theorem SP.pw(h:SP (X.Dw E) pins D f c):SP X pins D f c:=by
 cases f with
 |next=>obtain⟨a,b,I,q⟩:=h;exact⟨a,b,I.pw,q⟩
 |brk=>obtain⟨a,b,I,q⟩:=h;exact⟨a,b,I.pw,q⟩
 |cont=>obtain⟨a,b,I,q⟩:=h;exact⟨a,b,I.pw,q⟩
 |ret u=>obtain⟨v,a,b,I,r,q⟩:=h;exact⟨v,a,b,I.pw,r,q⟩
theorem p5.nox{st:List Stmt}{t:TS}(h:p5 X.nox st t):p5 X st t:=λpins s σ H D I a=>
 b9 (h pins s σ H D (I.Dw _) a) (λ_ _ q=>q.pw) λ_ _ z=>c9 z
end
section
variable{X:Cx}{st:Stmt}{er:List Stmt}{t u:TS}{e:Expr}{te:TE}{pos:Pos}
def acm:TS:=λD a H=>D.nx a H
def tSeq(t u:TS):TS:=λD σ H=>t { D with nx:=u D } σ H
def VB:p5 X [] acm:=λ_ _ a H _ I h=>jJ ⟨a,H,I,h⟩
def Iq(b:PS X st t)(c:p5 X er u):p5 X (st::er) (tSeq t u):=by
 intro pins s σ H D I h;refine pQ (fy (b pins s σ H { D with nx:=u D } I h) λf d q=>?_);cases f with
 |next=>obtain⟨σ',H',a,q⟩:=q;exact c pins d σ' H' D a q
 |ret v=>exact q
 |brk=>exact q
 |cont=>exact q
def Lr(b:PS X st t):p5 X [st] t:=by
 intro a s c H D I h;refine pQ (fy (b a s c H D I h) λf d q=>?_);cases f with
 |next=>exact jJ q
 |ret v=>exact q
 |brk=>exact q
 |cont=>exact q
def c3.quiet(I:c3 X a b H s):interactive X.b1=δ:=by simp[interactive,I.ok.kind]
def XG(te:TE):TS:=λD a H=>te a H λ_ b=>D.nx a b
def O2(f:PE X e te)(i:dG e J pos.line X.b1=pure δ:=by rfl):PS X (.Expr e pos) (XG te):=by intro a s b H D I h;exact wpAny_Expr_any (fy (f a s b H _ I h) λv m ⟨x,c,d,l,j⟩=>⟨b,c,d,j⟩) I.quiet i
def tRet(te:TE):TS:=λD a H=>te a H D.rt
def NZ(f:PE X e te):PS X (.Return (Z e) pos) (tRet te):=by intro a s b H D I h;exact wpAny_Return_some (fy (f a s b H _ I h) λv l ⟨x,c,d,j,i⟩=>⟨x,b,c,d,j,i⟩)
def tIfS(c:TT)(t u:TS):TS:=λD a H=>c a H λb d=>if b=γ then t D a d else u D a d
def aco(r:PT X c w)(p:p5 X a t)(q:p5 X b u):PS X (.If c a b pos) (tIfS w t u):=by
 intro f s i H D I h;refine wpAny_If (fy (r f s i H _ I h) λd o zz=>?_);obtain⟨j,l,m⟩:=zz;cases d with
 |true=>exact p f o i j D l m
 |false=>exact q f o i j D l m
end
abbrev TG:=V->St->Hp->(St->Hp->Prop)->Prop
abbrev TGs:=bN->St->Hp->(St->Hp->Prop)->Prop
def PG(X:Cx)(target:Expr)(t:TG):Prop:=
 ∀(a:cD) (s:ae) (d:St) (H:Hp) (v:V) (u:ab) (Q:St->Hp->Prop),c3 X a d H s->et v u->t v d H Q->
  ai (model X.prog X.w) X.A (assign target X.b1 u) (λ_ e=>∃b c,c3 X a b c e/\Q b c) X.xe s
def R'(X:Cx)(i:List Expr)(t:TGs):Prop:=
 ∀(a:cD) (s:ae) (f:St) (H:Hp) (e:bN) (d:List ab) (Q:St->Hp->Prop),c3 X a f H s->ef e d->t e f H Q->
  ai (model X.prog X.w) X.A (assignInOrder ((cc i X.b1).map (·.2)) d) (λ_ h=>∃b c,c3 X a b c h/\Q b c) X.xe s
abbrev TSet:=V->V->V->Hp->(Hp->Prop)->Prop
def PSet(X:Cx)(t:TSet):Prop:=
 ∀(a:cD) (s:ae) (e:St) (H:Hp) (o i v:V) (d c u:ab) (Q:Hp->Prop),c3 X a e H s->et o d->et i c->et v u->t o i v H Q->
  ai (model X.prog X.w) X.A (setItem d c u) (λ_ f=>∃b,c3 X a e b f/\Q b) X.xe s
section
variable{X:Cx}{pos:Pos}
def AU(i:Nat):TG:=λv a H Q=>Q (a.set i (Z v)) H
def O3(hN:X.N.Nodup)(d:X.N[i]?=Z x)(e:Loc X.b1.scope x)(c:X.fn x=γ\/X.b1.scope.names.lookup x=Z .local:=by first|exact .inl O|exact .inr O|assumption):PG X (.Name x pos) (AU i):=by intro a s j H v u Q I r h;exact wpAny_assign_Name (MC I hN d e r (λf b=>⟨_,H,b,h⟩) c)
def gNil:TGs:=λa b H Q=>a=[]/\Q b H
def XH(t:TG)(u:TGs):TGs:=λc d H Q=>∃v r,c=v::r/\t v d H λa b=>u r a b Q
def VC:R' X [] gNil:=by intro a s b H d c Q I r h;obtain⟨e,h⟩:=h;subst e;cases r;exact assignInOrder_nil ⟨b,H,I,h⟩
def RY(j:PG X e t)(l:R' X b u)
  (m:(cc (e::b) X.b1).map (·.2)=assign e X.b1::(cc b X.b1).map (·.2):=by rfl):R' X (e::b) (XH t u):=by
 intro a s w H z x Q I r h;obtain⟨v,y,i,h⟩:=h;subst i;cases r with
 |cons r p=>rw[m];refine assignInOrder_cons (fy (j a s w H _ _ _ I r h) λ_ q zz=>?_);obtain⟨c,d,f,o⟩:=zz;exact l a q c d _ _ Q f p o
def YE(K:av)(n:Nat)(t:TGs):TG:=λv c H Q=>∃a b,v=.ref a/\ij K H a b/\b.length=n/\t b c H Q
def YF(i:X.nq=γ)(h:R' X es t)
  (hn:(cc es X.b1).length=n:=by rfl) (hst:(cc es X.b1).findIdx? (·.1)=J:=by rfl):PG X (.Tuple es k pos) (YE X.K n t):=by
 intro pins s σ H v u Q I r hw;obtain⟨a,xs,f,l,j,hw⟩:=hw;subst f;cases r;obtain⟨q,c,m,w⟩:=I.tuple l;refine assign_Tuple_tuple (I.ok.hd i) m (by simp[hn,<- j,c.length]) hst λh' p=>?_;have d:c3 X pins σ H { s with heap:=h' }:=I.g? (t':=s.toks) λb o e=>p b o (bc (aR e)) e;exact h pins _ σ H xs _ Q d (by simpa using c) hw
def gSub(to e:TE)(t:TSet):TG:=λv a H Q=>to a H λo b=>e a b λi c=>t o i v c λd=>Q a d
def YG(z:PE X o to)(w:PE X i N)(A:PSet X t)
  (q:∀v,assign (.Subscript o i pos) X.b1 v=(do
   let b<-holding [v] (eval o X.b1);let c<-holding [v,b] (eval i X.b1)
   standAt pos
   holding [v,b,c] (setItem b c v)
   release [v,b,c] []):=by intro _;rfl):PG X (.Subscript o i pos) (gSub to N t):=by
 intro a s d H v u Q I r h;rw[q];refine af (bP (fy (z a s d H _ I h) λb G zz=>?_));obtain⟨x,e,l,E,B⟩:=zz;refine af (bP (fy (w a G d e _ l B) λc M zz=>?_));obtain⟨y,f,m,F,C⟩:=zz;refine af (jN (af (bP (fy (A a M d f x y v b c u _ m E F r C) λ_ P zz=>?_))));obtain⟨j,p,q3⟩:=zz;exact wpAny_release ⟨d,j,p,q3⟩
def Ep(c:TE)(g:TG):TS:=λD a H=>c a H λx b=>g x a b D.nx
def RZ(j:PE X e u)(l:PG X b g)(m:swapsWithSole [b] e pos.line X.b1=pure δ:=by rfl)(o:swappedStores [b] e X.b1=pure J:=by rfl)
  (i:(cc [b] X.b1).map (·.2)=[assign b X.b1]:=by rfl):PS X (.Assign [b] e pos) (Ep u g):=by
 intro a s c H D I h;refine wpAny_Assign_stores (fy (j a s c H _ I h) λv t zz=>?_) m o;obtain⟨x,d,f,r,p⟩:=zz;rw[i];exact fy (l a t c d x v _ f r p) λ_ w q=>q
def YH(hN:X.N.Nodup)(l:X.N[i]?=Z x)(o:Loc X.b1.scope x)(f:PE X e r)(m:dG e (Z (.Name x pos')) pos.line X.b1=pure δ:=by rfl)(j:X.fn x=γ\/X.b1.scope.names.lookup x=Z .local:=by first|exact .inl O|exact .inr O|assumption):
  PS X (.Assign [.Name x pos'] e pos) (Ep r (AU i)):=by
 intro a s t H D I h;refine wpAny_Assign_Name (fy (f a s t H _ I h) λv u zz=>?_) m;obtain⟨y,b,c,q,p⟩:=zz;exact MC c hN l o q (λw d=>⟨_,b,d,p⟩) j
end
section
variable{X:Cx}{pos:Pos}
def R0(c:TT)(d:TS):TS:=λD σ H=>∃W:Nat->St->Hp->Prop,(∃m,W m σ H)/\∀m σ H,W m σ H->
 c σ H λb H1=>if b=γ then ∃N:St->Hp->Prop,(∀σ' H',N σ' H'->∃a,a<m/\W a σ' H')/\d { D with nx:=N,ct:=N,bk:=D.nx } σ H1 else D.nx σ H1
def R7(y:jX (model X.prog X.w) X.A X.b1 X.xe)(C:PT X c Q)(B:p5 X body P):PS X (.While c body [] pos) (R0 Q P):=by
 intro a s T H D I h;obtain⟨W,⟨E,R⟩,turn⟩:=h;refine wpAny_While (codeAny_whileLoop (λn F=>∃j r,c3 X a j r F/\W n j r) ?_ E ⟨T,H,I,R⟩);rintro n G ⟨e,t,z,S⟩;refine fY y (fy (C a G e t _ z (turn n e t S)) λb M zz=>?_);obtain⟨u,x,l⟩:=zz;cases b with
 |true=>
  obtain⟨N,hN,l⟩:=l;rw[ak O];refine fY y (fy (B a M e u _ x l) λf U q3=>?_);cases f with
  |next=>obtain⟨d,i,m,q⟩:=q3;obtain⟨p,o,w3⟩:=hN d i q;exact⟨p,o,d,i,m,w3⟩
  |cont=>obtain⟨d,i,m,q⟩:=q3;obtain⟨p,o,w3⟩:=hN d i q;exact⟨p,o,d,i,m,w3⟩
  |brk=>exact q3
  |ret v=>exact q3
 |false=>rw[ao bq];exact jJ ⟨e,u,x,l⟩
end
structure It where
 go:Nat->Hp->Prop
 yld:Nat->Hp->V->Hp->Prop
 N?:Nat->Hp->Prop
def Ls(X:Cx)(a:cD)(H:Hp)(b:Addr):Prop:=
 H b=J/\b≠X.b1.locals/\b∉X.fs/\(b∈X.ex\/X.s₀.heap.objs.size<=b)/\(∀x c,X.b1.cells.lookup x=Z c->c≠b)/\∀p∈X.pn++a,p.1≠b
def c3.υ(I:c3 X d j H s)(a:s.heap.objs.size<=b)(h:f b=J):Ls X d f b:=by
 refine⟨h,gb (cv I.lt a),I.nofs a,.inr (bD I.sz a),λx c e z=>?_,λp i z=>?_⟩
 .obtain⟨v,q⟩:=I.cell x c e;exact aq (cv q.lt (by rw[z];exact a)) (eO _)
 .exact aq (cv (aR (I.O? p i).1) (by rw[z];exact a)) (eO _)
structure Turn(P:aH)(w:az)(K:av)(tg:Expr)(At:It)(fp:List Addr)(it:Addr)(tn:Nat->Heap->Prop):Prop where
 mem:it∈fp
 obj:∀i h,tn i h->∀b∈fp,∃o,h.get? b=Z o/\∀v,o.data≠.cell v
 keep:∀i h h',tn i h->(∀b∈fp,∀o,h.get? b=Z o->h'.get? b=Z o)->tn i h'
 item:∀(X:Cx),X.prog=P->X.w=w->X.K=K->X.nq=γ->∀(i:Nat) (pins:cD) (s:ae) (σ:St) (H:Hp) (E:ab->ae->Prop),c3 X pins σ H s->(∀b∈fp,Ls X pins H b)->tn i s.heap->At.go i H->
  ai (model P w) X.A (pyNext (.ref it)) (λr s1=>∃u,r=Z u/\
   ai (model P w) X.A (gQ tg (.ref it) u) (λ_ s2=>∃x H',c3 X pins σ H' s2/\et x u/\At.yld i H x H'/\tn (i+1) s2.heap/\∀b∈fp,H' b=J) E s1) E s
 done:∀(X:Cx),X.prog=P->X.w=w->X.K=K->X.nq=γ->∀(i:Nat) (pins:cD) (s:ae) (σ:St) (H:Hp) (E:ab->ae->Prop),c3 X pins σ H s->(∀b∈fp,Ls X pins H b)->tn i s.heap->At.N? i H->
  ai (model P w) X.A (pyNext (.ref it)) (λr s1=>r=J/\c3 X pins σ H s1) E s
 self:∀(A:aI) (i:Nat) (s:ae) (Q:ab->ae->Prop) (E:ab->ae->Prop),tn i s.heap->Q (.ref it) s->ai (model P w) A (pyIter (.ref it)) Q E s
abbrev TI:=St->Hp->(It->Hp->Prop)->Prop
def PIE(X:Cx)(a:cD)(l:St)(j:Expr)(R:It->Hp->Prop)(itv:ab)(h:ae):Prop:=
 ∃(f:Addr) (e:List Addr) (i:Nat->Heap->Prop) (d:It) (c:Hp),itv=.ref f/\c3 X a l c h/\Turn X.prog X.w X.K j d e f i/\i 0 h.heap/\(∀b∈e,Ls X a c b)/\R d c
def PI(X:Cx)(d iter:Expr)(e:TI):Prop:=
 ∀(a:cD) (s:ae) (b:St) (H:Hp) (R:It->Hp->Prop),c3 X a b H s->e b H R->
  ai (model X.prog X.w) X.A (eval iter X.b1) (λv c=>ai (model X.prog X.w) X.A (pyIter v) (PIE X a b d R) X.xe c) X.xe s
def O4{s:ae}(c:s.heap.get? d=Z o)(a:o.cls=.type n)(hd:o.data=.fields f)
  (b:["enumerate", "zip", "dict_itemiterator", "dict_reverseitemiterator", "odict_iterator", "itertools.zip_longest", "itertools.pairwise"].contains n=δ) (hQ:Q () s):ai M A (gQ e (.ref d) u) Q E s:=by
 unfold gQ;cases e<;>first
  |exact ar hQ
  |(cases u<;>first
    |exact ar hQ
    |(refine af (wpAny_load c ?_)
      rw[a,hd];show ai M A (if (["enumerate", "zip", "dict_itemiterator", "dict_reverseitemiterator", "odict_iterator", "itertools.zip_longest", "itertools.pairwise"].contains n&&f[0]?==Z (rawInt _))=γ then _ else _) Q E s;rw[ao (by intro h;rw[b,Bool.false_and]at h;cases h)];exact ar hQ))
def Itl(K:av)(a:Addr):It:=
 ⟨λi H=>∃b x,gd K H a b/\b[i]?=Z x,λi H x c=>c=H/\∀b,gd K H a b->b[i]?=Z x,λi H=>∃b,gd K H a b/\b.length<=i⟩
def Itt(K:av)(a:Addr):It:=
 ⟨λi H=>∃b x,ij K H a b/\b[i]?=Z x,λi H x c=>c=H/\∀b,ij K H a b->b[i]?=Z x,λi H=>∃b,ij K H a b/\b.length<=i⟩
def Itr(lo:Int)(n:Nat):It:=⟨λi _=>i<n,λi H x a=>a=H/\x=.int (lo+i),λi _=>n<=i⟩
def QB{P:aH}{w:az}{K:av}{tg:Expr}(a it:Addr):Turn P w K tg (Itl K a) [it] it (λi h=>h.IsListIter it a i) where
 mem:=by simp
 obj:=λi h st b hb=>by
  have e:b=it:=by simpa using hb
  subst e;obtain⟨o,e,c,d⟩:=st;exact⟨o,e,λv z=>by rw[d]at z;cases z⟩
 keep:=λi h h' st k=>st.at λo e=>k it (by simp) o e
 item:=by intro X hP hw hK C i pins s σ H E I hf st hg;subst hP hw hK;obtain⟨xs,x,j,y⟩:=hg;obtain⟨A,B,p,R⟩:=I.list j;obtain⟨u,N,S⟩:=B.get y;obtain⟨l,m,M,q,r,t⟩:=hf it (by simp);refine oq st p.isList (x:=u) (by simpa using N) λh' f T=>?_;have F:c3 X pins σ H { s with heap:=h' }:=I.k? (t':=s.toks) (λb o hb e=>(T.2 b hb).t e) l m q r t;obtain⟨o,e,c,d⟩:=id f;exact⟨u,O,O4 (s:={ s with heap:=h' }) e c d (by decide) ⟨x,H,F,S,⟨O,λY Q=>by rw[I.Q? Q j];exact y⟩,f,λb hb=>(hf b hb).1⟩⟩
 done:=by intro X hP hw hK C i pins s σ H E I hf st hg;subst hP hw hK;obtain⟨xs,j,y⟩:=hg;obtain⟨A,B,p,R⟩:=I.list j;obtain⟨l,m,M,q,r,t⟩:=hf it (by simp);have W:=B.length;exact oG (I.ok.hd C) st p.isList (by simp;omega) λh' G=>⟨O,I.k? (t':=s.toks) (λb o hb e=>G b o hb e) l m q r t⟩
 self:=λ_ _ _ _ _ st h=>wpAny_pyIter_listiter st h
def N0{P:aH}{w:az}{K:av}{tg:Expr}(a it:Addr):Turn P w K tg (Itt K a) [it] it (λi h=>h.IsTupleIter it a i) where
 mem:=by simp
 obj:=λi h st b hb=>by
  have e:b=it:=by simpa using hb
  subst e;obtain⟨o,e,c,d⟩:=st;exact⟨o,e,λv z=>by rw[d]at z;cases z⟩
 keep:=λi h h' st k=>st.at λo e=>k it (by simp) o e
 item:=by intro X hP hw hK C i pins s σ H E I hf st hg;subst hP hw hK;obtain⟨xs,x,l,A⟩:=hg;obtain⟨f,B,p,R⟩:=I.tuple l;obtain⟨u,N,S⟩:=B.get A;obtain⟨m,q,M,r,t,y⟩:=hf it (by simp);refine wpAny_pyNext_tuple_item st (show s.heap.IsTuple a f.toArray from p) (x:=u) (by simpa using N) λh' j T=>?_;have F:c3 X pins σ H { s with heap:=h' }:=I.k? (t':=s.toks) (λb o hb e=>(T.2 b hb).t e) m q r t y;obtain⟨o,e,c,d⟩:=id j;exact⟨u,O,O4 (s:={ s with heap:=h' }) e c d (by decide) ⟨x,H,F,S,⟨O,λY Q=>by rw[I.G? Q l];exact A⟩,j,λb hb=>(hf b hb).1⟩⟩
 done:=by intro X hP hw hK C i pins s σ H E I hf st hg;subst hP hw hK;obtain⟨xs,l,A⟩:=hg;obtain⟨f,B,p,R⟩:=I.tuple l;obtain⟨m,q,M,r,t,y⟩:=hf it (by simp);have W:=B.length;exact wpAny_pyNext_tuple_end (I.ok.hd C) st (show s.heap.IsTuple a f.toArray from p) (by simp;omega) λh' G=>⟨O,I.k? (t':=s.toks) (λb o hb e=>G b o hb e) m q r t y⟩
 self:=λ_ _ _ _ _ st h=>wpAny_pyIter_tupleiter st h
def N1{P:aH}{w:az}{K:av}{tg:Expr}(it:Addr)(lo:Int)(n:Nat):Turn P w K tg (Itr lo n) [it] it (λi h=>IsRangeIter h it (lo+(i:Nat) * 1) ((n:Int) - (i:Nat)) 1) where
 mem:=by simp
 obj:=λi h st b hb=>by
  have e:b=it:=by simpa using hb
  subst e;exact⟨_,st,λv z=>by
   have y:Data.fields _=Data.cell v:=z;cases y⟩
 keep:=λi h h' st k=>k it (by simp) _ st
 item:=by intro X hP hw hK m i pins s σ H E I hf st hg;subst hP hw hK;obtain⟨c,d,r,f,j,l⟩:=hf it (by simp);have W:=Walks.range (prog:=X.prog) (w:=X.w) (I.ok.hd m) it lo 1 n;refine W.item i s _ _ hg st λv h' tk u a x=>?_;obtain⟨t,rfl⟩:=u;have p:c3 X pins σ H { s with heap:=h',toks:=tk }:=I.k? (λb o hb e=>x b o (by simpa using hb) e) c d f j l;refine⟨_,O,O4 (s:={ s with heap:=h',toks:=tk }) (n:="range_iterator") a rfl O (by decide) ⟨.int (lo+i),H,p,⟨t,?_⟩,⟨O,O⟩,a,λb hb=>(hf b hb).1⟩⟩;rw[Int.mul_one]
 done:=by intro X hP hw hK m i pins s σ H E I hf st hg;subst hP hw hK;obtain⟨c,d,r,f,j,l⟩:=hf it (by simp);exact wpAny_pyNext_range_end (I.ok.hd m) st (by have:n<=i:=hg;omega) λh' q=>⟨O,I.k? (t':=s.toks) (λb o hb e=>q b o hb e) c d f j l⟩
 self:=λ_ _ _ _ _ st h=>wpAny_pyIter_rangeiter st h
section
variable{X:Cx}{tg:Expr}
def R8(K:av)(c:TE):TI:=λe H R=>c e H λx b=>∃a,x=.ref a/\(∃d,gd K b a d)/\R (Itl K a) b
def YI(K:av)(c:TE):TI:=λe H R=>c e H λx b=>∃a,x=.ref a/\(∃d,ij K b a d)/\R (Itt K a) b
def VE{l:Expr}{i:TE}(r:PE X l i):PI X tg l (R8 X.K i):=by
 intro c s z H R I h;refine fy (r c s z H _ I h) λv f zz=>?_;obtain⟨x,j,d,y,w⟩:=zz;obtain⟨a,e,⟨E,t⟩,q⟩:=w;subst e;cases y;obtain⟨u,B,p,A⟩:=d.list t;refine fT p.isList ?_;refine⟨f.heap.objs.size,[f.heap.objs.size],_,_,j,O,d.g? (t':=f.toks) λb o e=>aK _ e,QB a _,⟨_,br _ O,O,O⟩,λb m=>?_,q⟩;have e:b=f.heap.objs.size:=by simpa using m
 subst e;exact d.υ (aO _) (d.fx.fresh (aO _))
def YJ{l:Expr}{j:TE}(t:PE X l j):PI X tg l (YI X.K j):=by
 intro c s z H R I h;refine fy (t c s z H _ I h) λv d zz=>?_;obtain⟨x,m,f,y,w⟩:=zz;obtain⟨a,e,⟨E,u⟩,q⟩:=w;subst e;cases y;obtain⟨i,B,p,A⟩:=f.tuple u;refine o9 (show d.heap.IsTuple a i.toArray from p) ?_;refine⟨d.heap.objs.size,[d.heap.objs.size],_,_,m,O,f.g? (t':=d.toks) λb o e=>aK _ e,N0 a _,⟨_,br _ O,O,O⟩,λb r=>?_,q⟩;have e:b=d.heap.objs.size:=by simpa using r
 subst e;exact f.υ (aO _) (f.fx.fresh (aO _))
def ME{pins:cD}{σ:St}{H:Hp}{s:ae}{R:It->Hp->Prop}{E:ab->ae->Prop}{lo hi:Int}{t u v:Tok}{tk:Nat}(I:c3 X pins σ H s)(f:-(2 ^ 62)<=lo)(h:lo<2 ^ 62)(i:-(2 ^ 62)<=hi)(j:hi<2 ^ 62)
  (q:R (Itr lo (hi - lo).toNat) H):ai (model X.prog X.w) X.A (pyIter (.ref s.heap.objs.size)) (PIE X pins σ tg R) E { s with heap:=s.heap.push { cls:=.type "range", data:=.fields #[.int lo t,.int hi u,.int 1 v] },toks:=tk }:=by
 refine wpAny_pyIter_range (IsRange.new ..) (small_one f h i j) ?_;have a:c3 X pins σ H { s with heap:=s.heap.push { cls:=.type "range", data:=.fields #[.int lo t,.int hi u,.int 1 v] },toks:=tk }:=I.g? λb o e=>aK _ e;refine⟨(s.heap.push { cls:=.type "range", data:=.fields #[.int lo t,.int hi u,.int 1 v] }).objs.size,[(s.heap.push { cls:=.type "range", data:=.fields #[.int lo t,.int hi u,.int 1 v] }).objs.size],_,_,H,O,
  a.g? (t':=tk) λb o e=>aK _ e,N1 _ lo (hi - lo).toNat,?_,λb hb=>?_,q⟩
 .have c:lo+((0:Nat):Int) * 1=lo:=by simp
  have d:(((hi - lo).toNat:Nat):Int) - ((0:Nat):Int)=tK lo hi 1:=by rw[rangeSize_one];split<;>omega
  show IsRangeIter _ _ (lo+((0:Nat):Int) * 1) ((((hi - lo).toNat:Nat):Int) - ((0:Nat):Int)) 1;rw[c,d];exact br _ O
 .have e:b=(s.heap.push { cls:=.type "range", data:=.fields #[.int lo t,.int hi u,.int 1 v] }).objs.size:=by simpa using hb
  subst e;exact a.υ (aO _) (a.fx.fresh (aO _))
def XI(b:TA):TI:=λd H R=>b d H λc a=>∃j:Int,c=[.int j]/\-(2 ^ 62)<=j/\j<2 ^ 62/\R (Itr 0 j.toNat) a
def XJ(b:TA):TI:=λd H R=>b d H λc a=>∃i j:Int,c=[.int i,.int j]/\(-(2 ^ 62)<=i/\i<2 ^ 62/\-(2 ^ 62)<=j/\j<2 ^ 62)/\R (Itr i (j - i).toNat) a
def QC{a:Expr}{d:TA}{p pos:Pos}(l:Gl X "range")(m:X.mg "range" = J)(i:PA X [a] d)(o:aC [a] X.b1=[(δ,eval a X.b1)]:=by rfl):PI X tg (.Call (.Name "range" p) [a] [] pos) (XI d):=by
 intro b s y H R I h;refine Call_ (BV I l m boot_range (callWith_type1 (fy (i pos b s y H _ I h) λB A zz=>?_) o O));obtain⟨C,z,f,w,c⟩:=zz;obtain⟨j,e,c,u,q⟩:=c;subst e;cases w with
 |cons r x=>cases x;obtain⟨t,rfl⟩:=r;exact call_range_1 (ME f (by omega) (by omega) c u (by simpa using q))
def QD(u:Gl X "range")(w:X.mg "range" = J)(o:PA X [a,b] C)(x:aC [a,b] X.b1=[(δ,eval a X.b1),(δ,eval b X.b1)]:=by rfl)(c:aC [b] X.b1=[(δ,eval b X.b1)]:=by rfl):
  PI X tg (.Call (.Name "range" p) [a,b] [] pos) (XJ C):=by
 intro d s E H R I h;refine Call_ (BV I u w boot_range (callWith_type1 (fy (o pos d s E H _ I h) λN G zz=>?_) (by rw[x,c]) (by rw[c];rfl)));obtain⟨P,F,m,B,f⟩:=zz;obtain⟨i,j,e,⟨f,y,q3,z⟩,q⟩:=f;subst e;cases B with
 |cons r l=>
  cases l with
  |cons A l=>cases l;obtain⟨t,rfl⟩:=r;obtain⟨M,rfl⟩:=A;exact call_range_2 (ME m f y q3 z q)
def YK(d:TI)(g:TG)(c:TS):TS:=λD σ H=>d σ H λAt H1=>∃W:Nat->Nat->St->Hp->Prop,(∃m,W 0 m σ H1)/\∀i m σ H,W i m σ H->
 (At.N? i H/\D.nx σ H)\/(At.go i H/\∃N:St->Hp->Prop,(∀σ' H',N σ' H'->∃b,b<m/\W (i+1) b σ' H')/\∀x H',At.yld i H x H'->g x σ H' λa H2=>c { D with nx:=N,ct:=N,bk:=D.nx } a H2)
def Ir(a:List Addr)(h:Heap):cD:=a.filterMap λb=>(h.get? b).map λo=>(b,o)
def Am{h:Heap}(a:b∈fp)(e:h.get? b=Z o):(b,o)∈Ir fp h:=iC.2 ⟨b,a,by rw[e];rfl⟩
def QE(f:p∈Ir c h):p.1∈c/\h.get? p.1=Z p.2:=by
 obtain⟨b,d,e⟩:=iC.1 f;cases q:h.get? b with
 |none=>rw[q]at e;cases e
 |some o=>rw[q]at e;have a:(b,o)=p:=cI e;subst a;exact⟨d,q⟩
def c3.X'(I:c3 X a r H s)(l:∀b∈fp,Ls X a H b)(m:∀b∈fp,∃o,s.heap.get? b=Z o/\∀v,o.data≠.cell v):c3 X (a++Ir fp s.heap) r H s:=
 I.ε λp q=>(aT.1 q).elim (λz=>I.O? p (bx _ z)) λz=>by obtain⟨f,e⟩:=QE z;obtain⟨h,i,j,_⟩:=l p.1 f;obtain⟨o,c,d⟩:=m p.1 f;rw[e]at c;cases c;exact⟨e,h,i,j,d⟩
def c3.pa(I:c3 X (a++pl) c H s):c3 X a c H s:=I.ε λp b=>I.O? p (bx _ (bF _ b))
def R9(F:jX (model X.prog X.w) X.A X.b1 X.xe)(hc:X.nq=γ)(hi:PI X tg iter wi)(hg:PG X tg g)(p:p5 X body tb)
  (hs:∀x,iF iter X.b1 x=pure x:=by intro _;rfl):PS X (.For tg iter body [] pos) (YK wi g tb):=by
 intro a s σ H D I h;refine wpAny_For (fy (hi a s σ H _ I h) λv s1 h1=>fy h1 λitv s2 h2=>?_) hs;obtain⟨it,C,tn,At,H2,e,I2,T,Y,f2,W,⟨m0,w0⟩,turn⟩:=h2;subst e;have stat:∀{y:Hp},(∀b∈C,y b=J)->∀b∈C,Ls X a y b:=λhn b p=>⟨hn b p,(f2 b p).2⟩;refine codeAny_forLoop_any (λn s'=>∃i q y,c3 X a q y s'/\tn i s'.heap/\(∀b∈C,y b=J)/\W i n q y) ?_ m0 ⟨0,σ,H2,I2,Y,λb p=>(f2 b p).1,w0⟩;rintro n s3 ⟨i,t,P,I3,M,E,w3⟩;rcases turn i n t P w3 with ⟨N?,qn⟩|⟨go,N,hN,step⟩
 .refine fY F (fy (T.done X O O O hc i a s3 t P X.xe I3 (stat E) M N?) λr s4 zz=>?_);obtain⟨S,I4⟩:=zz;subst S;exact jJ ⟨t,P,I4,qn⟩
 .refine fY F (fy (T.item X O O O hc i a s3 t P X.xe I3 (stat E) M go) λr s4 zz=>?_);obtain⟨u,S,h4⟩:=zz;subst S;refine fY F (fy h4 λ_ s5 zz=>?_);obtain⟨x,H5,I5,r5,y5,B,R⟩:=zz;have Q:=I5.X' (stat R) (T.obj _ _ B);refine fY F (fy (hg _ s5 t H5 x u _ Q r5 (step x H5 y5)) λ_ s6 zz=>?_);obtain⟨σ6,H6,I6,q6⟩:=zz;refine fY F (fy (p _ s6 σ6 H6 _ I6 q6) λf U z=>?_);have again:∀{c:St} {j:Hp},c3 X (a++Ir C s5.heap) c j U->N c j->∃m,m<n/\∃i q y,c3 X a q y U/\tn i U.heap/\(∀b∈C,y b=J)/\W i m q y:=λ{c j} l G=>by obtain⟨m',hm,w7⟩:=hN c j G;refine⟨m',hm,i+1,c,j,l.pa,T.keep _ _ _ B λb p o e=>(l.O? (b,o) (bx _ (bx _ (Am p e)))).1,λb p=>?_,w7⟩;obtain⟨o,e,d⟩:=T.obj _ _ B b p;exact(l.O? (b,o) (bx _ (bx _ (Am p e)))).2.1
  cases f with
  |next=>obtain⟨c,j,l,G⟩:=z;exact again l G
  |cont=>obtain⟨c,j,l,G⟩:=z;exact again l G
  |brk=>obtain⟨c,j,l,z⟩:=z;exact⟨c,j,l.pa,z⟩
  |ret v=>obtain⟨x7,c,j,l,r7,z⟩:=z;exact⟨x7,c,j,l.pa,r7,z⟩
end
abbrev R2:=V->V->Hp->VK->Prop
def ki(X:Cx)(f:ab->ab->Sem ab)(r:R2):Prop:=
 ∀(a:cD) (s:ae) (b:St) (H:Hp) (x y:V) (v u:ab) (Q:VK),c3 X a b H s->et x v->et y u->r x y H Q->
  ai (model X.prog X.w) X.A (f v u) (EP X a b Q) X.xe s
def wY(X:Cx)(f:ab)(r:bN->Hp->VK->Prop):Prop:=
 ∀(a:cD) (s:ae) (d:St) (H:Hp) (c:bN) (b:List ab) (Q:VK),c3 X a d H s->ef c b->r c H Q->
  ai (model X.prog X.w) X.A (call f b) (EP X a d Q) X.xe s
def tOp(r:R2)(d e:TE):TE:=λa H Q=>d a H λx b=>e a b λy c=>r x y c Q
def rI(C:Int->Int->Prop)(g:Int->Int->V):R2:=λx y H Q=>∃i j,x=.int i/\y=.int j/\C i j/\Q (g i j) H
def T'(g:Int->Int->V):R2:=λx y H Q=>∃i j,x=.int i/\y=.int j/\Q (g i j) H
section
variable{X:Cx}{a b c:Expr}{ta tb tc:TE}{pos:Pos}
def YL(r:PE X a ta)(t:PE X b tb){d:cD}{s:ae}{i:St}{H:Hp}{R:V->V->Hp->Prop}(I:c3 X d i H s)
  (h:ta i H λx o=>tb i o λy e=>R x y e) {Q:ab->ae->Prop} {f:ab->ab->Sem ab}
  (z:∀v u m x y e,c3 X d i e m->et x v->et y u->R x y e->ai (model X.prog X.w) X.A (f v u) Q X.xe m):
  ai (model X.prog X.w) X.A (eval a X.b1) (λv j=>ai (model X.prog X.w) X.A (eval b X.b1) (λu l=>ai (model X.prog X.w) X.A (f v u) Q X.xe l) X.xe j) X.xe s:=by
 refine fy (r d s i H _ I h) λv G zz=>?_;obtain⟨x,o,p,E,B⟩:=zz;refine fy (t d G i o _ p B) λu m zz=>?_;obtain⟨y,e,q,F,C⟩:=zz;exact z v u m x y e q E F C
def O5(l:ki X (cJ m) r)(i:PE X a ta)(j:PE X b tb):PE X (.BinOp a m b pos) (tOp r ta tb):=by intro d s w H Q I h;exact wpAny_BinOp (YL i j I h λv u t x y e f o p q=>l d t w e x y v u Q f o p q)
def opI{f:ab->ab->Sem ab}{C:Int->Int->Prop}{g:Int->Int->Int}
  (rule:∀(i j:Int) (t u:Tok) (s:ae) (Q:ab->ae->Prop) (E:ab->ae->Prop),C i j->Q (.int (g i j) s.toks) { s with toks:=s.toks+1 }->ai (model X.prog X.w) X.A (f (.int i t) (.int j u)) Q E s):
  ki X f (rI C λi j=>.int (g i j)):=by
 intro pins s σ H x y v u Q I e l h;obtain⟨i,j,rfl,rfl,d,q⟩:=h;obtain⟨t,rfl⟩:=e;obtain⟨m,rfl⟩:=l;exact rule i j t m s _ _ d ⟨.int (g i j),H,I.xr _,⟨_,O⟩,q⟩
def opI0{f:ab->ab->Sem ab}{g:Int->Int->Int}
  (rule:∀(i j:Int) (t u:Tok) (s:ae) (Q:ab->ae->Prop) (E:ab->ae->Prop),Q (.int (g i j) s.toks) { s with toks:=s.toks+1 }->ai (model X.prog X.w) X.A (f (.int i t) (.int j u)) Q E s):
  ki X f (T' λi j=>.int (g i j)):=by
 intro pins s σ H x y v u Q I d e h;obtain⟨i,j,rfl,rfl,q⟩:=h;obtain⟨t,rfl⟩:=d;obtain⟨l,rfl⟩:=e;exact rule i j t l s _ _ ⟨.int (g i j),H,I.xr _,⟨_,O⟩,q⟩
def VF{f:ab->ab->Sem ab}{g:Int->Int->Bool}
  (rule:∀(i j:Int) (t u:Tok) (s:ae) (Q:ab->ae->Prop) (E:ab->ae->Prop),Q (.bool (g i j)) s->ai (model X.prog X.w) X.A (f (.int i t) (.int j u)) Q E s):
  ki X f (T' λi j=>.I (g i j)):=by
 intro d s o H x y v u Q I e l h;obtain⟨i,j,rfl,rfl,q⟩:=h;obtain⟨t,rfl⟩:=e;obtain⟨m,rfl⟩:=l;exact rule i j t m s _ _ ⟨.I (g i j),H,I,O,q⟩
def YM(i j:Int):Prop:=0<j/\j<1073741824
def CPow(i j:Int):Prop:=0<=j/\j<=1000000/\i.natAbs<2 ^ 64
def VG(i j:Int):Prop:=(-(2 ^ 64)<i/\i<2 ^ 64)\/(-(2 ^ 64)<j/\j<2 ^ 64)
def VG.ok(h:VG i j):IntMulOk i j:=by
 rcases h with ⟨d,e⟩|⟨d,e⟩
 .exact .of_left (qB d e)
 .exact .of_right (qB d e)
def YN:ki X (cJ .Add) (T' λi j=>.int (i+j)):=opI0 λ_ _ _ _ _ _ _ q=>add_int q
def YO:ki X (cJ .Sub) (T' λi j=>.int (i - j)):=opI0 λ_ _ _ _ _ _ _ q=>sub_int q
def YQ:ki X (cJ .Mult) (rI VG λi j=>.int (i * j)):=opI λ_ _ _ _ _ _ _ d q=>mul_int q d.ok
def VH:ki X (cJ .FloorDiv) (rI YM λi j=>.int (i / j)):=opI λi j _ _ _ _ _ d q=>by have e:(0:Int)<j:=d.1;have f:j<1073741824:=d.2;exact floordiv_int (by omega) (by rw[Int.fdiv_eq_ediv_of_nonneg i (by omega)];exact q) (.inl (PyProof.noPylong_small (by omega)))
def YR:ki X (cJ .Mod) (rI (λ_ j=>0<j) λi j=>.int (i % j)):=opI λi j _ _ _ _ _ d q=>by have e:(0:Int)<j:=d;exact mod_int' (by omega) (by rw[Int.fmod_eq_emod_of_nonneg i (by omega)];exact q)
def YS:ki X (cJ .Pow) (rI CPow λi j=>.int (i ^ j.toNat)):=opI λ_ _ _ _ _ _ _ d q=>pow_int_small d.1 d.2.1 d.2.2 q
end
def Sa:V->V->Bool
 |.E,.E=>γ|.E,.int _=>γ|.int _,.E=>γ|.E,.I _=>γ|.I _,.E=>γ|.E,.str _=>γ|.str _,.E=>γ
 |.int _,.int _=>γ|.I _,.I _=>γ|.str _,.str _=>γ|.U _,.U _=>γ
 |.int _,.str _=>γ|.str _,.int _=>γ|.I _,.str _=>γ|.str _,.I _=>γ
 |_,_=>δ
def rEq:R2:=λx y H Q=>Sa x y=γ/\Q (.I (decide (x=y))) H
def rNe:R2:=λx y H Q=>Sa x y=γ/\Q (.I (!decide (x=y))) H
def O6:decide (V.int i=V.int j)=(i==j):=by rw[dg];simp
def Sb:decide (V.I i=V.I j)=(i==j):=by rw[dg];simp
def O7:decide (V.str i=V.str j)=(i==j):=by rw[dg];simp
def O8:decide (V.U i=V.U j)=(i.toList==j.toList):=by rw[dg];cases i;cases j;simp
section
variable{X:Cx}{a b c:Expr}{ta tb tc:TE}{pos:Pos}
def vS(I:c3 X d h H s)(q:Q (.I k) H)(e:k=f):EP X d h Q (.bool f) s:=by subst e;exact⟨.I k,H,I,O,q⟩
def acw:ki X (bz .Eq) rEq:=by
 intro m s o H x y v u Q I l d h;obtain⟨f,q⟩:=h;cases x with
 |E=>
  cases l;cases y with
  |E=>cases d;exact sI (vS I q (by simp))
  |I j=>cases d;exact sJ (vS I q (by simp))
  |int j=>obtain⟨e,rfl⟩:=d;exact sU (vS I q (by simp))
  |str j=>obtain⟨e,rfl⟩:=d;exact sV (vS I q (by simp))
  |_=>exact aq (show δ=γ from f) bq
 |I i=>
  cases l;cases y with
  |E=>cases d;exact sL (vS I q (by simp))
  |I j=>cases d;exact eq_bool (vS I q Sb)
  |str j=>obtain⟨e,rfl⟩:=d;exact sM (vS I q (by simp))
  |_=>exact aq (show δ=γ from f) bq
 |int i=>
  obtain⟨t,rfl⟩:=l;cases y with
  |E=>cases d;exact sW (vS I q (by simp))
  |int j=>obtain⟨e,rfl⟩:=d;exact eq_int (vS I q O6)
  |str j=>obtain⟨e,rfl⟩:=d;exact sX (vS I q (by simp))
  |_=>exact aq (show δ=γ from f) bq
 |str i=>
  obtain⟨t,rfl⟩:=l;cases y with
  |E=>cases d;exact sY (vS I q (by simp))
  |I j=>cases d;exact sN (vS I q (by simp))
  |int j=>obtain⟨e,rfl⟩:=d;exact sZ (vS I q (by simp))
  |str j=>obtain⟨e,rfl⟩:=d;exact eq_str (vS I q O7)
  |_=>exact aq (show δ=γ from f) bq
 |U i=>
  obtain⟨t,rfl⟩:=l;cases y with
  |U j=>obtain⟨e,rfl⟩:=d;exact W.eq_bytes (vS I q O8)
  |_=>exact aq (show δ=γ from f) bq
 |_=>cases y<;>exact aq (show δ=γ from f) bq
def acx:ki X (bz .NotEq) rNe:=by
 intro m s o H x y v u Q I l d h;obtain⟨f,q⟩:=h;cases x with
 |E=>
  cases l;cases y with
  |E=>cases d;exact sO (vS I q (by simp))
  |I j=>cases d;exact sP (vS I q (by simp))
  |int j=>obtain⟨e,rfl⟩:=d;exact tu (vS I q (by simp))
  |str j=>obtain⟨e,rfl⟩:=d;exact tw (vS I q (by simp))
  |_=>exact aq (show δ=γ from f) bq
 |I i=>
  cases l;cases y with
  |E=>cases d;exact sQ (vS I q (by simp))
  |I j=>cases d;exact ne_bool (vS I q (bG not Sb))
  |str j=>obtain⟨e,rfl⟩:=d;exact sR (vS I q (by simp))
  |_=>exact aq (show δ=γ from f) bq
 |int i=>
  obtain⟨t,rfl⟩:=l;cases y with
  |E=>cases d;exact tD (vS I q (by simp))
  |int j=>obtain⟨e,rfl⟩:=d;exact ne_int (vS I q (bG not O6))
  |str j=>obtain⟨e,rfl⟩:=d;exact tE (vS I q (by simp))
  |_=>exact aq (show δ=γ from f) bq
 |str i=>
  obtain⟨t,rfl⟩:=l;cases y with
  |E=>cases d;exact tG (vS I q (by simp))
  |I j=>cases d;exact sS (vS I q (by simp))
  |int j=>obtain⟨e,rfl⟩:=d;exact tH (vS I q (by simp))
  |str j=>obtain⟨e,rfl⟩:=d;exact ne_str (vS I q (bG not O7))
  |_=>exact aq (show δ=γ from f) bq
 |U i=>
  obtain⟨t,rfl⟩:=l;cases y with
  |U j=>obtain⟨e,rfl⟩:=d;exact W.ne_bytes (vS I q (bG not O8))
  |_=>exact aq (show δ=γ from f) bq
 |_=>cases y<;>exact aq (show δ=γ from f) bq
def acy:ki X (bz .Lt) (T' λi j=>.I (decide (i<j))):=VF λ_ _ _ _ _ _ _ q=>lt_int q
def acz:ki X (bz .LtE) (T' λi j=>.I (decide (i<=j))):=VF λ_ _ _ _ _ _ _ q=>le_int q
def acA:ki X (bz .Gt) (T' λi j=>.I (decide (j<i))):=VF λ_ _ _ _ _ _ _ q=>gt_int q
def acB:ki X (bz .GtE) (T' λi j=>.I (decide (j<=i))):=VF λ_ _ _ _ _ _ _ q=>ge_int q
def YT:ki X (bz .Is) (λx y H Q=>y=.E/\Q (.I (decide (x=.E))) H):=by
 intro d s i H x y v u Q I e f h;obtain⟨rfl,q⟩:=h;cases f;refine is_none_gen (vS I q ?_);cases x<;>first
  |(cases e;rfl)
  |(obtain⟨t,rfl⟩:=e;rfl)
def VI:ki X (bz .IsNot) (λx y H Q=>y=.E/\Q (.I (!decide (x=.E))) H):=by
 intro d s i H x y v u Q I e f h;obtain⟨rfl,q⟩:=h;cases f;refine isnot_none_gen (vS I q ?_);cases x<;>first
  |(cases e;rfl)
  |(obtain⟨t,rfl⟩:=e;rfl)
def VJ(o:ki X (bz e) r)(j:PE X a ta)(l:PE X b tb)(m:fZ e b=δ):PE X (.Compare a [e] [b] pos) (tOp r ta tb):=by intro d s z H Q I h;exact wpAny_Compare1 (YL j l I h λv u w x y f i p t q=>o d w z f x y v u Q i p t q) m
def Sd(t:TE):TT:=λe H Q=>t e H λx d=>∃k,x=.I k/\Q k d
def VL(B:ki X (bz i) r)(t:PE X a ta)(w:PE X b tb)(A:fZ i b=δ):PT X (.Compare a [i] [b] pos) (Sd (tOp r ta tb)):=by
 intro d s f H Q I h;refine oF (fy (t d s f H _ I h) λv N ⟨x,j,o,F,C⟩=>fy (w d N f j _ o C) λu P ⟨y,l,p,G,E⟩=>
  fy (B d P f l x y v u _ p F G E) λc R ⟨z,m,q,M,k,e,q3⟩=>?_) A
 subst e;cases M;exact dy ⟨m,q,q3⟩
def N2(r j:R2)(ta tb tc:TE):TE:=λd H Q=>ta d H λx f=>tb d f λy h=>r x y h λz e=>∃k,z=.I k/\
 (if k=γ then tc d e λl i=>j y l i Q else Q (.I δ) e)
def Se(P:ki X (bz p) r)(l:ki X (bz i) U)(F:PE X a ta)(G:PE X b tb)(M:PE X c tc)
  (N:lastMarks [p,i] [b,c]=δ:=by with_unfolding_all rfl):PE X (.Compare a [p,i] [b,c] pos) (N2 r U ta tb tc):=by
 intro f s j H Q I h;refine Compare_chain (fy (F f s j H _ I h) λv s1 ⟨x,t,B,W,R⟩=>chain_link (fy (G f s1 j t _ B R) λu s2 ⟨y,w,C,q,S⟩=>
  fy (P f s2 j w x y v u _ C W q S) λd s3 ⟨z,m,o,Y,k,e,q3⟩=>?_)) N
 subst e;cases Y;refine dy ?_;cases k with
 |false=>exact ite_ff ⟨.I δ,m,o,O,q3⟩
 |true=>exact ite_tt (chain_last (fy (M f s3 j m _ o q3) λw' s4 ⟨z',A,E,r4,T⟩=>l f s4 j A y z' u w' Q E q r4 T))
def Sf(U:ki X (bz p) r)(l:ki X (bz i) r')(P:PE X a ta)(R:PE X b tb)(S:PE X c tc)
  (T:lastMarks [p,i] [b,c]=δ:=by with_unfolding_all rfl):PT X (.Compare a [p,i] [b,c] pos) (Sd (N2 r r' ta tb tc)):=by
 intro f s j H Q I h;refine isTrue_chain (fy (P f s j H _ I h) λv s1 ⟨x,t,C,r1,Y⟩=>test_link (fy (R f s1 j t _ C Y) λu s2 ⟨y,w,E,q,q2⟩=>
  fy (U f s2 j w x y v u _ E r1 q q2) λd s3 ⟨z,m,o,r3,k,e,q3⟩=>?_)) T
 subst e;cases r3;refine dy ?_;cases k with
 |false=>obtain⟨k',M,W⟩:=q3;cases M;exact ite_ff ⟨m,o,W⟩
 |true=>refine ite_tt (test_last (fy (S f s3 j m _ o q3) λw' s4 ⟨z',A,F,r4,q4⟩=>fy (l f s4 j A y z' u w' _ F q r4 q4) λd' s5 ⟨z2,B,G,r5,k2,N,q5⟩=>?_));subst N;cases r5;exact dy ⟨B,G,q5⟩
def F3:(aG:Nat)<2 ^ 63:=by rw[bS];decide
def N3:ki X (cJ .Add) (λx y H Q=>∃i j,x=.str i/\y=.str j/\i.length+j.length<=aG/\Q (.str (i++j)) H):=by intro d s p H x y v u Q I f l h;obtain⟨i,j,rfl,rfl,e,q⟩:=h;obtain⟨t,rfl⟩:=f;obtain⟨m,rfl⟩:=l;exact add_str (λm o=>⟨.str (i++j),H,I.xr _,⟨_,O⟩,q⟩) e
def m1(r:ef [x] f):∃u,f=[u]/\et x u:=by
 cases r with
 |cons d e=>cases e;exact⟨_,O,d⟩
def Y'(r:ef [x,y] j):∃u d,j=[u,d]/\et x u/\et y d:=by
 cases r with
 |cons e f=>
  cases f with
  |cons h i=>cases i;exact⟨_,_,O,e,h⟩
def QF(l:X.nq=γ):wY X (.builtin "max") (λf H Q=>∃i j,f=[.int i,.int j]/\Q (.int (if j > i then j else i)) H):=by
 intro e s y H f w Q I r h;obtain⟨i,j,rfl,q⟩:=h;obtain⟨u,x,rfl,⟨t,rfl⟩,⟨o,rfl⟩⟩:=Y' r;refine max_two_ints (I.ok.hd l) λm p k=>⟨_,H,I.g? k,?_,q⟩;by_cases d:j > i
 .rw[ak d,ak d];exact⟨_,O⟩
 .rw[ao d,ao d];exact⟨_,O⟩
def QG(l:X.nq=γ):wY X (.builtin "min") (λf H Q=>∃i j,f=[.int i,.int j]/\Q (.int (if j<i then j else i)) H):=by
 intro e s y H f w Q I r h;obtain⟨i,j,rfl,q⟩:=h;obtain⟨u,x,rfl,⟨t,rfl⟩,⟨o,rfl⟩⟩:=Y' r;refine min_two_ints (I.ok.hd l) λm p k=>⟨_,H,I.g? k,?_,q⟩;by_cases d:j<i
 .rw[ak d,ak d];exact⟨_,O⟩
 .rw[ao d,ao d];exact⟨_,O⟩
def QH:wY X (.type "int") (λd H Q=>(∃i,d=[.int i]/\Q (.int i) H)\/∃k,d=[.I k]/\Q (.int (if k then 1 else 0)) H):=by
 intro e s l H d j Q I r h;rcases h with ⟨i,rfl,q⟩|⟨k,rfl,q⟩
 .obtain⟨u,rfl,t,rfl⟩:=m1 r;exact call_int_int ⟨.int i,H,I,⟨_,O⟩,q⟩
 .obtain⟨u,rfl,f⟩:=m1 r;cases f;exact call_int_bool ⟨.int (if k then 1 else 0),H,I.xr _,⟨_,O⟩,q⟩
def Lu:wY X (.type "str") (λe H Q=>∃i,e=[.int i]/\i.natAbs.log2<1920/\Q (.str (toString i)) H):=by intro d s l H e j Q I r h;obtain⟨i,rfl,f,q⟩:=h;obtain⟨u,rfl,t,rfl⟩:=m1 r;exact PySem.P.str_of_int f ⟨.str _,H,I.xr _,⟨_,O⟩,q⟩
end
structure N4(h:Heap)(x dx C:Addr)(mA:Str->Option ab):Prop where
 obj:h.get? x=Z (eS C dx)
 ns:h.Ns1 dx mA
 ne:dx≠x
def QI{h:Heap}(n:h.Ns1 f mA):∃c,h.get? f=Z c/\∀name,jY name c=Z (mA name):=by
 obtain⟨o,b,p,l,hd,i,_,j⟩:=n;refine⟨o,l,λname=>?_⟩;have e:=j name;unfold nsFind findBy at e;rw[<-Array.find?_toList]at e;unfold jY;rw[hd];dsimp only;split
 .rename_i y q;rw[q]at e;exact bG Z e
 .rename_i q;rw[q]at e;have a:b.toList.any (·.refKey)=δ:=by rw[pA];intro y m;obtain⟨z,t,hkey⟩:=i y (Array.mem_toList_iff.1 m);simp[DictEntry.refKey,hkey]
  have d:¬b.toList.any (·.refKey)=γ:=by rw[a];exact bq
  rw[ao d];exact bG Z e
def N4.look(I:N4 h x b C mA):∃a,W.InstAt h x (eS C b) C (Z a)/\∀name,jY name a=Z (mA name):=
 let ⟨a,d,c⟩:=QI I.ns
 ⟨a,⟨I.obj,O,O,d⟩,c⟩
section
variable{prog:aH}{w:az}{A:aI}{E:ab->ae->Prop}{s:ae}{K:av}{x dx C f:Addr}{mA:Str->Option ab}{name:Str}{v:ab}
def get_map(X:K.In s.heap)(I:N4 s.heap x dx C mA)(hg:jV K C name=γ)(b:mN K C=γ)
  (ha:cP K (.ref C) name=Z J) (d:mA name=Z v) (a:W.handedIn v=γ) (h:Q v { s with toks:=s.toks+1 }):
  ai (model prog w) A (getAttr (.ref x) name expr) Q E s:=by
 obtain⟨od,At,c⟩:=I.look;exact W.get_value X At (mf hg).1 (W.findObj_own b ha O (by rw[c,d])) a h
def Sg(X:K.In s.heap)(I:N4 s.heap x dx C mA)(a:jV K C name=γ)
  (c:cP K (.ref C) name=Z (Z (.ref f))) (e:j2 K (.ref f)=γ) (i:mA name=J) (h:Q (.ref f,[.ref x]) s):
  ai (model prog w) A (getMethod (.ref x) name pl) Q E s:=by
 obtain⟨j,b,d⟩:=I.look;exact W.method_fn X b (mf a).1 (mf a).2 c (beq_iff_eq.mp e) (by show (jY name j).map (·.isSome)=Z δ;rw[d,i];rfl) h
def VM(X:K.In s.heap)(I:N4 s.heap x dx C mA)
  (m:cP K (.ref C) "__setattr__" = Z (Z (.builtin "object.__setattr__"))) (l:qU K C=γ) (p:m3 K C name=Z J) (j:mN K C=γ)
  (hw:mC mA ns) (o:ns.length<=aG)
  (h:∀h',N4 h' x dx C (λy=>if y=name then Z v else mA y)->dD dx s.heap h'->Q () { s with heap:=h',toks:=s.toks+2 }):
  ai (model prog w) A (setAttr (.ref x) name v) Q E s:=by
 obtain⟨od,At,u⟩:=I.look;refine W.set_plain X At m (W.osa_open (s:={ s with toks:=s.toks+1 }) (r:=J) X At l p λb=>?_);obtain⟨t,i,e⟩:=W.any_some j;have q:s.heap.get? x=Z ⟨.ref C,Z dx,.plain,#[]⟩:=I.obj;refine af (ar (af (af (wpAny_loadPart q (af (W.Looks.here (s:={ s with toks:=s.toks+1 }) (W.looks_clsIn X i) ?_))))));rw[e];refine ar (a:=Z dx) (af (ar (af ?_)));refine wpAny_nsSet1 (s:={ s with toks:=s.toks+1 }) I.ns λh' c d=>?_;obtain⟨oD,esD,epD,hoD,hdD,hcD⟩:=c.count (uz name v hw);refine af (wpAny_lookBehind hoD (by rw[hdD];exact pastItsLine_dict (bD hcD (by rw[aN];omega))) ?_);exact ar (h _ ⟨(d.2 _ (dj I.ne)).t I.obj,c,I.ne⟩ d)
def Sh(X:K.In s.heap)(hm:m5 K C=γ)
  (hi:cP K (.ref C) "__init__" = Z (Z (.ref f))) (hf:W.typeIn K (.ref f)=Z (.type "function"))
  (h:cw (model prog w) (A.under (.builtin "type.__call__" ⟨.ref C::vs,a⟩)) (.call (.ref f) ⟨.ref (s.heap.objs.size+1)::vs,a⟩) (W.InitBack (s.heap.objs.size+1) R)
   { s with heap:=(s.heap.push dZ).push (eS C s.heap.objs.size) }):
  cw (model prog w) A (.call (.ref C) ⟨vs,a⟩) R s:=by
 obtain⟨b,g,d,t,os⟩:=s;exact qV (mZ X hm) (qm X hi) (λself=>W.bind_fn X self hf) (.inl O) h
def QJ(X:K.In s.heap)(hm:m5 K C=γ)
  (hi:cP K (.ref C) "__init__" = Z (Z (.builtin "object.__init__")))
  (hb:∀self,W.Looks (model prog w) s.heap (bindSpecial (.builtin "object.__init__") self) (.builtin "object.__init__", [self]))
  (h:cw (model prog w) (A.under (.builtin "type.__call__" ⟨[.ref C],[]⟩)) (.call (.builtin "object.__init__") ⟨[.ref (s.heap.objs.size+1)],[]⟩) (W.InitBack (s.heap.objs.size+1) R)
   { s with heap:=(s.heap.push dZ).push (eS C s.heap.objs.size) }):
  cw (model prog w) A (.call (.ref C) ⟨[],[]⟩) R s:=by
 obtain⟨a,g,d,t,os⟩:=s;exact qV (mZ X hm) (qm X hi) hb (.inr ⟨O,O⟩) h
end
def Bx(f:Str)(v:V):List (Str×V)->List (Str×V)
 |[]=>[(f,v)]
 |(g,x)::r=>if g=f then (g,v)::r else (g,x)::Bx f v r
theorem GK(f g:Str)(v:V):∀fs:List (Str×V),(Bx f v fs).lookup g=if g=f then Z v else fs.lookup g
 |[]=>by
  show dE g [(f,v)]=_;by_cases h:g=f
  .have a:(g==f)=γ:=beq_iff_eq.mpr h;simp only[dE,a,ak h]
  .have a:(g==f)=δ:=beq_eq_false_iff_ne.2 h;simp only[dE,a,ao h]
 |(k,x)::r=>by
  have c:=GK f g v r;rw[show Bx f v ((k,x)::r)=(if k=f then (k,v)::r else (k,x)::Bx f v r) from O];by_cases b:k=f
  .rw[ak b];by_cases h:g=k
   .have a:(g==k)=γ:=beq_iff_eq.mpr h;simp only[dE,a,ak (h.t b)]
   .have a:(g==k)=δ:=beq_eq_false_iff_ne.2 h;simp only[dE,a,ao (λe:g=f=>h (e.t b.symm))]
  .rw[ao b];by_cases h:g=k
   .have a:(g==k)=γ:=beq_iff_eq.mpr h;simp only[dE,a,ao (λe:g=f=>b (h.symm.t e))]
   .have a:(g==k)=δ:=beq_eq_false_iff_ne.2 h;simp only[dE,a];exact c
theorem F4(f:Str)(v:V):∀fs:List (Str×V),f∈(Bx f v fs).map (·.1)/\∀g,g∈fs.map (·.1)->g∈(Bx f v fs).map (·.1)
 |[]=>⟨by simp[Bx],λg h=>by simp at h⟩
 |(k,x)::r=>by
  obtain⟨b,c⟩:=F4 f v r;rw[show Bx f v ((k,x)::r)=(if k=f then (k,v)::r else (k,x)::Bx f v r) from O];by_cases a:k=f
  .rw[ak a];subst a;exact⟨by simp,λg h=>by simpa using h⟩
  .rw[ao a];refine⟨?_,λg h=>?_⟩
   .rw[aJ];exact ba _ b
   .rw[aJ]at h ⊢;rcases aL.1 h with e|e
    .exact aL.2 (.inl e)
    .exact ba _ (c g e)
theorem GL(f:Str)(v:V):∀fs:List (Str×V),(Bx f v fs).length<=fs.length+1
 |[]=>by simp[Bx]
 |(k,x)::r=>by
  have b:=GL f v r;rw[show Bx f v ((k,x)::r)=(if k=f then (k,v)::r else (k,x)::Bx f v r) from O];by_cases a:k=f
  .rw[ak a,aN,aN];omega
  .rw[ao a,aN,aN];omega
def CU.K3(r:CU (Z v) o):∃u,o=Z u/\et v u:=by
 cases o with
 |none=>exact(show False from r).elim
 |some u=>exact⟨u,O,r⟩
def CU.none_of(r:CU J o):o=J:=by
 cases o with
 |none=>rfl
 |some u=>exact(show False from r).elim
def QK(r:et v u):W.handedIn u=γ:=by
 cases v with
 |E=>cases (show u=Value.none from r);rfl
 |I b=>cases (show u=Value.bool b from r);rfl
 |int i=>obtain⟨t,e⟩:=(show ∃t,u=Value.int i t from r);cases e;rfl
 |str x=>obtain⟨t,e⟩:=(show ∃t,u=Value.str x t from r);cases e;rfl
 |U b=>obtain⟨t,e⟩:=(show ∃t,u=Value.bytes b t from r);cases e;rfl
 |flt b=>obtain⟨t,e⟩:=(show ∃t,u=Value.float b t from r);cases e;rfl
 |ref a=>cases (show u=Value.ref a from r);rfl
 |ty n=>cases (show u=Value.type n from r);rfl
section
variable{P:aH}{w:az}{H H':Hp}{h h':Heap}{a C dx:Addr}{fs fs':List (Str×V)}
def EN(fx:rz P w H h)(e:H a=Z (.nj C dx fs)):∃mA,N4 h a dx C mA/\(∀f,CU (fs.lookup f) (mA f))/\mC mA (fs.map (·.1))/\fs.length<=1000/\H dx=Z (.jj a):=by obtain⟨d,z,b,c,mA,n,r,q⟩:=(show wI P w H h a (.nj C dx fs) from fx a _ e);exact⟨mA,⟨c,n,b⟩,r,q,z,d⟩
end
structure W1(K:av)(C:Addr):Prop where
 pg:jV K C Str.empty=γ
 hd:mN K C=γ
 po:qU K C=γ
 sa:cP K (.ref C) "__setattr__" = Z (Z (.builtin "object.__setattr__"))
def W1.get{K:av}{C:Addr}(c:W1 K C)(f:Str):jV K C f=γ:=c.pg
def An(K:av)(C:Addr)(f:Str):Prop:=cP K (.ref C) f=Z J
def An.taker{K:av}{C:Addr}{f:Str}(n:An K C f):m3 K C f=Z J:=by unfold m3;rw[show cP K (.ref C) f=Z J from n];rfl
structure Meth(K:av)(C:Addr)(m:Str)(f:Addr):Prop where
 i?:cP K (.ref C) m=Z (Z (.ref f))
 fn:j2 K (.ref f)=γ
 kp:d9 K (.ref f)=γ
section
variable{X:Cx}{pins:cD}{σ:St}{H:Hp}{s:ae}{a C dx:Addr}{fs:List (Str×V)}{f:Str}{v:V}{A:aI}{E:ab->ae->Prop}
def N5(I:c3 X pins σ H s)(e:H a=Z (.nj C dx fs))(c:W1 X.K C)(n:An X.K C f)(l:fs.lookup f=Z v)
  (h:∀u i,c3 X pins σ H i->et v u->Q u i):ai (model X.prog X.w) A (getAttr (.ref a) f b) Q E s:=by
 obtain⟨mA,j,r,_,_,_⟩:=EN I.fx e;obtain⟨u,m,d⟩:=CU.K3 (v:=v) (o:=mA f) (by rw[<-l];exact r f);exact get_map I.qi j (c.get f) c.hd n m (QK d) (h u _ (I.xr _) d)
def Iu(I:c3 X pins σ H s)(e:H a=Z (.nj C dx fs))(c:W1 X.K C)(k:Meth X.K C m g)(l:fs.lookup m=J)
  (h:Q (.ref g,[.ref a]) s):ai (model X.prog X.w) A (getMethod (.ref a) m pl) Q E s:=by
 obtain⟨mA,b,r,_,_,_⟩:=EN I.fx e;have d:mA m=J:=CU.none_of (by rw[<-l];exact r m);exact Sg I.qi b (c.get m) k.i? k.fn d h
def N6(I:c3 X pins σ H s)(e:H a=Z (.nj C dx fs))(c:W1 X.K C)(n:An X.K C f)(P:fs.length<1000)(M:et y u)
  (h:∀l,c3 X pins σ (ff H a (.nj C dx (Bx f y fs))) l->Q () l):ai (model X.prog X.w) A (setAttr (.ref a) f u) Q E s:=by
 obtain⟨mA,d,r,m,_,j⟩:=EN I.fx e;have G:(fs.map (·.1)).length<=aG:=by rw[ah,bS];omega
 refine VM I.qi d c.sa c.po n.taker c.hd m G λt i N=>h _ ?_;have hd:∃o,t.get? dx=Z o:=let ⟨o,_,_,p,_⟩:=i.ns;⟨o,p⟩;refine I.vr (x:=a) (e:=dx) (by rw[e];exact True.intro) (.inr j) (λb q B z=>(N.2 b B).t z) hd ?_;refine⟨by rw[vn d.ne];exact j,?_,d.ne,i.obj,_,i.ns,λg=>?_,λg F=>?_⟩
 .have:=GL f y fs;omega
 .show CU ((Bx f y fs).lookup g) (if g=f then Z u else mA g);rw[GK];by_cases q:g=f
  .rw[ak q,ak q];exact M
  .rw[ao q,ao q];exact r g
 .by_cases q:g=f
  .rw[q];exact(F4 f y fs).1
  .refine(F4 f y fs).2 g (m g λz=>F ?_);show (if g=f then Z u else mA g)=J;rw[ao q];exact z
def c3.made(I:c3 X pins σ H s):c3 X pins σ (ff (ff H s.heap.objs.size (.jj (s.heap.objs.size+1))) (s.heap.objs.size+1) (.nj C s.heap.objs.size []))
  { s with heap:=(s.heap.push dZ).push (eS C s.heap.objs.size) }:=by
 have c:(s.heap.push dZ).get? s.heap.objs.size=Z dZ:=br s.heap O;have h:((s.heap.push dZ).push (eS C s.heap.objs.size)).get? (s.heap.objs.size+1)=Z (eS C s.heap.objs.size):=by
  have:=br (s.heap.push dZ) (o:=eS C s.heap.objs.size) O
  rwa [cZ]at this
 have i:(s.heap.push dZ).Ns s.heap.objs.size (λ_=>J):=⟨dZ,#[],_,c,O,(λe j=>aq j (by simp)),λ_=>O⟩;have d:=I.laid (a:=s.heap.objs.size) (o:=.jj (s.heap.objs.size+1)) (h':=s.heap.push dZ) (t':=s.toks) (λb u q=>aK _ q) (aO _) ⟨_,c⟩;refine d.laid (a:=s.heap.objs.size+1) (o:=.nj C s.heap.objs.size []) (t':=s.toks) (λb u q=>aK _ q) (qL (cZ _ _)) ?_;have ne:s.heap.objs.size≠s.heap.objs.size+1:=bc (dA _);refine⟨by rw[vn ne,vb],cq _,ne,h,λ_=>J,(Heap.Ns1.of_empty i).at λo q=>aK _ q,λ_=>True.intro,λy l=>aq O l⟩
def VN(c:fI e f b1 (eval e b1)=eval e b1)
  (h:ai (model prog w) A (eval e b1) (λo b=>ai (model prog w) A (getAttr o f γ) Q E b) E s):ai (model prog w) A (eval (.Attribute e f pos) b1) Q E s:=
 Attribute_any_ h (by rw[arm_eval_Attribute,c])
end
def tFld(K:av)(d:TE)(f:Str):TE:=λe H Q=>d e H λx b=>∃a C c fs v,x=.ref a/\b a=Z (.nj C c fs)/\W1 K C/\An K C f/\fs.lookup f=Z v/\Q v b
def sFld(K:av)(h i:TE)(f:Str):TS:=λD b H=>i b H λy e=>h b e λx c=>∃a C d fs,x=.ref a/\c a=Z (.nj C d fs)/\W1 K C/\An K C f/\fs.length<1000/\
 D.nx b (ff c a (.nj C d (Bx f y fs)))
section
variable{X:Cx}{o e value:Expr}{f:Str}{pos pos' tpos:Pos}{ta tv:TE}
def YU(t:PE X e ta)(r:fI e f X.b1 (eval e X.b1)=eval e X.b1):PE X (.Attribute e f pos) (tFld X.K ta f):=by intro b s z H Q I h;refine VN r (fy (t b s z H _ I h) λu B zz=>?_);obtain⟨x,d,i,y,a,C,A,fs,v,p,m,c,n,l,q⟩:=zz;subst p;obtain rfl:u=Value.ref a:=y;exact N5 i m c n l λF E j w=>⟨v,d,j,w,q⟩
def YV(w:PE X o ta)(A:PE X value tv)(z:dG value (Z (.Attribute o f pos')) pos.line X.b1=pure δ):PS X (.Assign [.Attribute o f pos'] value pos) (sFld X.K ta tv f):=by intro b s d H D I h;refine plainObj_wpAny_Assign_Attribute (fy (A b s d H _ I h) λu M ⟨y,i,j,G,q⟩=>fy (w b M d i _ j q) λB Q zz=>?_) z;obtain⟨x,N,m,F,a,C,P,fs,t,r,c,n,l,E⟩:=zz;subst t;obtain rfl:B=Value.ref a:=F;exact N6 m r c n l G λR p=>⟨d,_,p,E⟩
end
section
variable{X:Cx}{pins:cD}{σ:St}{H:Hp}{s:ae}{A:aI}{E:ab->ae->Prop}{Q:ab->ae->Prop}{c:ab}{b:Bool}
inductive HM(K:av) (H:Hp):V->ab->Prop where
 |E:HM K H .E (.type "NoneType")
 |I (x:Bool):HM K H (.I x) (.type "bool")
 |int (i:Int):HM K H (.int i) (.type "int")
 |str (x:Str):HM K H (.str x) (.type "str")
 |flt (x:UInt64):HM K H (.flt x) (.type "float")
 |bt {a:Addr} {xs:bN} (e:H a=Z (.bt xs)):HM K H (.ref a) (.type "list")
 |n? {a:Addr} {o:Obj} {xs:bN} (e:H a=Z (.n? o (.bt xs))):HM K H (.ref a) (.type "list")
 |du {a:Addr} {xs:bN} (e:H a=Z (.du xs)):HM K H (.ref a) (.type "tuple")
 |dK {a:Addr} {kvs:List (fc×V)} (e:H a=Z (.dK kvs)):HM K H (.ref a) (.type "dict")
 |dT {a:Addr} {kvs:List (List fc×V)} (e:H a=Z (.dT kvs)):HM K H (.ref a) (.type "dict")
 |nj {a C dx:Addr} {fs:List (Str×V)} (e:H a=Z (.nj C dx fs)) (cl:W1 K C) (ha:cP K (.ref C) "__class__" = Z (Z (.builtin "object.__class__")))
   (hn:qW K (.builtin "object.__class__") "__get__" = Z (Z (.builtin "getset_descriptor.__get__"))) (htk:W.takesIn K (.builtin "object.__class__")=Z γ)
   (hm:W.mroIn K C (.type "object")=Z γ):HM K H (.ref a) (.ref C)
def Ae(I:c3 X pins σ H s)(f:et x u)(ty:HM X.K H x t)(e:di X.K t c=Z b)(h:∀tk,Q (.bool b) { s with toks:=tk }):
  ai (model X.prog X.w) A (call (.builtin "isinstance") [u,c]) Q E s:=by
 cases ty with
 |E=>cases (show u=Value.none from f);exact cO qX I.qi True.intro e (λz=>nomatch z) h
 |I y=>cases (show u=Value.bool y from f);exact cO qY I.qi True.intro e (λz=>nomatch z) h
 |int i=>obtain⟨t,q⟩:=(show ∃t,u=Value.int i t from f);cases q;exact cO W.kitx_int I.qi True.intro e (λz=>nomatch z) h
 |str y=>obtain⟨t,q⟩:=(show ∃t,u=Value.str y t from f);cases q;exact cO W.kitx_str I.qi True.intro e (λz=>nomatch z) h
 |flt y=>obtain⟨t,q⟩:=(show ∃t,u=Value.float y t from f);cases q;exact cO W.kitx_float I.qi True.intro e (λz=>nomatch z) h
 |@bt a xs d=>cases (show u=Value.ref a from f);obtain⟨_,_,n,_,j⟩:=(show wI X.prog X.w H s.heap a (.bt xs) from I.fx a _ d);exact cO iV I.qi ⟨_,j,O⟩ e (λz=>nomatch z) h
 |@n? a ob xs d=>cases (show u=Value.ref a from f);obtain⟨_,_,_,n,_,j⟩:=(show wI X.prog X.w H s.heap a (.n? ob (.bt xs)) from I.fx a _ d);exact cO iV I.qi ⟨_,j,O⟩ e (λz=>nomatch z) h
 |@du a xs d=>cases (show u=Value.ref a from f);obtain⟨_,_,_,p⟩:=(show wI X.prog X.w H s.heap a (.du xs) from I.fx a _ d);obtain⟨o,j,l,_⟩:=p;exact cO mF I.qi ⟨o,j,l⟩ e (λz=>nomatch z) h
 |@dK a kvs d=>cases (show u=Value.ref a from f);obtain⟨_,_,vs,_,p⟩:=(show wI X.prog X.w H s.heap a (.dK kvs) from I.fx a _ d);obtain⟨o,es,ep,j,l,_⟩:=p;exact cO jS I.qi ⟨o,j,l.1⟩ e (λz=>nomatch z) h
 |@dT a kvs d=>cases (show u=Value.ref a from f);obtain⟨_,_,xs,_,o,es,ep,j,l,_⟩:=(show wI X.prog X.w H s.heap a (.dT kvs) from I.fx a _ d);exact cO jS I.qi ⟨o,j,l.1⟩ e (λz=>nomatch z) h
 |@nj a C dx fs d cl ha hn htk hm=>cases (show u=Value.ref a from f);obtain⟨mA,m,_⟩:=EN I.fx d;obtain⟨od,At,_⟩:=m.look;exact cO (W.kitx_own (cl.get _) cl.hd ha hn htk hm) I.qi At e (λz=>nomatch z) h
end
structure xA(k:Nat)(A:aI):Prop where
 hd:A.handled=J
 dp:A.depth+3 * k+5<recursionLimit
 un:A.units+16 * k+200<cLine
def xA.mono(r:xA k A)(h:j<=k):xA j A:=⟨r.hd,by have:=r.dp;omega,by have:=r.un;omega⟩
theorem xA.deeper(r:xA (k+1) A)(b1:Env):xA k (A.deeper b1):=
 ⟨r.hd,by have:=r.dp;show A.depth+1+3 * k+5<_;omega,by have:=r.un;show A.units+3+16 * k+200<_;omega⟩
def N7{A:aI}:(A.under (.builtin "type.__call__" ⟨.ref C::b,a⟩)).depth=A.depth+1:=by
 first|rfl|simp[mG,Code.weight,Code.isCreation,Code.isGuard,Code.isCaller,qZ,mH,guardIds]
def N8{A:aI}:(A.under (.builtin "type.__call__" ⟨.ref C::b,a⟩)).units=A.units+1:=by
 first|rfl|simp[mG,Code.cUnits,qZ,mH]
def xA.make(r:xA (k+1) A)(C:Addr)(b:List ab)(a:List (Str×ab)):xA k (A.under (.builtin "type.__call__" ⟨.ref C::b,a⟩)):=
 ⟨r.hd,by have:=r.dp;rw[N7];omega,by have:=r.un;rw[N8];omega⟩
theorem xA.depth(r:xA k A):A.depth<recursionLimit:=by have:=r.dp;omega
theorem xA.units(r:xA k A):A.units+64<cLine:=by have:=r.un;omega
def JZ:TA:=λ_ H Q=>Q [] H
def D6(d:TE)(e:TA):TA:=λa H Q=>d a H λx b=>e a b λf c=>Q (x::f) c
section
variable{X:Cx}{e:Expr}{es:List Expr}{te:TE}{t:TA}{pos:Pos}
def zP:PA X [] JZ:=λ_ _ _ _ H Q I h=>fV ⟨[],H,I,.nil,h⟩
def xi(j:PE X e te)(l:PA X es t)(m:aC (e::es) X.b1=(δ,eval e X.b1)::aC es X.b1:=by rfl):PA X (e::es) (D6 te t):=by intro pos a s b H Q I h;rw[m];show ai _ _ (spliced ((δ,eval e X.b1)::bE pos (aC es X.b1))) _ _ s;refine eE (fy (j a s b H _ I h) λu w zz=>?_);obtain⟨x,c,f,q,o⟩:=zz;exact fy (l pos a w b c _ f o) λA z ⟨y,d,i,r,p⟩=>⟨x::y,d,i,.cons q r,p⟩
def tTup(t:TA):TE:=λc H Q=>t c H λb a=>b.length<=aG/\∀p,a p=J->Q (.ref p) (ff a p (.du b))
def tLst(t:TA):TE:=λc H Q=>t c H λb a=>b.length<=aG/\∀p,a p=J->Q (.ref p) (ff a p (.bt b))
def Si{m}(h:PA X es t):PE X (.Tuple es m pos) (tTup t):=by intro a s p H Q I j;refine wpAny_Tuple_spliced (fy (h pos a s p H _ I j) λl c ⟨o,d,f,r,z,q⟩=>⟨by rw[<-r.length];exact z,?_⟩);have i:d c.heap.objs.size=J:=f.fx.fresh (aO _);refine⟨.ref c.heap.objs.size,ff d c.heap.objs.size (.du o),f.laid (t':=c.toks) (λb u e=>aK _ e) (aO _) ?_,O,q _ i⟩;exact⟨z,l,r,⟨_,br _ O,O,_,O⟩⟩
def Sj(h:PA X es t):PE X (.List es pos) (tLst t):=by intro a s o H Q I j;refine wpAny_List_spliced (fy (h pos a s o H _ I j) λl c ⟨m,d,f,r,z,q⟩=>⟨by rw[<-r.length];exact z,?_⟩);have i:d c.heap.objs.size=J:=f.fx.fresh (aO _);refine⟨.ref c.heap.objs.size,ff d c.heap.objs.size (.bt m),f.laid (t':=c.toks) (λb u e=>aK _ e) (aO _) ?_,O,q _ i⟩;exact⟨z,l,0,r,br _ O⟩
end
abbrev Sp:=bN->Hp->VK->XK->Prop
abbrev CXT:=List Env->Hp->ae->XK->ab->ae->Prop
structure N9(P:aH)(w:az)(K:av)(mg:Str->Option ab)(b?:Heap)(A:aI)(da:List Env)(s:ae)(H:Hp):Prop where
 frames:A.frames=Z da
 Hj:Mod K mg b?
 bs:∀b o,b?.get? b=Z o->s.heap.get? b=Z o/\H b=J
 bsz:b?.objs.size<=s.heap.objs.size
 tz:s.heap.FunFrames b? da
 frf:∀b∈frs da,H b=J
 fx:rz P w H s.heap
 l':eT s.gens
def CE(da:List Env)(P:aH)(w:az)(H:Hp)(s:ae)(Q:VK)(u:ab)(a:ae):Prop:=
 ∃v b,a.os=s.os/\eT a.gens/\Un (frs da) [] H b s.heap a.heap/\rz P w b a.heap/\et v u/\Q v b
def CR(CX:CXT)(da:List Env)(P:aH)(w:az)(H:Hp)(s:ae)(Q:VK)(E:XK)(r:gp)(a:ae):Prop:=
 match r with
 |.ok (.ret u)=>CE da P w H s Q u a
 |.ok _=>False
 |.error e=>CX da H s E e a
structure zm(P:aH)(w:az)(K:av)(mg:Str->Option ab)(b?:Heap)(CX:CXT)(k:Nat)(f:Addr)(fd:bV)(ps:aF)(sp:Sp):Prop where
 len:∀vs H Q E,sp vs H Q E->vs.length=ps.length
 run:∀(A:aI) (da:List Env) (s:ae) (H:Hp) (args:Args) (us:List ab) (vs:bN) (Q:VK) (E:XK),xA k A->N9 P w K mg b? A da s H->hZ s fd args (ps.zip us)->ef vs us->sp vs H Q E->
  cw (model P w) A (.call (.ref f) args) (CR CX da P w H s Q E) s
theorem zm.mono{P:aH}{w:az}{K:av}{b:Str->Option ab}{b?:Heap}{CX:CXT}{j k:Nat}{f:Addr}{a:bV}{c:aF}{d:Sp}(F:zm P w K b b? CX j f a c d)(h:j<=k):
  zm P w K b b? CX k f a c d:=⟨F.len,λA da s H args i l Q E e=>F.run A da s H args i l Q E (e.mono h)⟩
theorem zm.imp{P:aH}{w:az}{K:av}{d:Str->Option ab}{b?:Heap}{CX:CXT}{k:Nat}{f:Addr}{c:bV}{ps:aF}{e b:Sp}(F:zm P w K d b? CX k f c ps e)
  (h:∀a H Q E,b a H Q E->e a H Q E):zm P w K d b? CX k f c ps b:=
 ⟨λa H Q E q=>F.len a H Q E (h _ _ _ _ q),λA da s H args p a Q E l j i o m=>F.run A da s H args p a Q E l j i o (h _ _ _ _ m)⟩
def N9.make{P:aH}{w:az}{K:av}{a:Str->Option ab}{b?:Heap}{A:aI}{da:List Env}{s:ae}{H:Hp}(e:N9 P w K a b? A da s H)(C:Addr)(c:List ab)(b:List (Str×ab)):
  N9 P w K a b? (A.under (.builtin "type.__call__" ⟨.ref C::c,b⟩)) da s H:=⟨by first|exact e.frames|(simpa [mG,Code.envs,mH,pushEnvs]using e.frames),e.Hj,e.bs,e.bsz,e.tz,e.frf,e.fx,e.l'⟩
section
variable{X:Cx}{pins:cD}{σ:St}{H:Hp}{s s':ae}
def c3.env0(I:c3 X pins σ H s):N9 X.prog X.w X.K X.mg X.b? X.A X.kb s H:=
 ⟨I.ok.frames,I.ok.Hj,I.bs,bD I.ok.bsz I.sz,I.kb,I.X?,I.fx,I.l'⟩
def c3.after(I:c3 X pins σ H s)(h:CE X.kb X.prog X.w H s Q u s'):EP X pins σ Q u s':=by obtain⟨v,c,os,l',un,fx,r,q⟩:=h;obtain⟨e,g,d,t,a⟩:=s';obtain rfl:a=s.os:=os;exact⟨v,c,I.call (h':=e) (g':=g) (d':=d) (t':=t) (ch:=[]) un fx l' (λb z=>aq z (by simp)),r,q⟩
end
def EO(b:Sp)(dvs:bN)(E:XK)(t:TA):TE:=λd H Q=>t d H λc a=>b (c++dvs) a Q E
def XM(C:Addr)(d:Sp)(dvs:bN)(E:XK)(t:TA):TE:=λf H Q=>t f H λe b=>∀x a,b x=J->b a=J->a≠x->
 d (.ref x::(e++dvs)) (ff (ff b a (.jj x)) x (.nj C a [])) (λv c=>v=.E/\Q (.ref x) c) E
def l?(K:av)(d:bV)(c:aF)(b:List ab):Prop:=
 ∀(s:ae) (a:List ab),K.In s.heap->(a++b).length=c.length->hZ s d ⟨a,[]⟩ (c.zip (a++b))
def l?.all{K:av}{c:bV}{b:aF}(h:∀a:List ab,a.length=b.length->bindArgs c ⟨a,[]⟩=pure (b.zip a)):l? K c b []:=λs a _ d=>by rw[bR]at d ⊢;exact .of_eq (h a d)
def rm(CX:CXT)(X:Cx)(E:XK):Prop:=∀(a:cD) (c:St) (H:Hp) (s:ae) (e:ab) (b:ae),c3 X a c H s->CX X.kb H s E e b->X.xe e b
section
variable{X:Cx}{CX:CXT}{k:Nat}{f C:Addr}{fd:bV}{ps:aF}{sp:Sp}{dvs:bN}{ds:List ab}{E:XK}{x m:Str}{p pos apos:Pos}{e o:Expr}{es:List Expr}{ta:TE}{t:TA}
theorem Lv(F:zm X.prog X.w X.K X.mg X.b? CX k f fd ps sp)(q:xA k X.A)(j:l? X.K fd ps ds)(hd:ef dvs ds)(y:rm CX X E)
  (I:c3 X a d H s) (r:ef vs us) (h:sp (vs++dvs) H Q E):ai (model X.prog X.w) X.A (call (.ref f) us) (EP X a d Q) X.xe s:=by
 have c:ef (vs++dvs) (us++ds):=r.append hd;have l:(us++ds).length=ps.length:=by rw[<-c.length];exact F.len _ _ _ _ h
 refine jW (gX (F.run X.A X.kb s H ⟨us,[]⟩ (us++ds) (vs++dvs) Q E q I.env0 (j s us I.qi l) c h) λr z b=>?_);cases r with
 |error e=>exact y a d H s e z I b
 |ok i=>
  cases i with
  |ret u=>exact I.after b
  |next=>exact c9 b
  |brk=>exact c9 b
  |cont=>exact c9 b
def HZ(F:zm X.prog X.w X.K X.mg X.b? CX k f fd ps sp)(B:xA k X.A)(u:Gl X x)(z:X.mg x=Z (.ref f))(y:d9 X.K (.ref f)=γ)(j:l? X.K fd ps ds)(hd:ef dvs ds)(G:rm CX X E)
  (i:PA X (e::es) t) (b:(x==("__debug__" : Str))=δ:=by decide) (l:aC (e::es) X.b1=(δ,eval e X.b1)::aC es X.b1:=by rfl) (hpl:(bE pos (aC es X.b1)).any (·.1)=δ:=by rfl):
  PE X (.Call (.Name x p) (e::es) [] pos) (EO sp dvs E t):=by
 intro a s M H Q I h;refine dP (EM I u z ?_ b);refine mI (h₀:=X.b?) I.ok.Hj.kin y (fy (i pos a s M H _ I h) λR P ⟨S,N,c,r,q⟩=>⟨c.qi,?_⟩) l hpl;exact Lv F B j hd G c r q
def Sk(F:zm X.prog X.w X.K X.mg X.b? CX k f fd ps sp)(l:xA k X.A)(d:Gl X x)(j:X.mg x=Z (.ref f))(i:d9 X.K (.ref f)=γ)(c:l? X.K fd ps ds)(hd:ef dvs ds)(q:rm CX X E)
  (a:(x==("__debug__" : Str))=δ:=by decide):PE X (.Call (.Name x p) [] [] pos) (EO sp dvs E JZ):=by
 intro b s u H Q I h;refine dP (EM I d j ?_ a);exact mh I.qi i (Lv (us:=[]) F l c hd q I .nil h)
structure Mk(K:av)(C f:Addr):Prop where
 Z':m5 K C=γ
 init:cP K (.ref C) "__init__" = Z (Z (.ref f))
 fn:j2 K (.ref f)=γ
 kp:d9 K (.ref C)=γ
theorem Sm(M:Mk X.K C f)(F:zm X.prog X.w X.K X.mg X.b? CX k f fd ps sp)(T:xA (k+1) X.A)(R:l? X.K fd ps ds)(hd:ef dvs ds)
  (U:rm CX X E) (I:c3 X b y H s) (r:ef q c)
  (h:∀x i,H x=J->H i=J->i≠x->sp (.ref x::(q++dvs)) (ff (ff H i (.jj x)) x (.nj C i [])) (λv B=>v=.E/\Q (.ref x) B) E):
  ai (model X.prog X.w) X.A (call (.ref C) c) (EP X b y Q) X.xe s:=by
 have j:=h (s.heap.objs.size+1) s.heap.objs.size (I.fx.fresh (iW _)) (I.fx.fresh (aO _)) (bc (dA _));have d:=c3.made (C:=C) I;have l:ef (V.ref (s.heap.objs.size+1)::(q++dvs)) (Value.ref (s.heap.objs.size+1)::(c++ds)):=.cons O (r.append hd);have S:(Value.ref (s.heap.objs.size+1)::c++ds).length=ps.length:=by have e:=l.length;rw[F.len _ _ _ _ j]at e;exact e.symm
 refine jW (Sh (f:=f) I.qi M.Z' M.init (beq_iff_eq.mp M.fn) (gX (F.run _ X.kb _ _ ⟨Value.ref (s.heap.objs.size+1)::c,[]⟩ (Value.ref (s.heap.objs.size+1)::(c++ds)) _ _ E (T.make C c [])
  (d.env0.make C c []) (R _ (Value.ref (s.heap.objs.size+1)::c) d.qi S) l j) λr Y a=>?_))
 cases r with
 |error e=>exact U b y _ _ e Y d a
 |ok P=>
  cases P with
  |ret u=>obtain⟨v,z,G,W,N,q3⟩:=d.after a;subst N;exact⟨W,⟨V.ref (s.heap.objs.size+1),z,G,O,q3⟩⟩
  |next=>exact c9 a
  |brk=>exact c9 a
  |cont=>exact c9 a
def VO(M:Mk X.K C f)(F:zm X.prog X.w X.K X.mg X.b? CX k f fd ps sp)(z:xA (k+1) X.A)(u:Gl X x)(y:X.mg x=Z (.ref C))(j:l? X.K fd ps ds)(hd:ef dvs ds)(B:rm CX X E)
  (i:PA X (e::es) t) (b:(x==("__debug__" : Str))=δ:=by decide) (l:aC (e::es) X.b1=(δ,eval e X.b1)::aC es X.b1:=by rfl) (hpl:(bE pos (aC es X.b1)).any (·.1)=δ:=by rfl):
  PE X (.Call (.Name x p) (e::es) [] pos) (XM C sp dvs E t):=by
 intro a s G H Q I h;refine dP (EM I u y ?_ b);refine mI (h₀:=X.b?) I.ok.Hj.kin M.kp (fy (i pos a s G H _ I h) λR P ⟨S,N,c,r,q⟩=>⟨c.qi,?_⟩) l hpl;exact Sm M F z j hd B c r q
end
structure xJ(N P:aF)(sc:cK):Prop where
 kind:sc.kind=.function
 co:sc.isCoroutine=δ
 ro:sc.isGenerator=δ
 nd:N.Nodup
 pre:N.take P.length=P
 par:∀x∈P,sc.names.lookup x=Z .local\/sc.names.lookup x=Z .cell
 nofree:∀y∈sc.names,y.2≠.free
theorem Km{kindOf:Str->Option ee}{x:Str}:∀{tp:List (Str×ab)} {m:Str->Option ab},(∀v,(x,v)∉tp)->bindL kindOf tp m x=m x
 |[],_,_=>rfl
 |(n,v)::r,m,h=>by
  unfold bindL;rw[Km λw a=>h w (ba _ a)];split
  .have:x≠n:=by rintro rfl;exact h v bb
   simp[this]
  .rfl
theorem Kn{kindOf:Str->Option ee}{x:Str}:∀{tp:List (Str×ab)} {m:Str->Option ab},(∀v,(x,v)∉tp)->bindC kindOf tp m x=m x
 |[],_,_=>rfl
 |(n,v)::r,m,h=>by
  unfold bindC;rw[Kn λw a=>h w (ba _ a)];split
  .rfl
  .have:x≠n:=by rintro rfl;exact h v bb
   simp[this]
theorem Ko{kindOf:Str->Option ee}{x:Str}{v:ab}:∀{P:aF} {a:List ab} {i:Nat} {m:Str->Option ab},P.Nodup->P[i]?=Z x->a[i]?=Z v->kindOf x=Z .local->
  bindL kindOf (P.zip a) m x=Z v
 |[],_,_,_,_,h,_,_=>by simp at h
 |_::_,[],_,_,_,_,h,_=>by simp at h
 |p::P,w::a,0,m,e,b,c,d=>by simp at b c;subst b;subst c;show bindL kindOf ((p,w)::P.zip a) m p=_;unfold bindL;rw[Km λv f=>(dB.1 e).1 (jK f).1,ak d];simp
 |p::P,w::a,i+1,m,e,b,c,d=>by show bindL kindOf ((p,w)::P.zip a) m x=_;unfold bindL;exact Ko (i:=i) (dB.1 e).2 (by simpa using b) (by simpa using c) d
theorem Kp{kindOf:Str->Option ee}{x:Str}{v:ab}:∀{P:aF} {a:List ab} {i:Nat} {m:Str->Option ab},P.Nodup->P[i]?=Z x->a[i]?=Z v->kindOf x≠Z .local->
  bindC kindOf (P.zip a) m x=Z v
 |[],_,_,_,_,h,_,_=>by simp at h
 |_::_,[],_,_,_,_,h,_=>by simp at h
 |p::P,w::a,0,m,e,b,c,d=>by simp at b c;subst b;subst c;show bindC kindOf ((p,w)::P.zip a) m p=_;unfold bindC;rw[Kn λv f=>(dB.1 e).1 (jK f).1,ao d];simp
 |p::P,w::a,i+1,m,e,b,c,d=>by show bindC kindOf ((p,w)::P.zip a) m x=_;unfold bindC;exact Kp (i:=i) (dB.1 e).2 (by simpa using b) (by simpa using c) d
def start(N:aF)(a:bN):St:=a.map Z++bU (N.length - a.length) J
def MF(CX:CXT)(P:aH)(w:az)(K:av)(mg:Str->Option ab)(b?:Heap)(N:aF)(qual:Str)(scope:cK)(f:Addr)(b:ab)(A:aI)(da:List Env)(s:ae)(H:Hp)(E:XK):Cx where
 prog:=P
 w:=w
 K:=K
 mg:=mg
 b?:=b?
 A:=A.deeper (envOfC qual scope s.heap.objs.size f b)
 N:=N
 s₀:=s
 H₀:=H
 b1:=envOfC qual scope s.heap.objs.size f b
 da:=da
 kb:=envOfC qual scope s.heap.objs.size f b::da
 ex:=[]
 nq:=γ
 fn:=λ_=>γ
 pn:=[]
 xe:=λe d=>ai (model P w) (A.deeper (envOfC qual scope s.heap.objs.size f b)) (leaving (envOfC qual scope s.heap.objs.size f b) e) (λ_ a=>CX da H s E e a) (λc a=>CX da H s E c a) d
def MG{a:cK}(h:a.names.lookup x=Z .cell):∃c,(cellsFrom n a.names []).lookup x=Z c:=by have q:=pS a.names n [] (.inl h);exact Option.isSome_iff_exists.1 q
def QL{CX:CXT}{P:aH}{w:az}{K:av}{G:Str->Option ab}{b?:Heap}{N m:aF}{qual:Str}{scope:cK}{f:Addr}{B:ab}{A:aI}{da:List Env}{s R:ae}{H:Hp}{E:XK}{I:List ab}{o:bN}
  (S:xJ N m scope) (hd:A.handled=J) (j:N9 P w K G b? A da s H) (X:o.length=m.length) (r:ef o I)
  (x:InCallC s s.heap.objs.size (bindL (envOfC qual scope s.heap.objs.size f B).kindOf (m.zip I) λ_=>J) (cellsFrom (s.heap.objs.size+1) scope.names []) (bindC (envOfC qual scope s.heap.objs.size f B).kindOf (m.zip I) λ_=>J) R):
  c3 (MF CX P w K G b? N qual scope f B A da s H E) [] (start N o) H R:=by
 have hpl:m.length<=N.length:=by have:=bG dh S.pre;rw[bY]at this;omega
 obtain⟨C,Y,rfl,M⟩:=x.done;have noA:∀b:Addr,b∉(MF CX P w K G b? N qual scope f B A da s H E).ex:=λb z=>aq (show b∈([]:List Addr) from z) (by simp);refine⟨⟨j.Hj,S.kind,O,O,aO _,λy z c C d=>?_,λy l=>?_,λy c _ h=>?_,λ_=>hd,Around.frames_deeper j.frames,.inr ⟨O,O⟩,λb z=>aq z (noA b),j.bs,j.bsz,λb _ _=>noA b,λb z=>aq z (noA b),j.tz,j.frf⟩,
  rfl,j.l',Un.g? M,⟨_,x.toInCall.ns,λi y v C d W=>?_⟩,λy c h=>⟨_,x.cell y c h⟩,j.fx.fresh (aO _),λy c h=>?_,λp t=>aq (show p∈([]:cD) from t) (by simp),j.fx.g? M,?_⟩
 .exact name_of_addr x.apart (iA C) (iA d)
 .have l:scope.names.lookup y=Z .cell\/scope.names.lookup y=Z .free:=l;rcases l with l|l
  .exact MG l
  .exact aq O (S.nofree _ (iA l))
 .exact iQ (x.above y c (iA h))
 .have F:i<o.length:=by
   unfold start at d;by_cases F:i<o.length
   .exact F
   .rw[fQ (by simpa using F)]at d;rw[jr]at d;split at d<;>cases d
  have T:o[i]?=Z v:=by
   unfold start at d;rw[fR (by simpa using F),bA]at d;cases e:o[i]? with
   |none=>rw[e]at d;cases d
   |some a=>rw[e]at d;cases d;rfl
  obtain⟨u,Q,U⟩:=r.get T;have t:m[i]?=Z y:=by rw[<-S.pre,List.getElem?_take_of_lt (by omega)];exact C
  have ndP:m.Nodup:=by rw[<-S.pre];exact S.nd.sublist (iG _ _)
  refine⟨u,U,?_⟩;rcases S.par y (cn t)with k|k
  .exact .inl ⟨k,Ko ndP t Q k⟩
  .obtain⟨c,e⟩:=MG (n:=s.heap.objs.size+1) k;refine .inr ⟨.inl k,c,e,?_⟩;have q:=x.cell y c e;rw[Kp ndP t Q (by show scope.names.lookup y≠_;rw[k];decide)]at q;exact q
 .exact j.fx.fresh (iQ (x.above y c (iA h)))
 .unfold start;show _=N.length;rw[aE,ah,cY];omega
def XN{CX:CXT}{P:aH}{w:az}{K:av}{l:Str->Option ab}{b?:Heap}{k:Nat}{f:Addr}{name qual:Str}{params:Arguments}{body:List Stmt}{scope:cK}{dV kV doc M cdv G oc:ab}{F od:Option Addr}
  {osl:Array (Option ab)} {N m:aF} {C:Sp} (lk:K.lookup f=Z ⟨oc,od,.func (eV name qual params body scope dV kV doc M F cdv G),osl⟩) (hcd:hU K cdv qual=γ) (S:xJ N m scope)
  (len:∀a H Q E,C a H Q E->a.length=m.length)
  (hbody:∀(A:aI) (da:List Env) (s:ae) (H:Hp) (a:bN) (Q:VK) (E:XK),xA k (A.deeper (envOfC qual scope s.heap.objs.size f cdv))->C a H Q E->
   ∃t,p5 (MF CX P w K l b? N qual scope f cdv A da s H E) body t/\t { nx:=λ_ h=>Q .E h,rt:=Q } (start N a) H):
  zm P w K l b? CX (k+1) f (eV name qual params body scope dV kV doc M F cdv G) m C:=by
 refine⟨len,λA da s H args us a Q E p j U r hsp=>?_⟩;have Y:=len _ _ _ _ hsp;have KX:K.In s.heap:=j.Hj.kin.keeps λb o e=>(j.bs b o e).1;have lim:s.heap.NoLimit:=j.Hj.nolimit.keeps λb o e=>(j.bs b o e).1;have hkind:∀y∈m.zip us,scope.names.lookup y.1=Z .local\/(scope.names.lookup y.1=Z .cell/\((cellsFrom (s.heap.objs.size+1) scope.names []).lookup y.1).isSome=γ):=λ⟨n,v⟩ hy=>by
  rcases S.par n (jK hy).1 with q|q
  .exact .inl q
  .exact .inr ⟨q,pS _ _ _ (.inl q)⟩
 refine codeAny_call_function p.depth (KX _ _ lk) O S.co S.ro O (W.codeRec_of KX hcd) (U _ _ _ _ ?_);refine wpAny_newFunctionEnv_cells S.kind hkind λb1 X R x=>?_;subst X;refine⟨lim.keeps x.toInCall.keep,codeAny_func ?_⟩;obtain⟨t,ht,hq⟩:=hbody A da s H a Q E (p.deeper _) hsp;have I:c3 (MF CX P w K l b? N qual scope f cdv A da s H E) [] (start N a) H R:=QL S p.hd j Y r x;refine b9 (ht [] R (start N a) H _ I hq) (λT B i=>?_) λe B i=>i;have fin:∀{c:St} {h:Hp} {v:V} {u:ab},c3 (MF CX P w K l b? N qual scope f cdv A da s H E) [] c h B->et v u->Q v h->CE da P w H s Q u B:=
  λ{c h v u} d z q=>⟨v,h,d.os,d.l',d.b?,d.fx,z,q⟩
 cases T with
 |ret u=>obtain⟨v,c,h,d,z,q⟩:=i;exact fin d z q
 |next=>obtain⟨c,h,d,q⟩:=i;exact fin (v:=V.E) (u:=Value.none) d O q
 |brk=>obtain⟨_,_,_,q⟩:=i;exact c9 q
 |cont=>obtain⟨_,_,_,q⟩:=i;exact c9 q
section
variable{X:Cx}{x:Str}{p pos:Pos}{e:Expr}{es:List Expr}{t:TA}{id T:String}{r:bN->Hp->VK->Prop}
def tCB(r:bN->Hp->VK->Prop)(t:TA):TE:=λc H Q=>t c H λb a=>r b a Q
def BA(j:wY X (.builtin id) r)(m:Gl X x)(o:X.mg x=J)(u:dY x=Z (.builtin id))(i:PA X (e::es) t)(q:x≠"__name__" := by decide)(b:(x==("__debug__" : Str))=δ:=by decide)
  (l:aC (e::es) X.b1=(δ,eval e X.b1)::aC es X.b1:=by rfl) (hpl:(bE pos (aC es X.b1)).any (·.1)=δ:=by rfl):PE X (.Call (.Name x p) (e::es) [] pos) (tCB r t):=by
 intro a s c H Q I h;refine dP (BV I m o u ?_ q b);exact callWith_builtin1 (fy (i pos a s c H _ I h) λA z ⟨B,d,f,y,w⟩=>j a z c d B A Q f y w) l hpl
def QM(j:wY X (.type T) r)(m:Gl X x)(o:X.mg x=J)(u:dY x=Z (.type T))(i:PA X (e::es) t)(q:x≠"__name__" := by decide)(b:(x==("__debug__" : Str))=δ:=by decide)
  (l:aC (e::es) X.b1=(δ,eval e X.b1)::aC es X.b1:=by rfl) (hpl:(bE pos (aC es X.b1)).any (·.1)=δ:=by rfl):PE X (.Call (.Name x p) (e::es) [] pos) (tCB r t):=by
 intro a s c H Q I h;refine dP (BV I m o u ?_ q b);exact callWith_type1 (fy (i pos a s c H _ I h) λA z ⟨B,d,f,y,w⟩=>j a z c d B A Q f y w) l hpl
end
end L2
namespace HT
open PySem PyProof.Rows
section
variable{prog:aH}{w:az}{A:aI}{E:ab->ae->Prop}{s:ae}
def VP{vs ws:List ab}(u:gq s.heap t vs.toArray)(hb:gq s.heap b ws.toArray)(o:vs≠[])
  (q:ws=[]->Q (.ref t) s) (r:ws≠[]->Q (.ref s.heap.objs.size) { s with heap:=s.heap.push { cls:=.type "tuple", data:=.seq (vs++ws).toArray } })
  (j:vs.length+ws.length<=aG):ai (model prog w) A (cJ .Add (.ref t) (.ref b)) Q E s:=by
 obtain⟨⟨cls,l,data,sl⟩,i,m,n,hd⟩:=id u;obtain⟨⟨cls2,c,data2,h⟩,a,d,p,f⟩:=id hb;simp only at m hd d f;subst m hd d f;have e:vs.toArray++ws.toArray=(vs++ws).toArray:=by simp
 by_cases hw:ws=[]
 .exact concat_meets ⟨_,i,O⟩ ⟨_,a,O⟩ pT qC pU pB (pb _ _)
   (tuple_addW1 t b vs.toArray ws.toArray n p l c sl h (by simpa using o) (by simp[hw])) ⟨i,a,q hw⟩
 .refine concat_meets ⟨_,i,O⟩ ⟨_,a,O⟩ pT qC pU pB (pb _ _)
   (tuple_addW2 t b vs.toArray ws.toArray n p l c sl h (by simpa using o) (by simpa using hw) (by rw[bg,bg];exact j)) ⟨i,a,?_⟩
  rw[e];exact r hw
def j0(n d:Nat):Option Int->Nat
 |none=>d
 |some v=>if v<0 then (v+(n:Int)).toNat else min v.toNat n
def MH(n d:Nat):j0 n d J=d:=rfl
def O9(n d k:Nat):j0 n d (Z (k:Int))=min k n:=by show (if (k:Int)<0 then ((k:Int)+(n:Int)).toNat else min (k:Int).toNat n)=min k n;rw[ao (by omega),gE]
def YW(n d:Nat)(hd:d<=n)(o:Option Int):j0 n d o<=n:=by
 cases o with
 |none=>exact hd
 |some v=>
  show (if v<0 then (v+(n:Int)).toNat else min v.toNat n)<=n;by_cases a:v<0
  .rw[ak a];omega
  .rw[ao a];exact pV _ _
def Pa(v:Int)(n d:Nat):(if v<0 then max (v+(n:Int)) 0 else min v (n:Int))=((j0 n d (Z v):Nat):Int):=by
 show (if v<0 then max (v+(n:Int)) 0 else min v (n:Int))=(((if v<0 then (v+(n:Int)).toNat else min v.toNat n):Nat):Int);by_cases a:v<0
 .simp only[ak a];omega
 .simp only[ao a];omega
def Oa(lo a:Option Int)(n:Nat):kI lo a 1 (n:Int)=(((j0 n 0 lo:Nat):Int),((j0 n n a:Nat):Int)):=by
 have b:¬((1:Int)<0):=by omega
 unfold kI;simp only[b,if_false];refine Prod.ext ?_ ?_
 .cases lo with
  |none=>rfl
  |some v=>exact Pa v n 0
 .cases a with
  |none=>rfl
  |some v=>exact Pa v n n
def Ob(i j:Nat):jm (i:Int) (j:Int) 1=j - i:=by
 unfold jm;have a:(1:Int) > 0:=by omega
 simp only[a,if_true,Int.ediv_one];split<;>omega
def Iv(p:fM v o)(h:Q o s):ai (model prog w) A (sC v) Q E s:=by
 cases p with
 |none=>exact qo h
 |int i t=>exact slicePart_int h
def F5{d:Addr}{b c:ab}{lo a:Option Int}{n:Nat}{Q:Int×Int×Nat->ae->Prop}(e:s.heap.IsSliceOf d b c .none)(pl:fM b lo)(f:fM c a)
  (h:Q (((j0 n 0 lo:Nat):Int),1,j0 n n a - j0 n 0 lo) s):ai (model prog w) A (nZ (.ref d) (pure (n:Int))) Q E s:=by
 obtain⟨os,hos,hcs,hds⟩:=id e;unfold nZ sT;refine af (af (mO hos hds (x:=b) O (af (mO hos hds (x:=c) O (af (mO hos hds (x:=.none) O (ar ?_)))))));refine af (qo ?_);show ai _ _ (if ((1:Int)==0)=γ then _ else _) _ _ s;rw[ao (by decide)];refine af (Iv pl (af (Iv f (af (ar ?_)))));show ai _ _ (match kI lo a 1 (n:Int)with|(lo,a)=>pure (lo,(1:Int),jm lo a 1)) _ _ s;rw[Oa lo a n];show ai _ _ (pure (((j0 n 0 lo:Nat):Int),(1:Int),jm ((j0 n 0 lo:Nat):Int) ((j0 n n a:Nat):Int) 1)) _ _ s;rw[Ob];exact ar h
def Sn(a:Array ab)(i k:Nat):((aU k).filterMap λ(m:Nat)=>a[((i:Int)+(m:Int) * 1).toNat]?).toArray=((a.toList.drop i).take k).toArray:=by
 have e:(λ(m:Nat)=>a[((i:Int)+(m:Int) * 1).toNat]?)=λm=>a[i+m]?:=by
  funext m
  have:((i:Int)+(m:Int) * 1).toNat=i+m:=by omega
  rw[this]
 rw[e];have:=pick_run a i k;rw[List.filterMap_map]at this;have b:((λx=>a[x]?)∘λx=>i+x)=λm=>a[i+m]?:=rfl;rw[b]at this;rw[this]
def ER{t sl:Addr}{items:Array ab}{c d:ab}{lo hi:Option Int}{Q:ab->ae->Prop}(a:gq s.heap t items)(b:s.heap.IsSliceOf sl c d .none)(pl:fM c lo)(f:fM d hi)
  (hw:¬(j0 items.size 0 lo=0/\j0 items.size items.size hi=items.size))
  (h:Q (.ref s.heap.objs.size) { s with heap:=s.heap.push { cls:=.type "tuple", data:=.seq ((items.toList.drop (j0 items.size 0 lo)).take (j0 items.size items.size hi - j0 items.size 0 lo)).toArray } })
  (e:items.size<=aG):ai (model prog w) A (getItem (.ref t) (.ref sl)) Q E s:=by
 have htake:sizeOk (.seq ((items.toList.drop (j0 items.size 0 lo)).take (j0 items.size items.size hi - j0 items.size 0 lo)).toArray):=by show ((items.toList.drop (j0 items.size 0 lo)).take (j0 items.size items.size hi - j0 items.size 0 lo)).toArray.size<=aG;rw[bg,bY,fA,bO];omega
 have i:j0 items.size items.size hi<=items.size:=YW _ _ (aO _) hi;obtain⟨os,hos,hcs,hds⟩:=id b;have hTs:s.TypeIs (.ref sl) "slice" := ⟨os,hos,hcs⟩;unfold getItem
 try with_reducible refine bP ?_
 first|refine af (ar ?_)|skip
 refine af (wpAny_sequenceKey a.typeIs (by decide) ?_);refine af (om (name:=jP "__getitem__") a.typeIs jl
  (fW jl a.typeIs entry_tuple_getitem ?_ (args_tuple_getitem _ _)))
 show ai _ _ (sF (.ref t)>>=_) _ _ s;refine af (tupleItemsOf_ a ?_);refine af (jQ hTs ?_);rw[ak (by decide)];refine af (F5 b pl f ?_);have hno:¬((((j0 items.size 0 lo:Nat):Int)==0&&(1:Int)==1&&(j0 items.size items.size hi - j0 items.size 0 lo)==items.size)=γ):=by intro q;rw[aW,aW]at q;have j:((j0 items.size 0 lo:Nat):Int)=0:=gm q.1.1;have l:j0 items.size items.size hi - j0 items.size 0 lo=items.size:=gm q.2;exact hw ⟨by omega,by omega⟩
 show ai _ _ (if (((j0 items.size 0 lo:Nat):Int)==0&&(1:Int)==1&&(j0 items.size items.size hi - j0 items.size 0 lo)==items.size)=γ then _ else _) _ _ s;rw[ao hno,Sn]
 first
  |exact af (m:=jq _) (dQ (ar ⟨_,O,ar h⟩) htake)
  |exact af (m:=jq _) (dQ (af (ar (ar ⟨_,O,ar h⟩))) htake)
  |exact af (af (m:=jq _) (dQ (ar (ar ⟨_,O,ar h⟩)) htake))
  |exact af (af (m:=jq _) (dQ (ar ⟨_,O,ar h⟩) htake))
end
end HT
namespace L2
open PySem PySem.Spec PyProof.Rows
abbrev TO:=St->Hp->(Option Int->Hp->Prop)->Prop
def PO(X:Cx)(e:Option Expr)(t:TO):Prop:=
 ∀(a:cD) (s:ae) (b:St) (H:Hp) (Q:Option Int->Hp->Prop),c3 X a b H s->t b H Q->
  ai (model X.prog X.w) X.A (evalPart e X.b1) (λu d=>∃o c,c3 X a b c d/\fM u o/\Q o c) X.xe s
def VQ:TO:=λ_ H Q=>Q J H
def acF(t:TE):TO:=λb H Q=>t b H λx a=>∃i,x=.int i/\Q (Z i) a
section
variable{X:Cx}{e:Expr}{te:TE}{lo hi:Option Expr}{tl th:TO}{pos p2:Pos}
def Pb:PO X J VQ:=by intro a s b H Q I h;rw[qD];exact ar ⟨J,H,I,.none,h⟩
def Pc(h:PE X e te):PO X (Z e) (acF te):=by intro a s l H Q I d;rw[evalPart_some];refine fy (h a s l H _ I d) λu m zz=>?_;obtain⟨x,b,c,j,f⟩:=zz;obtain⟨i,rfl,q⟩:=f;obtain⟨t,rfl⟩:=j;exact⟨Z i,b,c,.int i t,q⟩
def SlR(X:Cx)(r:V->Option Int->Option Int->Hp->VK->Prop):Prop:=
 ∀(a:cD) (s:ae) (f:St) (H:Hp) (x:V) (v c d:ab) (lo hi:Option Int) (b:Addr) (Q:VK),c3 X a f H s->et x v->s.heap.IsSliceOf b c d .none->fM c lo->fM d hi->r x lo hi H Q->
  ∃T id,typeLookup (.type T) "__getitem__" = pure (Z (.builtin id))/\s.TypeIs v T/\ai (model X.prog X.w) X.A (getItem v (.ref b)) (EP X a f Q) X.xe s
def tSl(r:V->Option Int->Option Int->Hp->VK->Prop)(te:TE)(tl th:TO):TE:=λa H Q=>te a H λx b=>tl a b λl c=>th a c λu d=>r x l u d Q
def MI(hr:SlR X r)(p:PE X e te)(t:PO X lo tl)(z:PO X hi th):PE X (.Subscript e (.Slice lo hi J p2) pos) (tSl r te tl th):=by intro pins s σ H Q I h;refine mU (fy (p pins s σ H _ I h) λv F zz=>?_);obtain⟨x,H1,i,r1,C⟩:=zz;refine wpAny_Slice (fy (t pins F σ H1 _ i C) λc s2 ⟨l,H2,j,pl,E⟩=>fy (z pins s2 σ H2 _ j E) λd a zz=>?_);obtain⟨u,f,m,B,q3⟩:=zz;rw[qD];refine ar ?_;have o:c3 X pins σ f { a with heap:=a.heap.push { cls:=.type "slice", data:=.fields #[c,d,.none] } }:=m.g? (t':=a.toks) λb ob q=>aK _ q;obtain⟨T,id,hT,y,hg⟩:=hr pins { a with heap:=a.heap.push { cls:=.type "slice", data:=.fields #[c,d,.none] } } σ f x v c d l u a.heap.objs.size Q o r1 (uv ..) pl B q3;show ai (model X.prog X.w) X.A (subscriptTail e (.Slice lo hi J p2) v (.ref a.heap.objs.size)) (EP X pins σ Q) X.xe { a with heap:=a.heap.push { cls:=.type "slice", data:=.fields #[c,d,.none] } };exact tail_any (ops:=[.ref a.heap.objs.size,v]) y hT hg (by with_unfolding_all rfl)
def MJ(a:bN)(lo hi:Option Int):bN:=(a.drop (HT.j0 a.length 0 lo)).take (HT.j0 a.length a.length hi - HT.j0 a.length 0 lo)
def GN(a:bN)(lo hi:Option Int):(MJ a lo hi).length<=a.length:=by unfold MJ;rw[bY,fA];omega
def YX(K:av):V->Option Int->Option Int->Hp->VK->Prop:=λx lo hi H Q=>∃a b,x=.ref a/\ij K H a b/\
 ¬(HT.j0 b.length 0 lo=0/\HT.j0 b.length b.length hi=b.length)/\∀p,H p=J->Q (.ref p) (ff H p (.du (MJ b lo hi)))
def YY:SlR X (YX X.K):=by
 intro l s E H x v B C lo hi z Q I w m pl u h;obtain⟨a,d,rfl,t,p,q⟩:=h;cases w;obtain⟨f,r,i,j⟩:=I.tuple t;have c:f.toArray.size=d.length:=by rw[bg];exact r.length.symm
 refine⟨"tuple", _,jl.lookup,i.typeIs,?_⟩;refine HT.ER i m pl u (by rw[c];exact p) ?_ (by rw[c];exact j);rw[c];refine⟨.ref s.heap.objs.size,_,I.laid (t':=s.toks) (o:=.du (MJ d lo hi)) (λb y q=>aK _ q) (aO _) ?_,O,q _ (I.fx.fresh (aO _))⟩;exact⟨bD (GN d lo hi) j,_,(r.drop (HT.j0 d.length 0 lo)).take (HT.j0 d.length d.length hi - HT.j0 d.length 0 lo),m6 _ _⟩
def acG(K:av):R2:=λx y H Q=>∃a b d c,x=.ref a/\y=.ref b/\ij K H a d/\ij K H b c/\d≠[]/\d.length+c.length<=aG/\
 (c=[]->Q (.ref a) H)/\(c≠[]->∀p,H p=J->Q (.ref p) (ff H p (.du (d++c))))
def ef.J'(r:ef b a):a=[] ↔ b=[]:=by
 cases r with
 |nil=>simp
 |cons _ _=>simp
def VR:ki X (cJ .Add) (acG X.K):=by intro j s P H x y v u Q I C E h;obtain⟨a,b,F,G,rfl,rfl,l,m,p,f,A,B⟩:=h;cases C;cases E;obtain⟨r,d,t,_⟩:=I.tuple l;obtain⟨i,c,p2,_⟩:=I.tuple m;refine HT.VP t p2 (λz=>p (d.J'.1 z)) (λz=>⟨.ref a,H,I,O,A (c.J'.1 z)⟩) (λz=>?_) (by rw[<-d.length,<- c.length];exact f);refine⟨.ref s.heap.objs.size,_,I.laid (t':=s.toks) (o:=.du (F++G)) (λb M q=>aK _ q) (aO _) ?_,O,B (λw=>z (c.J'.2 w)) _ (I.fx.fresh (aO _))⟩;exact⟨by rw[aE];exact f,_,d.append c,m6 _ _⟩
end
def ixN(n:Nat)(i:Int):Option Nat:=if 0<=i then (if i<n then Z i.toNat else J)else if -(n:Int)<=i then Z (i+n).toNat else J
def A'{b:Type}(a:List b)(i:Int):Option b:=(ixN a.length i).bind λj=>a[j]?
def Pd(h:ixN n i=Z j):seqIndex? i n=Z j/\j<n/\-(n:Int)<=i/\i<n:=by
 unfold ixN at h;by_cases b:0<=i
 .rw[ak b]at h;by_cases a:i<n
  .rw[ak a]at h;have e:i.toNat=j:=cI h;exact⟨by rw[mQ b a,e],by omega,by omega,a⟩
  .rw[ao a]at h;cases h
 .rw[ao b]at h;by_cases a:-(n:Int)<=i
  .rw[ak a]at h;have e:(i+n).toNat=j:=cI h;exact⟨by rw[mJ (by omega) a,e],by omega,a,by omega⟩
  .rw[ao a]at h;cases h
def Lw{b:Type}{a:List b}{i:Int}{v:b}(h:A' a i=Z v):∃j,seqIndex? i a.length=Z j/\a[j]?=Z v/\j<a.length/\-(a.length:Int)<=i/\i<a.length:=by
 unfold A' at h;cases e:ixN a.length i with
 |none=>rw[e]at h;cases h
 |some j=>rw[e]at h;obtain⟨c,d,f,l⟩:=Pd e;exact⟨j,c,h,d,f,l⟩
def DN{b:Type}{a:List b}{j:Nat}{v:b}(h:a[j]?=Z v):A' a (j:Int)=Z v:=by
 have c:j<a.length:=(cj.1 h).1;have e:ixN a.length (j:Int)=Z j:=by unfold ixN;rw[ak (by omega),ak (by omega)];simp
 unfold A';rw[e];exact h
def Pe(b:Expr):Prop:=∀o i,subscripted b δ o i=operate [o,i] (getItem o i)
def IxR(X:Cx)(r:R2):Prop:=
 ∀(value slice:Expr) (a:cD) (s:ae) (b:St) (H:Hp) (x y:V) (v u:ab) (Q:VK),c3 X a b H s->et x v->et y u->r x y H Q->
  subscripted slice δ v u=operate [v,u] (getItem v u)->ai (model X.prog X.w) X.A (subscriptTail value slice v u) (EP X a b Q) X.xe s
def MtR(X:Cx)(id:String)(r:V->bN->Hp->VK->Prop):Prop:=
 ∀(a:cD) (s:ae) (d:St) (H:Hp) (x:V) (c:bN) (v:ab) (b:List ab) (Q:VK),c3 X a d H s->et x v->ef c b->r x c H Q->
  ai (model X.prog X.w) X.A (call (.builtin id) (v::b)) (EP X a d Q) X.xe s
section
variable{X:Cx}{a b:Expr}{ta tb:TE}{pos:Pos}
def IxR.or(h:IxR X r)(j:IxR X l):IxR X (λx y H Q=>r x y H Q\/l x y H Q):=by
 intro value slice c s i H x y v u Q I e f q d;rcases q with q|q
 .exact h value slice c s i H x y v u Q I e f q d
 .exact j value slice c s i H x y v u Q I e f q d
def XO(j:IxR X r)(f:PE X a ta)(i:PE X b tb)(l:Pe b):PE X (.Subscript a b pos) (tOp r ta tb):=by intro c s t H Q I h;exact mU (YL f i I h λv u p x y d e m o q=>j a b c p t d x y v u Q e m o q (l _ _))
def VT(K:av):R2:=λx y H Q=>∃p c i v,x=.ref p/\y=.int i/\gd K H p c/\A' c i=Z v/\Q v H
def rIxT(K:av):R2:=λx y H Q=>∃p c i v,x=.ref p/\y=.int i/\ij K H p c/\A' c i=Z v/\Q v H
def rIxS:R2:=λx y H Q=>∃z i c,x=.str z/\y=.int i/\z.length<=aG/\A' z.cps.toList i=Z c/\Q (.str ⟨#[c]⟩) H
def Pf:IxR X (VT X.K):=by
 intro value slice c s B H x y v u Q I P R h A;obtain⟨p,Y,i,z,rfl,rfl,N,G,q⟩:=h;cases P;obtain⟨t,rfl⟩:=R;obtain⟨f,r,pl,W⟩:=I.list N;obtain⟨j,d,C,T,E,F⟩:=Lw G;obtain⟨w,m,l⟩:=r.get C;have M:=r.length;have U:=F3;have fin:EP X c B Q w s:=⟨z,H,I,l,q⟩;by_cases o:0<=i
 .have e:i.toNat=j:=by rw[mQ o F]at d;exact cI d
  exact item_listR pl.isList o (by omega) (by rw[e];simpa using m) fin A
 .have e:(i+(f.toArray.size:Int)).toNat=j:=by rw[mJ (by omega) E]at d;rw[bg,<- M];exact cI d
  exact ou (x:=w) pl.isList.typeIs pC.lookup
   (wpAny_getItem_list_neg (Q:=λr S=>r=w/\EP X c B Q r S) pl.isList (by omega) (by rw[bg]<;>omega) (by omega) (by rw[e];simpa using m) ⟨O,fin⟩) A
def YZ:IxR X (rIxT X.K):=by
 intro value slice c s e H x y v u Q I F G h C;obtain⟨p,U,i,z,rfl,rfl,B,o,q⟩:=h;cases F;obtain⟨t,rfl⟩:=G;obtain⟨E,r,pl,T⟩:=I.tuple B;obtain⟨j,l,m,N,P,R⟩:=Lw o;obtain⟨w,f,d⟩:=r.get m;have A:=r.length;have S:=F3;have fin:EP X c e Q w s:=⟨z,H,I,d,q⟩;exact ou (x:=w) pl.typeIs jl.lookup
  (getItem_tuple (j:=j) (Q:=λr M=>r=w/\EP X c e Q r M) pl (by omega) (by omega) (by rw[bg,<- A];exact l) (by simpa using f) ⟨O,fin⟩) C
def Y0:IxR X rIxS:=by
 intro value slice e s N H x y v u Q I B C h A;obtain⟨z,i,c,rfl,rfl,G,r,q⟩:=h;obtain⟨t,rfl⟩:=B;obtain⟨M,rfl⟩:=C;obtain⟨j,d,m,E,o,p⟩:=Lw r;have w:z.cps.toList.length=z.length:=by simp[Str.length]
 rw[w]at d o p;have F:=F3;exact tail_any (typeIs_str s z t) slot_str_getitem.lookup (getItem_str (c:=c) (by
  have f:decide (i < -(2 ^ 63:Int))=δ:=aX (by omega);have l:decide (i >= 2 ^ 63)=δ:=aX (by omega);rw[f,l,Bool.or_false]) (by rw[d];simpa using m) ⟨.str ⟨#[c]⟩,H,I.xr _,⟨_,O⟩,q⟩) A
def rIx(K:av):R2:=λx y H Q=>VT K x y H Q\/rIxT K x y H Q\/rIxS x y H Q
def Y1:IxR X (rIx X.K):=Pf.or (YZ.or Y0)
def Oc(c:List ab)(n j:Nat)(u:ab):cN (·.setIfInBounds j u) { cls:=.type "list", data:=.seq c.toArray n }={ cls:=.type "list", data:=.seq (c.set j u).toArray n }:=by simp[cN]
theorem c3.bt{d:cD}{f:St}{H:Hp}{s:ae}{p:Addr}{xs:bN}(I:c3 X d f H s)(h:H p=Z (.bt xs)):
  ∃(c:List ab) (n:Nat),ef xs c/\s.heap.get? p=Z { cls:=.type "list", data:=.seq c.toArray n }/\xs.length<=aG:=by
 obtain⟨z,c,n,r,e⟩:=I.fx p _ h;exact⟨c,n,r,e,z⟩
def c3.lstUpd{d c:List ab}(I:c3 X pins σ H s)(h:H p=Z (.bt xs))
  (l:s.heap.get? p=Z { cls:=.type "list", data:=.seq d.toArray n }) (hf:f { cls:=.type "list", data:=.seq d.toArray n }={ cls:=.type "list", data:=.seq c.toArray i }) (r:ef j c) (m:j.length<=aG) (t:Nat):
  c3 X pins σ (ff H p (.bt j)) { s with heap:=s.heap.update p f,toks:=t }:=by
 have e:(s.heap.update p f).get? p=Z { cls:=.type "list", data:=.seq c.toArray i }:=by rw[fi f l (by rw[hf]<;>rfl),hf]
 refine I.vr (x:=p) (e:=p) (by rw[h];trivial) (.inl O) (λb u hb q=>(gA _ _ (dj hb)).t q) ⟨_,e⟩ ?_;exact⟨m,c,i,r,e⟩
def XQ:V->V->V->Hp->(Hp->Prop)->Prop:=λo i v H Q=>∃p c k j,o=.ref p/\i=.int k/\H p=Z (.bt c)/\ixN c.length k=Z j/\Q (ff H p (.bt (c.set j v)))
def set_list:PSet X XQ:=by
 intro pins s σ H o i v N M u Q I E C F h;obtain⟨p,xs,k,j,rfl,rfl,z,A,q⟩:=h;cases E;obtain⟨t,rfl⟩:=C;obtain⟨c,n,r,l,B⟩:=I.bt z;obtain⟨d,G,x,y⟩:=Pd A;have f:=r.length;have hn:=F3;have m:c3 X pins σ (ff H p (.bt (xs.set j v))) { s with heap:=s.heap.update p (cN (·.setIfInBounds j u)) }:=
  I.lstUpd z l (Oc c n j u) (r.set F j) (by rw[eJ];exact B) s.toks
 by_cases w:0<=k
 .have e:k.toNat=j:=by rw[mQ w y]at d;exact cI d
  exact W.ki_setAt l w (by omega) (by rw[bg,<- f];exact y) (by rw[e];exact⟨_,m,q⟩)
 .have e:(k+(c.toArray.size:Int)).toNat=j:=by rw[mJ (by omega) x]at d;rw[bg,<- f];exact cI d
  exact W.ki_setBack l (by omega) (by rw[bg,<- f];exact x) (by omega) (by rw[e];exact⟨_,m,q⟩)
def Lx(lo c:Option Int)(n:Nat):(sliceBounds lo c J n).1=((HT.j0 n 0 lo:Nat):Int)/\(sliceBounds lo c J n).2.1=((HT.j0 n n c:Nat):Int)/\(sliceBounds lo c J n).2.2=1:=by
 refine⟨?_,?_,O⟩
 .cases lo with
  |none=>simp[sliceBounds,HT.j0]
  |some i=>
   simp only[sliceBounds,HT.j0,pW,show (1:Int) > 0 by decide,if_true];by_cases h:i<0
   .simp only[h,if_true]<;>omega
   .simp only[h,if_false]<;>omega
 .cases c with
  |none=>simp[sliceBounds,HT.j0]
  |some i=>
   simp only[sliceBounds,HT.j0,pW,show (1:Int) > 0 by decide,if_true];by_cases h:i<0
   .simp only[h,if_true]<;>omega
   .simp only[h,if_false]<;>omega
def J0(c:List ab)(lo d:Option Int):slicePick c.toArray lo d J=((c.drop (HT.j0 c.length 0 lo)).take (HT.j0 c.length c.length d - HT.j0 c.length 0 lo)).toArray:=by obtain⟨e,f,h⟩:=Lx lo d c.toArray.size;unfold slicePick;rw[e,f,h];simp only[sliceRange_one,pick_run,bg]<;>rfl
def VU(K:av):V->Option Int->Option Int->Hp->VK->Prop:=λx lo d H Q=>∃a c,x=.ref a/\gd K H a c/\∀p,H p=J->Q (.ref p) (ff H p (.bt (MJ c lo d)))
def VV:SlR X (VU X.K):=by intro i s C H x v A B lo e y Q I u j pl t h;obtain⟨a,c,rfl,l,q⟩:=h;cases u;obtain⟨p,r,f,m⟩:=I.list l;have d:=r.length;refine⟨"list", _,pC.lookup,f.isList.typeIs,?_⟩;refine wpAny_getItem_list_slice f.isList j pl t .none (by simp) ?_ (by rw[bg]<;>omega);rw[J0,<- d];refine⟨.ref s.heap.objs.size,_,I.laid (t':=s.toks) (o:=.bt (MJ c lo e)) (λb w q=>aK _ q) (aO _) ?_,O,q _ (I.fx.fresh (aO _))⟩;exact⟨bD (GN c lo e) m,_,0,(r.drop (HT.j0 c.length 0 lo)).take (HT.j0 c.length c.length e - HT.j0 c.length 0 lo),br _ O⟩
def D7:V->Bool
 |.E=>γ
 |.I _=>γ
 |.int _=>γ
 |.str _=>γ
 |_=>δ
def eqV:V->V->Bool
 |.E,.E=>γ
 |.I a,.I b=>a==b
 |.I a,.int b=>(if a then 1 else 0)==b
 |.int a,.I b=>a==(if b then 1 else 0)
 |.int a,.int b=>a==b
 |.str a,.str b=>a==b
 |_,_=>δ
def Iw(f:et y u)(c:et x v)(h:D7 y=γ)(e:D7 x=γ):iX A s u v (eqV y x):=by
 cases y with
 |E=>
  cases f;cases x with
  |E=>cases c;exact lX _
  |I b=>cases c;exact tU b
  |int b=>obtain⟨t,rfl⟩:=c;exact oR b t
  |str b=>obtain⟨t,rfl⟩:=c;exact oT b t
  |_=>exact aq (show δ=γ from e) bq
 |I a=>
  cases f;cases x with
  |E=>cases c;exact tV a
  |I b=>cases c;exact tW a b
  |int b=>obtain⟨t,rfl⟩:=c;exact ug a b t
  |str b=>obtain⟨t,rfl⟩:=c;exact uh a b t
  |_=>exact aq (show δ=γ from e) bq
 |int a=>
  obtain⟨d,rfl⟩:=f;cases x with
  |E=>cases c;exact oU a d
  |I b=>cases c;exact ui a d b
  |int b=>obtain⟨t,rfl⟩:=c;exact uw a d b t
  |str b=>obtain⟨t,rfl⟩:=c;exact o7 a d b t
  |_=>exact aq (show δ=γ from e) bq
 |str a=>
  obtain⟨d,rfl⟩:=f;cases x with
  |E=>cases c;exact oV a d
  |I b=>cases c;exact uj a d b
  |int b=>obtain⟨t,rfl⟩:=c;exact o8 a d b t
  |str b=>obtain⟨t,rfl⟩:=c;exact la a d b t
  |_=>exact aq (show δ=γ from e) bq
 |_=>exact aq (show δ=γ from h) bq
def T?(x:V)(u:ab):Bool:=match u with
 |.none=>eqV .E x
 |.bool b=>eqV (.I b) x
 |.int i _=>eqV (.int i) x
 |.str z _=>eqV (.str z) x
 |_=>δ
def So(r:et y u)(f:D7 y=γ):T? x u=eqV y x:=by
 cases y with
 |E=>cases r;rfl
 |I b=>cases r;rfl
 |int i=>obtain⟨t,rfl⟩:=r;rfl
 |str z=>obtain⟨t,rfl⟩:=r;rfl
 |_=>exact aq (show δ=γ from f) bq
theorem ES:∀{c:bN} {d:List ab},ef c d->c.all D7=γ->d.any (T? x)=c.any λy=>eqV y x
 |_,_,.nil,_=>rfl
 |y::c,u::d,.cons r t,f=>by rw[gW,aW]at f;rw[f6,f6,So r f.1,ES t f.2]
theorem CV(i:et x v)(h:D7 x=γ):∀{e:bN} {d:List ab},ef e d->e.all D7=γ->∀u∈d,iX A s u v (T? x u)
 |_,_,.nil,_=>λu c=>by cases c
 |y::e,u::d,.cons r t,f=>λj c=>by
  rw[gW,aW]at f;rcases aL.1 c with rfl|c
  .rw[So r f.1];exact Iw r i f.1 h
  .exact CV i h t f.2 j c
def inV(x:V)(c:bN):Bool:=c.any λy=>eqV y x
def rIn(K:av)(neg:Bool):R2:=λx y H Q=>∃p c,y=.ref p/\(gd K H p c\/ij K H p c)/\D7 x=γ/\c.all D7=γ/\Q (.I (if neg then !inV x c else inV x c)) H
def QN:ki X (bz .In) (rIn X.K δ):=by
 intro i s t H x y v u Q I j m h;obtain⟨p,o,rfl,d,f,fs,q⟩:=h;cases m;rcases d with d|d
 .obtain⟨c,r,pl,l⟩:=I.list d;refine SeqAt.in_listAt (T? x) pl.isList (λw e=>CV j f r fs w (by simpa using e)) ⟨.I _,H,I,O,?_⟩;rw[show c.toArray.any (T? x)=c.any (T? x) by simp,ES r fs];exact q
 .obtain⟨c,r,pl,l⟩:=I.tuple d;refine SeqAt.in_tupleAt (T? x) pl (λw e=>CV j f r fs w (by simpa using e)) ⟨.I _,H,I,O,?_⟩;rw[show c.toArray.any (T? x)=c.any (T? x) by simp,ES r fs];exact q
def Ly:ki X (bz .NotIn) (rIn X.K γ):=by
 intro i s t H x y v u Q I j m h;obtain⟨p,o,rfl,d,f,fs,q⟩:=h;cases m;rcases d with d|d
 .obtain⟨c,r,pl,l⟩:=I.list d;refine pd (T? x) pl.isList (λw e=>CV j f r fs w (by simpa using e)) ⟨.I _,H,I,O,?_⟩;rw[show c.toArray.any (T? x)=c.any (T? x) by simp,ES r fs];exact q
 .obtain⟨c,r,pl,l⟩:=I.tuple d;refine SeqAt.notIn_tupleAt (T? x) pl (λw e=>CV j f r fs w (by simpa using e)) ⟨.I _,H,I,O,?_⟩;rw[show c.toArray.any (T? x)=c.any (T? x) by simp,ES r fs];exact q
def LA:wY X (.builtin "len") (λl H Q=>∃p d,l=[.ref p]/\(gd X.K H p d\/ij X.K H p d)/\Q (.int d.length) H):=by
 intro j s x H l w Q I r h;obtain⟨p,d,rfl,e,q⟩:=h;obtain⟨u,rfl,o⟩:=m1 r;cases o;have t:=F3;rcases e with e|e
 .obtain⟨f,i,pl,m⟩:=I.list e;have c:=i.length;exact Calls.call_len_list pl.isList (by simp only[bg]<;>omega) ⟨.int d.length,H,I.xr _,⟨s.toks+1,by rw[bg,c]⟩,q⟩
 .obtain⟨f,i,pl,m⟩:=I.tuple e;have c:=i.length;exact len_tuple pl (by simp only[bg]<;>omega) ⟨.int d.length,H,I.xr _,⟨s.toks+1,by rw[bg,c]⟩,q⟩
def LB:wY X (.builtin "len") (λd H Q=>∃z,d=[.str z]/\z.length<=aG/\Q (.int z.length) H):=by intro c s j H d i Q I r h;obtain⟨z,rfl,f,q⟩:=h;obtain⟨u,rfl,t,rfl⟩:=m1 r;have e:=F3;exact len_str (by omega) ⟨.int z.length,H,I.xr _,⟨_,O⟩,q⟩
def LC:wY X (.type "list") (λxs H Q=>∃p i,xs=[.ref p]/\(gd X.K H p i\/ij X.K H p i)/\∀l,H l=J->Q (.ref l) (ff H l (.bt i))):=by
 intro pins s σ H xs us Q I r h;obtain⟨p,i,rfl,m,q⟩:=h;obtain⟨u,rfl,A⟩:=m1 r;cases A;have fin:∀(c:List ab),ef i c->i.length<=aG->∀(h':Heap) (d:Nat),(∀b z,s.heap.get? b=Z z->h'.get? b=Z z)->
   h'.get? s.heap.objs.size=Z { cls:=.type "list", dict:=J,data:=.seq c.toArray d,slots:=#[] }->EP X pins σ Q (.ref s.heap.objs.size) { s with heap:=h' }:=λc f t h' d kp e=>
  ⟨.ref s.heap.objs.size,_,I.laid (t':=s.toks) kp (aO _) (show wI X.prog X.w _ h' _ (.bt i) from⟨t,c,d,f,e⟩),O,q _ (I.fx.fresh (aO _))⟩
 rcases m with m|m
 .obtain⟨c,f,pl,t⟩:=I.list m;have j:=f.length;obtain⟨o,y,x,n,hd⟩:=pl.isList;exact qE p (.inl O) y x hd (λh' d kp e=>fin c f t h' d kp e) (by simp only[bg]<;>omega)
 .obtain⟨c,f,pl,t⟩:=I.tuple m;have j:=f.length;obtain⟨o,y,x,n,hd⟩:=pl;exact qE p (.inr O) y x hd (λh' d kp e=>fin c f t h' d kp e) (by simp only[bg]<;>omega)
def J1:wY X (.type "tuple") (λxs H Q=>∃p d,xs=[.ref p]/\((gd X.K H p d/\∀l,H l=J->Q (.ref l) (ff H l (.du d)))\/(ij X.K H p d/\Q (.ref p) H))):=by
 intro pins s σ H xs us Q I r h;obtain⟨p,d,rfl,h⟩:=h;obtain⟨u,rfl,y⟩:=m1 r;cases y;rcases h with ⟨f,q⟩|⟨f,q⟩
 .obtain⟨c,i,pl,t⟩:=I.list f;have m:=i.length;refine call_tuple_list pl.isList (λh' kp=>?_) (by simp only[bg]<;>omega);have j:c3 X pins σ H { s with heap:=h' }:=I.g? (t':=s.toks) kp;have x:c3 X pins σ (ff H h'.objs.size (.du d)) { s with heap:=h'.push { cls:=.type "tuple", data:=.seq c.toArray } }:=
   j.laid (t':=s.toks) (λb o e=>aK _ e) (aO _) (show wI X.prog X.w _ _ _ (.du d) from⟨t,c,i,m6 _ _⟩)
  exact⟨.ref h'.objs.size,_,x,O,q _ (j.fx.fresh (aO _))⟩
 .obtain⟨c,i,pl,t⟩:=I.tuple f;exact call_tuple_same pl ⟨.ref p,H,I,O,q⟩
def tyV(K:av)(T:String)(x:V)(H:Hp):Prop:=match x with
 |.str _=>T="str"
 |.int _=>T="int"
 |.ref p=>(T="list" /\ ∃c,gd K H p c)\/(T="tuple" /\ ∃o,K.lookup p=Z o/\o.cls=.type "tuple" /\ o.dict=J)\/
   (T="dict" /\ ((∃kvs,H p=Z (.dK kvs))\/∃kvs,H p=Z (.dT kvs)))\/(T="set" /\ ∃S n,H p=Z (.set S n))
 |_=>False
def Y2(I:c3 X l y H s)(r:et x v)(ty:tyV X.K T x H):
  s.TypeIs v T/\∀a,v=.ref a->∃j,s.heap.get? a=Z j/\j.dict=J:=by
 cases x with
 |str z=>obtain⟨t,rfl⟩:=r;cases (show T="str" from ty);exact⟨typeIs_str s z t,λ_ e=>nomatch e⟩
 |int i=>obtain⟨t,rfl⟩:=r;cases (show T="int" from ty);exact⟨mV s i t,λ_ e=>nomatch e⟩
 |ref p=>
  cases r;rcases ty with ⟨rfl,w,q⟩|⟨rfl,o,d,m,hd⟩|⟨rfl,d⟩|⟨rfl,S,n,d⟩
  .obtain⟨u,_,pl,_⟩:=I.list q;refine⟨pl.isList.typeIs,λa e=>?_⟩;cases e;obtain⟨o,n,e,c,hd,_⟩:=pl;exact⟨o,e,hd⟩
  .refine⟨⟨o,I.qi p o d,m⟩,λa e=>?_⟩;cases e;exact⟨o,I.qi _ o d,hd⟩
  .have z:∃o,s.heap.get? p=Z o/\o.ExactDict:=by
    rcases d with ⟨kvs,d⟩|⟨kvs,d⟩
    .obtain⟨_,_,_,_,o,_,_,e,f,_⟩:=I.fx p _ d;exact⟨o,e,f⟩
    .obtain⟨_,_,_,_,o,_,_,e,f,_⟩:=I.fx p _ d;exact⟨o,e,f⟩
   obtain⟨o,e,f⟩:=z;refine⟨⟨o,e,f.1⟩,λa h=>?_⟩;cases h;exact⟨o,e,f.2.1⟩
  .obtain⟨o,_,_,_,e,f,_⟩:=I.fx p _ d;refine⟨⟨o,e,f.1⟩,λa h=>?_⟩;cases h;exact⟨o,e,f.2.1⟩
 |_=>exact c9 ty
def tBM(K:av)(T:String)(r:V->bN->Hp->VK->Prop)(to:TE)(t:TA):TE:=λd H Q=>to d H λx c=>tyV K T x c/\t d c λf e=>r x f e Q
variable{o e:Expr}{es:List Expr}{to:TE}{t:TA}{name:Str}{apos cpos:Pos}{T id:String}{r:V->bN->Hp->VK->Prop}
def acJ(A:mW T)(slot:Slot T name id)(hty:typeOf (.builtin id)=pure (.type "method_descriptor"))(w:MtR X id r)(y:PE X o to)(u:PA X (e::es) t)
  (hbase:fI o name X.b1 (eval o X.b1)=eval o X.b1:=by rfl)
  (hfew:((bE cpos (aC (e::es) X.b1)).all (λx=>!x.1)&&(backToKw cpos (d8 [] X.b1)).all (λx=>x.1.isSome)
   && decide ((e::es).length+([]:List fL).length+(if ([]:List fL).isEmpty then 0 else 1)<30))=γ:=by rfl)
  (hline:(apos.endLine==cpos.line)=γ:=by rfl) (z:aC (e::es) X.b1=(δ,eval e X.b1)::aC es X.b1:=by rfl) (hplain:(bE cpos (aC es X.b1)).any (·.1)=δ:=by rfl):
  PE X (.Call (.Attribute o name apos) (e::es) [] cpos) (tBM X.K T r to t):=by
 intro c s d H Q I h;refine wpAny_Call_method_late hbase hfew hline O (fy (y c s d H _ I h) λv F zz=>?_);obtain⟨x,j,f,i,ty,B⟩:=zz;obtain⟨p,q⟩:=Y2 f i ty;refine⟨T,id,A,slot,hty,p,q,?_⟩;have hA:=u cpos c F d j _ f B;rw[z]at hA ⊢;refine ir (by show (δ||(bE cpos (aC es X.b1)).any (·.1))=δ;rw[hplain]<;>rfl) (iy ?_)
 exact fy hA λM G ⟨N,l,m,E,C⟩=>w c G d l x N v M Q m i E C
end
def MtM(X:Cx)(id:String)(r:V->bN->Hp->VK->Prop):Prop:=
 ∀(a:cD) (s:ae) (d:St) (H:Hp) (x:V) (c:bN) (v:ab) (b:List ab) (Q:VK),c3 X a d H s->et x v->ef c b->r x c H Q->
  ai (model X.prog X.w) X.A (call (.builtin id) (v::b)) (EP X a d Q) X.xe s
def ef.one:∀{x:V} {a:List ab},ef [x] a->∃u,a=[u]/\et x u
 |_,_,.cons r .nil=>⟨_,O,r⟩
theorem ef.rep(h:ef b a):∀k:Nat,ef (bU k b).flatten (bU k a).flatten
 |0=>.nil
 |k+1=>by rw[fS,fS,gG,gG];exact ef.append h (ef.rep h k)
theorem Gn(a:List ab):∀(k:Nat) (acc:List ab),
  mX (λc d=>c++d) acc.toArray (bU k a.toArray)=(acc++(bU k a).flatten).toArray
 |0,acc=>by simp
 |k+1,acc=>by
  have e:acc.toArray++a.toArray=(acc++a).toArray:=by simp
  have b:(acc++a)++(bU k a).flatten=acc++(bU (k+1) a).flatten:=by rw[fS,gG,bX]
  rw[<-b,<- Gn a k (acc++a),<- e,fS,iK]
section
variable{X:Cx}{pins:cD}{σ:St}{H:Hp}{s:ae}{l b:Addr}{xs ys zs:bN}
def c3.lset{a its':List ab}(I:c3 X pins σ H s)(hH:H l=Z (.bt xs))
  (e:s.heap.get? l=Z { cls:=.type "list", data:=.seq a.toArray n }) (hf:f a.toArray=its'.toArray) (d:ef ys its') (h:ys.length<=aG):
  c3 X pins σ (ff H l (.bt ys)) { s with heap:=s.heap.update l (cN f),toks:=j }:=by
 have q:=PySem.IsL.update e f;rw[hf]at q;refine I.vr (x:=l) (e:=l) (by rw[hH];exact trivial) (.inl O) (λi u hb c=>(gA s.heap (cN f) (dj hb)).t c) ⟨_,q⟩ ?_;exact⟨h,its',_,d,q⟩
def c3.lnew(I:c3 X pins σ H s)(c:ef ys a)(d:ys.length<=aG):
  c3 X pins σ (ff H s.heap.objs.size (.bt ys)) { s with heap:=s.heap.push { cls:=.type "list", data:=.seq a.toArray },toks:=t' }:=
 I.laid (λ_ _ q=>aK _ q) (aO _) ⟨d,a,0,c,br _ O⟩
theorem c3.fresh(I:c3 X pins σ H s):H s.heap.objs.size=J:=I.fx.fresh (aO _)
def c3.W'(I:c3 X pins σ H s)(hH:H l=Z (.bt xs)):xs.length<=aG/\∃(a:List ab) (n:Nat),ef xs a/\xs.length=a.length/\s.heap.get? l=Z { cls:=.type "list", data:=.seq a.toArray n }:=by obtain⟨z,a,n,r,e⟩:=I.fx l _ hH;exact⟨z,a,n,r,r.length,e⟩
def Iy(h:n<=aG):gy n=δ:=by unfold gy;exact aX (by omega)
end
section
variable{X:Cx}
def LD:V->bN->Hp->VK->Prop:=λx b H Q=>∃l a y,x=.ref l/\b=[y]/\H l=Z (.bt a)/\a.length<aG/\Q .E (ff H l (.bt (a++[y])))
theorem F6:MtM X "list.append" LD:=by intro c s w H x p v o Q I i f h;obtain⟨l,t,y,rfl,rfl,hH,m,q⟩:=h;cases i;obtain⟨u,rfl,d⟩:=f.one;obtain⟨z,a,n,r,j,e⟩:=I.W' hH;refine iY lg ⟨_,e,O⟩ F.entry_list_append (F.args_list_append_2 _ _) (PySem.list_append l a.toArray n u (by rw[bg];omega)) ⟨e,?_⟩;refine⟨.E,_,I.lset (its':=a++[u]) hH e (by simp) (r.append (.cons d .nil)) ?_,O,q⟩;rw[aE,cF];omega
def Pg:V->bN->Hp->VK->Prop:=λx d H Q=>∃l b a c,x=.ref l/\d=[.ref b]/\H l=Z (.bt a)/\H b=Z (.bt c)/\a.length+c.length<=aG/\Q .E (ff H l (.bt (a++c)))
def QO:MtM X "list.extend" Pg:=by
 intro i s N H x E v C Q I y w h;obtain⟨l,b,F,M,rfl,rfl,hH,hB,B,q⟩:=h;cases y;obtain⟨u,rfl,t⟩:=w.one;cases t;obtain⟨z,c,n,r,A,e⟩:=I.W' hH;obtain⟨G,a,o,p,m,j⟩:=I.W' hB;have d:c.toArray.size+a.toArray.size<=aG:=by rw[bg,bg];omega
 have hlong:¬(!c.toArray.isEmpty&&gy (c.toArray.size+a.toArray.size))=γ:=by rw[Iy d,qp];exact bq
 refine iY jB ⟨_,e,O⟩ oW (oM _ _)
  (AutoSeq1.list_extend_list_list_0 l c.toArray n b a.toArray o hlong (by rw[bg];omega) (by omega)) ⟨e,j,?_⟩
 refine⟨.E,_,I.lset (its':=c++a) hH e (by simp) (r.append p) ?_,O,q⟩;rw[aE];omega
def rCat:R2:=λx y H Q=>∃l b a c,x=.ref l/\y=.ref b/\H l=Z (.bt a)/\H b=Z (.bt c)/\a.length+c.length<=aG/\∀p,H p=J->Q (.ref p) (ff H p (.bt (a++c)))
def Y3:ki X (cJ .Add) rCat:=by
 intro d s G H x y v u Q I o p h;obtain⟨l,b,C,F,rfl,rfl,hH,hB,w,q⟩:=h;cases o;cases p;obtain⟨z,c,n,r,t,e⟩:=I.W' hH;obtain⟨E,a,A,m,j,f⟩:=I.W' hB;refine PySem.P.add_list e f ?_ (by rw[bg,bg];omega);have i:c.toArray++a.toArray=(c++a).toArray:=by simp
 rw[i];exact⟨.ref _,_,I.lnew (t':=s.toks) (r.append m) (by rw[aE];omega),O,q _ I.fresh⟩
def rRep:R2:=λx y H Q=>∃l k a,x=.ref l/\y=.int k/\H l=Z (.bt a)/\-(2 ^ 63)<=k/\k<2 ^ 63/\a.length * k.toNat<=aG/\
 ∀p,H p=J->Q (.ref p) (ff H p (.bt (bU k.toNat a).flatten))
def len_rep{c:Type}(a:List c)(k:Nat):(bU k a).flatten.length=k * a.length:=by
 induction k with
 |zero=>simp
 |succ k b=>rw[fS,gG,aE,b,Nat.succ_mul,Nat.add_comm]
theorem Y4:ki X (cJ .Mult) rRep:=by
 intro j s P H x y v u Q I B C h;obtain⟨l,k,N,rfl,rfl,hH,p,w,i,q⟩:=h;cases B;obtain⟨t,rfl⟩:=C;obtain⟨z,b,n,r,A,e⟩:=I.W' hH;have c:b.toArray.size * k.toNat<=aG:=by rw[bg,<- A];exact i
 have hcap:¬b.toArray.size * k.toNat > (2 ^ 63 - 1) / 8:=by
  have:(aG:Nat)<=(2 ^ 63 - 1) / 8:=by decide
  omega
 have hfit:¬(!Builtin.List.listFitsIndex k)=γ:=by rw[fitsIndex_both p w];exact bq
 have hlong:¬gy (b.toArray.size * k.toNat)=γ:=by rw[Iy c];exact bq
 have hnew:mX (λd f=>d++f) #[] (bU (if b.toArray.isEmpty=γ then 0 else k.toNat) b.toArray)=(bU k.toNat b).flatten.toArray:=by
  have o:∀m:Nat,mX (λd f=>d++f) #[] (bU m b.toArray)=(bU m b).flatten.toArray:=λm=>by have:=Gn b m [];rw[bZ]at this;exact this
  rw[o];cases b with
  |nil=>simp
  |cons a G=>rw[ao (by simp)]
 refine wpAny_binaryOp_repeat_ref (T:="list") (U:="int") (by decide) ⟨_,e,O⟩ (λE=>mV E k t) noFill_list_mul F.fills_int_mul p9 repeat_list F.slot_int_index.lookup
  (iY p9 (mV s k t) F.entry_int_rmul (F.args_int_rmul_2 _ _) (int___rmul___int_list k t l b.toArray n)
   ⟨e,O,⟨_,e,O⟩,iY F.slot_list_mul ⟨_,e,O⟩ F.entry_list_mul (F.args_list_mul_2 _ _) (AutoListH.list___mul___list_int_3 l b.toArray n k t hfit hcap hlong) ⟨e,?_⟩⟩)
 rw[hnew];exact⟨.ref _,_,I.lnew (t':=s.toks) (r.rep k.toNat) (by rw[len_rep,Nat.mul_comm];exact i),O,q _ I.fresh⟩
end
section
variable{prog:aH}{w:az}{A:aI}{E:ab->ae->Prop}{s:ae}
set_option maxRecDepth 100000 in
end
section
variable{κ:Type}[DecidableEq κ]
def y3(kvs:List (κ×V))(k:κ):Option V:=(kvs.find? λkv=>decide (kv.1=k)).map (·.2)
def m?(kvs:List (κ×V))(k:κ)(v:V):List (κ×V):=
 if (kvs.any λkv=>decide (kv.1=k))=γ then kvs.map (λkv=>if kv.1=k then (kv.1,v)else kv)else kvs++[(k,v)]
def ET{p:κ×V}(e:p.1=k):y3 (p::r) k=Z p.2:=by simp[y3,eK,e]
def EU{p:κ×V}(e:¬p.1=k):y3 (p::r) k=y3 r k:=by simp[y3,eK,e]
theorem IA(k:κ):∀kvs:List (κ×V),(kvs.any λkv=>decide (kv.1=k))=(y3 kvs k).isSome
 |[]=>rfl
 |p::r=>by
  rw[f6];by_cases e:p.1=k
  .simp only[ET e,aV e,Bool.true_or,Option.isSome_some]
  .rw[EU e,aX e,qF];exact IA k r
def CW(kvs:List (κ×V))(k:κ)(v:V):(m? kvs k v).length<=kvs.length+1:=by
 unfold m?;split
 .rw[ah];omega
 .rw[aE,aN,fE];omega
def Sq{kvs:List (κ×V)}{k:κ}(v:V)(h:y3 kvs k=J):m? kvs k v=kvs++[(k,v)]:=by unfold m?;rw[IA,h];exact ao (by decide)
def CU.ν(r:CU o u):o.isSome=u.isSome:=by
 cases o with
 |none=>cases u with
  |none=>rfl
  |some _=>exact(show False from r).elim
 |some _=>cases u with
  |none=>exact(show False from r).elim
  |some _=>rfl
theorem CU.getD(r:CU o u)(b:et d a):et (o.getD d) (u.getD a):=by
 cases o with
 |none=>cases u with
  |none=>exact b
  |some _=>exact(show False from r).elim
 |some _=>cases u with
  |none=>exact(show False from r).elim
  |some _=>exact r
def KV.val(r:KV kvs j)(k:κ):CU (y3 kvs k) (valueAt j k):=by
 unfold KV at r
 induction r with
 |nil=>exact True.intro
 |@cons p q l c h t i=>
  obtain⟨d,f⟩:=h;by_cases e:p.1=k
  .have a:q.1=k:=d.symm.t e;have b:valueAt (q::c) k=Z q.2:=by simp[valueAt,eK,a]
   rw[ET e,b];exact f
  .have a:¬q.1=k:=λz=>e (d.t z);have b:valueAt (q::c) k=valueAt c k:=by simp[valueAt,eK,a]
   rw[EU e,b];exact i
theorem KV.any(r:KV kvs vs)(k:κ):(kvs.any λkv=>decide (kv.1=k))=vs.any λkv=>decide (kv.1=k):=by
 unfold KV at r
 induction r with
 |nil=>rfl
 |cons h t a=>rw[f6,f6,a,h.1]
def KV.repl(r:KV kvs f)(k:κ)(d:et y u):
  KV (kvs.map λkv=>if kv.1=k then (kv.1,y)else kv) (f.map λkv=>if kv.1=k then (kv.1,u)else kv):=by
 unfold KV at r ⊢
 induction r with
 |nil=>exact .nil
 |@cons p q i j h t c=>
  rw[aJ,aJ];refine .cons ?_ c;obtain⟨a,b⟩:=h;by_cases e:p.1=k
  .rw[ak e,ak (a.symm.t e)];exact⟨a,d⟩
  .rw[ao e,ao (λz=>e (a.t z))];exact⟨a,b⟩
def KV.put(r:KV kvs b)(k:κ)(a:et y u):KV (m? kvs k y) (stored b k u):=by
 unfold m? stored;rw[r.any k];by_cases e:(b.any λkv=>decide (kv.1=k))=γ
 .rw[ak e,ak e];exact r.repl k a
 .rw[ao e,ao e];exact q8 r ⟨O,a⟩
theorem KV.length(r:KV kvs vs):kvs.length=vs.length:=md r
end
def GO(r:et (kV k) u):(vA P w).is k u=γ:=by
 cases k with
 |inl i=>obtain⟨t,e⟩:=(show ∃t,u=Value.int i t from r);subst e;exact Mz P w i t
 |inr x=>obtain⟨t,e⟩:=(show ∃t,u=Value.str x t from r);subst e;exact MA P w x t
theorem Kq:∀{a:List fc} {b:List ab},ef (a.map kV) b->ItemsAre (vA P w) a b
 |[],_,r=>by rw[fJ]at r;cases r;exact .nil
 |k::a,_,r=>by
  rw[aJ]at r;cases r with
  |cons h t=>exact .cons (GO h) (Kq t)
abbrev KT(H:Hp):List (List fc×V)->List (List fc×Addr×ab)->Prop:=hJ λp q=>p.1=q.1/\H q.2.1=Z (.du (p.1.map kV))/\et p.2 q.2.2
def KT.val(r:KT H kvs xs)(k:List fc):CU (y3 kvs k) ((atKey xs k).map (·.2)):=by
 induction r with
 |nil=>exact True.intro
 |@cons p q j c h t i=>
  obtain⟨d,_,f⟩:=h;by_cases e:p.1=k
  .have a:q.1=k:=d.symm.t e;have b:atKey (q::c) k=Z q.2:=by simp[atKey,eK,a]
   rw[ET e,b];exact f
  .have a:¬q.1=k:=λz=>e (d.t z);have b:atKey (q::c) k=atKey c k:=by simp[atKey,eK,a]
   rw[EU e,b];exact i
def KT.repl(r:KT H kvs i)(k:List fc)(f:et y u):
  KT H (kvs.map λkv=>if kv.1=k then (kv.1,y)else kv) (i.map (putAt k u)):=by
 induction r with
 |nil=>exact .nil
 |@cons p q j l h t d=>
  rw[aJ,aJ];refine .cons ?_ d;obtain⟨a,b,c⟩:=h;unfold putAt;by_cases e:p.1=k
  .rw[ak e,ak (a.symm.t e)];exact⟨a,b,f⟩
  .rw[ao e,ao (λz=>e (a.t z))];exact⟨a,b,c⟩
def KT.put(r:KT H kvs a)(k:List fc)(d:H b=Z (.du (k.map kV)))(c:et y u):
  KT H (m? kvs k y) (storedH a k b u):=by
 have e:(kvs.any λkv=>decide (kv.1=k))=(atKey a k).isSome:=by rw[IA,(r.val k).ν,Option.isSome_map]
 unfold m? storedH;rw[e];by_cases q:(atKey a k).isSome=γ
 .rw[ak q,ak q];exact r.repl k c
 .rw[ao q,ao q];exact q8 r ⟨O,d,c⟩
def KT.keeps(r:KT H kvs e)(d:∀b a,H b=Z (.du a)->c b=Z (.du a)):KT c kvs e:=
 Paired.mapP r λ_ _ z=>⟨z.1,d _ _ z.2.1,z.2.2⟩
section
variable{P:aH}{w:az}{H:Hp}{h:Heap}{a:Addr}
def XR(ok:rz P w H h)(e:Rd H a u):wI P w H h a u:=e.ok ok
def GP(ok:rz P w H h)(e:Rd H a (.dK kvs)):kvs.length<=aG/\(a==dF)=δ/\∃b,KV kvs b/\h.DictOf (vA P w) a b:=
 show wI P w H h a (.dK kvs) from XR ok e
def XS(ok:rz P w H h)(e:H a=Z (.dK kvs)):kvs.length<=aG/\(a==dF)=δ/\∃b,KV kvs b/\h.DictOf (vA P w) a b:=GP ok (.inl e)
def IB{c:List fc}(ok:rz P w H h)(e:H a=Z (.du (c.map kV))):(tupleKind (vA P w)).is h c a:=by obtain⟨_,b,r,o,d,f,n,i⟩:=(show wI P w H h a (.du (c.map kV)) from ok a _ e);exact⟨o,b.toArray,n,d,f,i,by simpa using Kq r⟩
def Kr(ok:rz P w H h)(e:Rd H a (.dT kvs)):kvs.length<=aG/\(a==dF)=δ/\
  ∃c,KT H kvs c/\h.DictOfH (tupleKind (vA P w)) a c:=by
 obtain⟨z,y,c,r,o,i,f,j,u,A,B,C⟩:=(show wI P w H h a (.dT kvs) from XR ok e);refine⟨z,y,c,r,o,i,f,j,u,A,B,λx b=>?_,C⟩;have all:∀{l:List (List fc×V)} {m:List (List fc×Addr×ab)},KT H l m->∀x∈m,(tupleKind (vA P w)).is h x.1 x.2.1:=by
  intro l m q
  induction q with
  |nil=>intro x b;exact nomatch b
  |@cons p q F G d t E=>
   intro x b;rcases aL.1 b with e|b
   .subst e;exact IB ok (by rw[<-d.1];exact d.2.1)
   .exact E x b
 exact all r x b
def acK(ok:rz P w H h)(e:H a=Z (.dT kvs)):kvs.length<=aG/\(a==dF)=δ/\
  ∃b,KT H kvs b/\h.DictOfH (tupleKind (vA P w)) a b:=Kr ok (.inl e)
end
def sx(H:Hp)(a:Addr)(y:V)(r:Option V):Prop:=
 (∃kvs k,Rd H a (.dK kvs)/\y=kV k/\r=y3 kvs k)\/∃kvs k b,Rd H a (.dT kvs)/\y=.ref b/\H b=Z (.du (k.map kV))/\r=y3 kvs k
def Sr(H:Hp)(a:Addr)(y v:V)(c:Hp):Prop:=
 (∃kvs k,H a=Z (.dK kvs)/\y=kV k/\kvs.length<aG/\c=ff H a (.dK (m? kvs k v)))\/
 ∃kvs k b,H a=Z (.dT kvs)/\y=.ref b/\H b=Z (.du (k.map kV))/\kvs.length<aG/\c=ff H a (.dT (m? kvs k v))
theorem Sr.k{H:Hp}{a:Addr}{kvs:List (fc×V)}{k:fc}{v:V}(e:H a=Z (.dK kvs))(b:kvs.length<aG):Sr H a (kV k) v (ff H a (.dK (m? kvs k v))):=.inl ⟨kvs,k,e,O,b,O⟩
section
variable{X:Cx}{pins:cD}{σ:St}{H:Hp}{s:ae}{a:Addr}{y v:V}{u r:ab}{o:Option V}{A:aI}{E:ab->ae->Prop}
def c3.big(I:c3 X pins σ H s):dF<s.heap.objs.size:=by have h:bf<s.heap.objs.size:=(I.Hj.C?.keeps I.bk).lt;exact Nat.lt_trans (by decide) h
def QP(C:A.units+1<cLine)(I:c3 X pins σ H s)(g:sx H a y (Z v))(q:et y u)(h:∀d t,c3 X pins σ H t->et v d->Q d t):
  ai (model X.prog X.w) A (getItem (.ref a) u) Q E s:=by
 rcases g with ⟨kvs,k,e,i,l⟩|⟨kvs,k,b,e,i,x,l⟩
 .subst i;obtain⟨z,hd,F,rel,f⟩:=GP I.fx e;obtain⟨d,m,c⟩:=CU.K3 (v:=v) (o:=valueAt F k) (by rw[l];exact rel.val k);exact wpAny_getItem_of (GO q) f.mapOf m (h d _ (I.xr _) c)
 .subst i;cases (show u=Value.ref b from q);obtain⟨z,hd,G,rel,f⟩:=Kr I.fx e;obtain⟨d,m,c⟩:=CU.K3 (v:=v) (o:=(atKey G k).map (·.2)) (by rw[l];exact rel.val k)
  obtain⟨p,B,j⟩:=Option.map_eq_some_iff.1 m;refine wpAny_getItem_heap (jC C) (IB I.fx x) f B ?_;rw[j];exact h d _ (I.xr _) c
def LF(I:c3 X pins σ H s)(f:Mut (H a))(d:dD a s.heap h')(c:∃q,h'.get? a=Z q)(new:wI X.prog X.w (ff H a ob) h' a ob):
  c3 X pins σ (ff H a ob) { s with heap:=h',toks:=h }:=
 I.vr (x:=a) (e:=a) f (.inl O) (λb q hb z=>(d.2 b hb).t z) c new
def Ss{b:Heap}{kvs:List (fc×V)}(z:kvs.length<=aG)(hd:(a==dF)=δ)(rel:KV kvs c)(d:b.DictOf (vA P w) a c):
  wI P w e b a (.dK kvs):=⟨z,hd,c,rel,d⟩
def QQ(hu:A.units+1<cLine)(I:c3 X pins σ H s)(g:Sr H a y v P)(M:et y u)(G:et v r)(h:∀N,c3 X pins σ P N->Q () N):
  ai (model X.prog X.w) A (setItem (.ref a) u r) Q E s:=by
 rcases g with ⟨kvs,k,e,j,l,eH⟩|⟨kvs,k,b,e,j,B,l,eH⟩
 .subst j eH;obtain⟨z,hd,vs,rel,i⟩:=XS I.fx e;have x:vs.length<=aG:=by rw[<-rel.length];exact z
  have m:(m? kvs k v).length<=aG:=by have:=CW kvs k v;omega
  refine wpAny_setItem_pairs (hsz:=x) (GO M) i λF d p=>h _ ?_;have he:∃q,F.get? a=Z q:=let ⟨q,_,_,f,_⟩:=d;⟨q,f⟩;exact LF I (by rw[e];exact True.intro) p he (Ss m hd (rel.put k G) d)
 .subst j eH;cases (show u=Value.ref b from M);obtain⟨z,hd,xs,rel,i⟩:=acK I.fx e;have x:xs.length<=aG:=by rw[<-md rel];exact z
  have m:(m? kvs k v).length<=aG:=by have:=CW kvs k v;omega
  refine wpAny_setItem_heap (hsz:=x) (jC hu) (IB I.fx B) i λF d p=>h _ ?_;obtain⟨q,S,R,f,T,U,W,_,Y⟩:=d;refine LF I (by rw[e];exact True.intro) p ⟨q,f⟩ ⟨m,hd,_,(rel.put k B G).keeps λc ys C=>?_,q,S,R,f,T,U,W,Y⟩;rw[vn (ace C e (λz=>nomatch z))];exact C
end
section
variable{X:Cx}{pins:cD}{σ:St}{H:Hp}{s:ae}{a:Addr}{kvs:List (fc×V)}{k:fc}{u:ab}{A:aI}{E:ab->ae->Prop}
def acL(I:c3 X pins σ H s)(e:Rd H a (.dK kvs))(h:∀t b,c3 X pins σ H b->Q (.int kvs.length t) b):ai (model X.prog X.w) A (call (.builtin "len") [.ref a]) Q E s:=by obtain⟨z,hd,d,rel,c⟩:=GP I.fx e;refine call_len_dict hd c (by rw[<-rel.length];rw[bS]at z;omega) ?_;rw[<-rel.length];exact h _ _ (I.xr _)
end
def Y5(i:Expr):Prop:=∀b a,subscripted i δ b a=operate [b,a] (getItem b a)
def VW{prog:aH}{w:az}{A:aI}{E:ab->ae->Prop}{s:ae}{b1:Env}{value slice:Expr}{pos:Pos}{T id:String}{Q:ab->ae->Prop}
  (j:typeLookup (.type T) "__getitem__" = pure (Z (.builtin id))) (l:Y5 slice)
  (h:ai (model prog w) A (eval value b1) (λo c=>ai (model prog w) A (eval slice b1) (λi a=>a.TypeIs o T/\ai (model prog w) A (getItem o i) Q E a) E c) E s):
  ai (model prog w) A (eval (.Subscript value slice pos) b1) Q E s:=by
 refine mU (b9 h (λo c e=>b9 e (λi a b=>?_) λ_ _ x=>x) λ_ _ x=>x);obtain⟨hT,b⟩:=b;unfold subscriptTail;refine af ?_;rw[getitemInPython_of_ne hT.not_modules];refine af (gR hT j ?_);have fin:ai (model prog w) A (subscripted slice δ o i) (λr d=>ai (model prog w) A (letTemporaryGo value o r>>=λ_=>pure r) Q E d) E a:=by rw[l o i];exact wpAny_operating (b9 b (λr d f=>af (wpAny_letTemporaryGo (ar f))) λ_ _ x=>x)
 first
  |exact ar (af fin)
  |exact af (ar (af fin))
  |exact af fin
def MK(I:c3 X d i H s)(g:sx H a y o):s.TypeIs (.ref a) "dict" := by
 rcases g with ⟨kvs,k,e,_,_⟩|⟨kvs,k,b,e,_,_,_⟩
 .obtain⟨_,_,f,_,c⟩:=GP I.fx e;exact c.typeIs
 .obtain⟨_,_,h,_,c⟩:=Kr I.fx e;exact c.typeIs
def acM(e ty:TE):TE:=λc H Q=>e c H λx d=>ty c d λy b=>∃a v,x=.ref a/\sx b a y (Z v)/\Q v b
def XT(h ty i:TE):TS:=λD b H=>i b H λv d=>h b d λx e=>ty b e λy f=>∃a c,x=.ref a/\Sr f a y v c/\D.nx b c
section
variable{X:Cx}{o i e value:Expr}{pos pos' tpos:Pos}{td ty tv:TE}
theorem VX(z:X.A.units+1<cLine)(t:PE X o td)(r:PE X i ty)(w:Y5 i):PE X (.Subscript o i pos) (acM td ty):=by intro b s f H Q I h;refine VW F.slot_dict_getitem.lookup w (fy (t b s f H _ I h) λu M ⟨x,j,m,E,B⟩=>fy (r b M f j _ m B) λN P zz=>?_);obtain⟨y,l,d,G,a,v,q,g,C⟩:=zz;subst q;obtain rfl:u=Value.ref a:=E;exact⟨MK d g,QP z d g G λS R p c=>⟨v,l,p,c,C⟩⟩
def VY(C:X.A.units+1<cLine)(z:PE X o td)(w:PE X i ty)(E:PE X value tv)(B:dG value (Z (.Subscript o i pos')) pos.line X.b1=pure δ):
  PS X (.Assign [.Subscript o i pos'] value pos) (XT td ty tv):=by
 intro b s c H D I h;refine wpAny_Assign_Subscript (fy (E b s c H _ I h) λr Q ⟨v,d,l,M,F⟩=>fy (z b Q c d _ l F) λu R ⟨x,f,m,N,G⟩=>fy (w b R c f _ m G) λT U zz=>?_) B;obtain⟨y,S,p,P,a,j,t,g,q3⟩:=zz;subst t;obtain rfl:u=Value.ref a:=N;exact QQ C p g P M λW q=>⟨c,j,q,q3⟩
end
def Su(h:Heap)(a:dF<h.objs.size):wI P w H (h.push { cls:=.type "dict", data:=.dict #[] }) h.objs.size (.dK []):=
 ⟨cq _,beq_eq_false_iff_ne.2 (dj (bc a)),[],.nil,uH h⟩
def Od:TE:=λ_ H Q=>∀p,H p=J->Q (.ref p) (ff H p (.dK []))
section
variable{X:Cx}{pos:Pos}
def ML:PE X (.Dict [] [] pos) Od:=λb s d H Q I h=>
 wpAny_Dict_empty ⟨.ref s.heap.objs.size,_,I.laid (a:=s.heap.objs.size) (o:=.dK []) (t':=s.toks) (λ_ _ q=>aK _ q) (aO _) (Su s.heap I.big),O,h _ (I.fx.fresh (aO _))⟩
end
structure M1(X:Cx)(o:Expr)(m:Str)(apos:Pos)(e:Expr)(cpos:Pos):Prop where
 b?:fI o m X.b1 (eval o X.b1)=eval o X.b1
 few:((bE cpos (aC [e] X.b1)).all (λx=>!x.1)&&(backToKw cpos (d8 [] X.b1)).all (λx=>x.1.isSome)
  && decide (([e]:List Expr).length+([]:List fL).length+(if ([]:List fL).isEmpty then 0 else 1)<30))=γ
 line:(apos.endLine==cpos.line)=γ
 Rk:bE cpos (aC [e] X.b1)=[(δ,eval e X.b1)]
structure M2(X:Cx)(o:Expr)(m:Str)(apos:Pos)(e f:Expr)(cpos:Pos):Prop where
 b?:fI o m X.b1 (eval o X.b1)=eval o X.b1
 few:((bE cpos (aC [e,f] X.b1)).all (λx=>!x.1)&&(backToKw cpos (d8 [] X.b1)).all (λx=>x.1.isSome)
  && decide (([e,f]:List Expr).length+([]:List fL).length+(if ([]:List fL).isEmpty then 0 else 1)<30))=γ
 line:(apos.endLine==cpos.line)=γ
 Rk:bE cpos (aC [e,f] X.b1)=[(δ,eval e X.b1),(δ,eval f X.b1)]
def IsD(H:Hp)(a:Addr):Prop:=(∃kvs,Rd H a (.dK kvs))\/∃kvs,Rd H a (.dT kvs)
def LG(I:c3 X j o H s)(d:IsD H a):
  s.TypeIs (.ref a) "dict" /\ (∀b,Value.ref a=.ref b->∃c,s.heap.get? b=Z c/\c.dict=J)/\(a==dF)=δ:=by
 rcases d with ⟨kvs,e⟩|⟨kvs,e⟩
 .obtain⟨_,hd,l,_,f⟩:=GP I.fx e;refine⟨f.typeIs,λb q=>?_,hd⟩;cases q;obtain⟨c,_,_,h,i,_⟩:=f;exact⟨c,h,i.2.1⟩
 .obtain⟨_,hd,m,_,f⟩:=Kr I.fx e;refine⟨f.typeIs,λb q=>?_,hd⟩;cases q;obtain⟨c,_,_,h,i,_⟩:=f;exact⟨c,h,i.2.1⟩
section
variable{X:Cx}{pins:cD}{σ:St}{H:Hp}{s:ae}{a:Addr}{y d:V}{u r:ab}{o:Option V}{A:aI}{E:ab->ae->Prop}
def Sv(q:A.units+1<cLine)(I:c3 X pins σ H s)(g:sx H a y o)(i:et y u)(h:∀m j,c3 X pins σ H j->et (o.getD .E) m->Q m j):
  ai (model X.prog X.w) A (call (.builtin "dict.get") [.ref a,u]) Q E s:=by
 rcases g with ⟨kvs,k,e,f,l⟩|⟨kvs,k,b,e,f,p,l⟩
 .subst f;obtain⟨z,hd,x,rel,c⟩:=GP I.fx e;refine gY fF c.typeIs iJ (lp _ _) (qq (vA X.prog X.w) a (GO i) hd) ⟨_,c.mapOf,h _ _ (I.xr _) ?_⟩;rw[l];exact(rel.val k).getD O
 .subst f;cases (show u=Value.ref b from i);obtain⟨z,hd,t,rel,c⟩:=Kr I.fx e;refine gY fF c.typeIs iJ (lp _ _) (meetsH_dict_get (tupleKind (vA X.prog X.w)) a b hd) ⟨jC q,k,t,IB I.fx p,c,h _ _ (I.xr _) ?_⟩;rw[l];exact(rel.val k).getD O
def Y6(t:A.units+1<cLine)(I:c3 X pins σ H s)(g:sx H a y o)(j:et y u)(i:et d r)(h:∀p m,c3 X pins σ H m->et (o.getD d) p->Q p m):
  ai (model X.prog X.w) A (call (.builtin "dict.get") [.ref a,u,r]) Q E s:=by
 rcases g with ⟨kvs,k,e,f,l⟩|⟨kvs,k,b,e,f,q,l⟩
 .subst f;obtain⟨z,hd,B,rel,c⟩:=GP I.fx e;refine gY fF c.typeIs iJ (pE _ _ _) (meets_dict_get_default (vA X.prog X.w) a (GO j) hd r) ⟨_,c.mapOf,h _ _ (I.xr _) ?_⟩;rw[l];exact(rel.val k).getD i
 .subst f;cases (show u=Value.ref b from j);obtain⟨z,hd,x,rel,c⟩:=Kr I.fx e;refine gY fF c.typeIs iJ (pE _ _ _) (meetsH_dict_get_default (tupleKind (vA X.prog X.w)) a b hd r) ⟨jC t,k,x,IB I.fx q,c,h _ _ (I.xr _) ?_⟩;rw[l];exact(rel.val k).getD i
end
def Y7(e ty:TE):TE:=λd H Q=>e d H λx b=>∃a,x=.ref a/\IsD b a/\ty d b λy c=>∃o,sx c a y o/\Q (o.getD .E) c
def Y8(f ty h:TE):TE:=λb H Q=>f b H λx c=>∃a,x=.ref a/\IsD c a/\ty b c λy e=>h b e λz d=>∃o,sx d a y o/\Q (o.getD z) d
section
variable{X:Cx}{o e f:Expr}{apos cpos:Pos}{td ty tx:TE}
def Sw(B:X.A.units+1<cLine)(z:PE X o td)(w:PE X e ty)(m:M1 X o "get" apos e cpos):PE X (.Call (.Attribute o "get" apos) [e] [] cpos) (Y7 td ty):=by intro b s j H Q I h;refine jE m.b? m.few m.line jF fF lY (fy (z b s j H _ I h) λu M zz=>?_);obtain⟨x,l,i,F,a,t,d,C⟩:=zz;subst t;obtain rfl:u=Value.ref a:=F;obtain⟨N,P,_⟩:=LG i d;refine⟨N,P,?_⟩;rw[m.Rk];refine ir O (iy (eE (fy (w b M j l _ i C) λR T ⟨y,p,q,G,S,g,E⟩=>fV ?_)));exact Sv B q g G λW U r c=>⟨_,p,r,c,E⟩
def Sx(G:X.A.units+1<cLine)(F:PE X o td)(C:PE X e ty)(E:PE X f tx)(m:M2 X o "get" apos e f cpos):PE X (.Call (.Attribute o "get" apos) [e,f] [] cpos) (Y8 td ty tx):=by
 intro b s i H Q I h;refine jE m.b? m.few m.line jF fF lY (fy (F b s i H _ I h) λu T zz=>?_);obtain⟨x,l,j,P,a,B,d,M⟩:=zz;subst B;obtain rfl:u=Value.ref a:=P;obtain⟨W,Y,_⟩:=LG j d;refine⟨W,Y,?_⟩;rw[m.Rk];refine ir O (iy (eE (fy (C b T i l _ j M) λiv U ⟨y,p,r,R,N⟩=>
  eE (fy (E b U i p _ r N) λfv s3 ⟨z,q,t,S,ov,g,q3⟩=>fV ?_))))
 exact Y6 G t g R S λw' s4 w c=>⟨_,q,w,c,q3⟩
end
end L2
namespace Att
open PySem PySem.W PySem.Calls PyProof.Rows
def HN:∀(c:List Int) (d:List ab),WellAll P h d (c.map WData.int)->i4 d c:=by
 intro c
 induction c with
 |nil=>intro d w;rw[fJ]at w;cases w;exact .nil
 |cons n c e=>
  intro d w;rw[aJ]at w;cases w with
  |cons a b=>cases a;exact .cons _ _ (e _ b)
def QR{l:hX}(t:l.most=Z n)
  (hpre:l.row.toRowW.claim.pre args=γ) (hwl:WellAll P h vals args):
  ∃a j b,vals=[Value.ref a]/\args=[WData.list (b.map WData.int)]/\h.get? a=Z { cls:=.type "list", data:=.seq j.toArray }/\i4 j b/\b.length<=n:=by
 have hsh:WShape.hasAll [] args [.list .int]=γ:=(pre_splitW hpre).1;have i:l.pre.holds [] { args:=args }=γ:=(pre_splitW hpre).2;obtain⟨d,r,rfl,m,o⟩:=hasAllW_cons hsh;obtain rfl:=hasAllW_nil o;obtain⟨z,rfl,p⟩:=hasW_list m;obtain⟨b,rfl⟩:=items_int p;have c:b.length<=n:=by
  unfold OpenLaw.pre at i;have e:(WTm.not (.lt (.lit (.int (n:Int))) (.len (.arg 0)))).holds [] { args:=[.list (b.map .int)] }=γ:=by have e:=(holds_andW i).1;rw[t]at e;exact e
  have f:=condW_of e (w_not (w_lt w_lit (w_len_list (w_arg O))));rw[ah]at f;refine pX λq=>?_;have w:(n:Int)<((b.length:Nat):Int):=by omega
  first
   |(rw[aV w]at f;exact aq f (by decide))
   |(simp at f;omega)
 cases hwl with
 |cons x y=>
  cases y;cases x with
  |list u hall=>exact⟨_,_,b,O,O,u,HN b _ hall,c⟩
def QS(l:hX)(args:List WData):l.row.toRowW.claim.post args (.bool γ) args=γ:=
 postW_of (r:=l.row.toRowW) (X:=(γ==γ))
  (show rj [] (.bool γ) .bool=γ by first|rfl|decide|simp[rj,WShape.arms,WShape.armsAll])
  (show (WTm.eq .res (.lit (.bool γ))).value [] { args:=args,res:=Z (.bool γ),after:=args }=Z (.bool (γ==γ)) from w_eq_bool (w_res O) w_lit) O
def Rl{l:hX}{d:DefRec}
  (E:l.most=Z n) (hdf:d.params.defaults=[])
  (call:∀(w:az) (c b:ae) (m u:Str->Option ab) (h:Addr) (o:Obj) (x j doc:ab) (a:Addr) (e:List ab) (p:List Int),
   Ground q loose [] XP w c m u b.heap->YP w b.heap->
   b.heap.get? h=Z o->o.data=.func (docDef d.name d.params d.body d.scope x j doc)->b.heap.CodeRec j d.name->m d.name=Z (.ref h)->
   b.heap.get? a=Z { cls:=.type "list", data:=.seq e.toArray }->i4 e p->p.length<=n->b.gens=#[]->
   cw (model l.prog w) callerA (.call (.ref h) ⟨[.ref a],[]⟩) (λr t=>r=.ok (.ret (.bool γ))/\OldK b.heap t.heap/\t.os=b.os/\eT t.gens) b):
  WalkO q loose XP YP l.row.toRowW d [] (λf e=>mY f e):=by
 intro w c b m u G Y h o x j doc dV kV F hd hcd hD hmg B args vals as hpre hlay hrd hwl hlo;obtain rfl:dV=.none:=Dflts.none hD hdf;obtain rfl:kV=.none:=Dflts.noKw hD;obtain⟨a,e,p,rfl,rfl,hobj,hints,i⟩:=QR E hpre hwl;refine enter_call (gX (call w c b m u h o x j doc a e p G Y F (fd_plain hd) hcd hmg hobj hints i B) λr t H=>?_);obtain⟨rfl,y,z,A⟩:=H;exact⟨.inl ⟨.bool γ,.bool γ,[],O,λ_=>O,.bool γ,QS l _,λ_=>⟨List.Pairwise.nil,λ_ C=>(nomatch C)⟩⟩,y,z,A⟩
end Att
namespace L2
open PySem PySem.Spec PyProof.Rows
theorem Ks:∀{b:List ab} {a:List Int},i4 b a->ef (a.map V.int) b
 |_,_,.nil=>.nil
 |_,_,.cons n t h=>.cons ⟨t,O⟩ (Ks h)
def Y9(H:Hp):Prop:=∀b,H b=J\/∃o a,H b=Z (.n? o (.bt a))
def Sy{K:av}{c:ae}{j:List ab}
  (KX:K.In c.heap) (hns:c.heap.Ns bf A) (f:c.heap.Ns builtinsNs Q) (hbb:∀x:Str,x≠"__name__" -> Q x=dY x) (hlim:c.heap.NoLimit) (hg:c.gens=#[])
  (y:c.heap.get? a=Z { cls:=.type "list", data:=.seq j.toArray }) (M:i4 j B) (N:B.length<=aG) (hr:xA k callerA)
  (F:∀b?:Heap,K.In b?->b?.Ns bf A->zm P w K A b? CX k I W [x] sp) (hbind:∀(s:ae) (u:ab),hZ s W ⟨[u],[]⟩ [(x,u)])
  (hsp:∀H:Hp,Y9 H->gd K H a (B.map V.int)->sp [.ref a] H (λv _=>v=.I γ) λ_ _ _=>False)
  (hCX:∀H e i,CX [] H c (λ_ _ _=>False) e i->False):
  cw (model P w) callerA (.call (.ref I) ⟨[.ref a],[]⟩) (λr i=>r=.ok (.ret (.bool γ))/\OldK c.heap i.heap/\i.os=c.os/\eT i.gens) c:=by
 have R:=Ks M;have lenV:=M.length;have core:∀H:Hp,Y9 H->gd K H a (B.map V.int)->rz P w H c.heap->(∀b,H b≠J->b=a)->(H a≠J->K.lookup a=J)->
   cw (model P w) callerA (.call (.ref I) ⟨[.ref a],[]⟩) (λr i=>r=.ok (.ret (.bool γ))/\OldK c.heap i.heap/\i.os=c.os/\eT i.gens) c:=by
  intro H hO hS fx hA hK;have base_of:∀{b:Addr} {o:Obj},c.heap.get? b=Z o->H b=J->(Lp c.heap H).get? b=Z o:=λe n=>RW e n;have noA:∀{b:Addr} {o:Obj} {p:Array DictEntry} {l:Nat},c.heap.get? b=Z o->o.data=.dict p l->H b=J:=λ{b o p l} e d=>by
   cases q:H b with
   |none=>rfl
   |some u=>have C:b=a:=hA b (by rw[q];simp);subst C;rw[y]at e;cases e;have S:Data.seq j.toArray _=Data.dict p l:=d;cases S
  have nsK:∀{b:Addr} {m:Str->Option ab},c.heap.Ns b m->(Lp c.heap H).Ns b m:=λ{b m} ⟨o,p,l,e,d,r⟩=>⟨o,p,l,base_of e (noA e d),d,r⟩;have hKb:K.In (Lp c.heap H):=λb o e=>base_of (KX b o e) (by
   cases q:H b with
   |none=>rfl
   |some u=>
    have C:b=a:=hA b (by rw[q];simp);subst C;rw[hK (by rw[q];simp)]at e;cases e)
  have hM:Mod K A (Lp c.heap H):=⟨hKb,nsK hns,⟨Q,nsK f,hbb⟩,let ⟨mc,Y,h2⟩:=hlim;⟨mc,nsK Y,h2⟩⟩;have T:N9 P w K A (Lp c.heap H) callerA [] c H:=⟨O,hM,λb o e=>Vx e,qL (Qz _ _),trivial,λb f=>aq (show b∈([]:List Addr) from f) (by simp),fx,.of_eq hg⟩;refine gX ((F _ hKb (nsK hns)).run callerA [] c H ⟨[.ref a],[]⟩ [.ref a] [.ref a] _ _ hr T (hbind c (.ref a)) (.cons O .nil) (hsp H hO hS)) λr i h=>?_;cases r with
  |error e=>exact(hCX H e i h).elim
  |ok X=>
   cases X with
   |next=>exact c9 h
   |brk=>exact c9 h
   |cont=>exact c9 h
   |ret u=>
    obtain⟨v,H',os,l',un,hok',r',q⟩:=h;have q':v=.I γ:=q;subst q';obtain rfl:u=Value.bool γ:=r';refine⟨O,OldK.of_keep λb o e=>?_,os,l'⟩;cases q:H b with
    |none=>exact un.keep b o e q (by intro z;exact aq (show b∈([]:List Addr) from z) (by simp)) (by simp)
    |some u=>
     rcases hO b with z|⟨ob,xs,z⟩
     .rw[q]at z;cases z
     .have z2:=un.B? b ob _ z;obtain⟨G,_⟩:=fx b _ z;obtain⟨U,_⟩:=hok' b _ z2;rw[e]at G;cases G;exact U
 cases E:K.lookup a with
 |some o=>have e:=KX a o E;rw[y]at e;cases e;refine core (λ_=>J) (λ_=>.inl O) (.inr ⟨_,j.toArray,_,E,O,O,O,by rw[bg,lenV];exact N,by simpa using R⟩) (λb u z=>by have t:(J:Option HO)=Z u:=z;cases t) (λb z=>aq O z) λz=>aq O z
 |none=>
  refine core (λb=>if b=a then Z (.n? { cls:=.type "list", data:=.seq j.toArray } (.bt (B.map V.int)))else J) (λb=>?_) (.inl (.inr ⟨{ cls:=.type "list", data:=.seq j.toArray },ak O⟩)) (λb u z=>?_) (λb z=>?_) λ_=>E
  .by_cases f:b=a
   .exact .inr ⟨_,_,ak f⟩
   .exact .inl (ao f)
  .by_cases f:b=a
   .have t:=(ak f).symm.t z;cases t;subst f;exact⟨y,by rw[ah];exact N,j,_,R,y⟩
   .have t:=(ao f).symm.t z;cases t
  .by_cases f:b=a
   .exact f
   .exact aq (ao f) z
def VZ{l:hX}{n k:Nat}{q:aH}{loose:aF}{XP:(Str->Option ab)->Heap->Prop}{YP:az->Heap->Prop}{d:DefRec}{K:Params->av}{CX:az->CXT}{sp:az->Sp}{x:Str}
  (E:l.most=Z n) (t:n<=aG) (hdf:d.params.defaults=[]) (I:xA k callerA)
  (hY:∀(w:az) (h:Heap),YP w h->(K w.params).In h)
  (F:∀(w:az) (i:Str->Option ab) (m:Addr) (h:Heap),(K w.params).In h->h.Ns bf i->i d.name=Z (.ref m)->
   ∃r:bV,(∀(s:ae) (u:ab),hZ s r ⟨[u],[]⟩ [(x,u)])/\
    ∀b?:Heap,(K w.params).In b?->b?.Ns bf i->zm l.prog w (K w.params) i b? (CX w) k m r [x] (sp w))
  (hsp:∀(w:az) (H:Hp) (a:Addr) (p:List Int),p.length<=n->Y9 H->gd (K w.params) H a (p.map V.int)->sp w [.ref a] H (λv _=>v=.I γ) λ_ _ _=>False)
  (hCX:∀(w:az) (H:Hp) (s:ae) (e:ab) (y:ae),CX w [] H s (λ_ _ _=>False) e y->False):
  W.WalkO q loose XP YP l.row.toRowW d [] (λf A=>mY f A):=by
 refine Att.Rl E hdf λw z j i P m o Q M doc a A p G Y N hd hcd hmg hobj hints c C=>?_;have KX:=hY w _ Y;obtain⟨r,B,hF⟩:=F w i m _ KX G.T.g hmg;exact Sy KX G.T.g G.T.b G.T.builtins G.T.nolimit C hobj hints (bD c t) I hF B (λH hO hS=>hsp w H a p c hO hS) λH e y=>hCX w H j e y
def dr(s:Stmt)(j:Nat):Stmt:=match s with
 |.ClassDef _ _ _ body _ _ _ _ _ _ _=>body.getD j (.Pass ⟨0,0,0,0⟩)
 |_=>.Pass ⟨0,0,0,0⟩
def y4(s:Stmt):Arguments:=match s with
 |.FunctionDef _ a _ _ _ _ _ _ _ _=>a
 |_=>{ posonlyargs:=[],args:=[],vararg:=J,kwonlyargs:=[],kw_defaults:=[],kwarg:=J,defaults:=[] }
def vV(s:Stmt):List Stmt:=match s with
 |.FunctionDef _ _ b _ _ _ _ _ _ _=>b
 |_=>[]
def vt(s:Stmt):cK:=match s with
 |.FunctionDef _ _ _ _ _ _ a _ _ _=>a
 |_=>{ kind:=.function,names:=[],isGenerator:=δ,isCoroutine:=δ }
abbrev H?:CXT:=λ_ _ _ _ _ _=>False
abbrev E0:XK:=λ_ _ _=>False
def IC:rm H? X E0:=λ_ _ _ _ _ _ _ h=>h.elim
structure Fun(K:av)(x qual:Str)(st:Stmt)(f:Addr)(fd:bV):Prop where
 ex:∃(oc:ab) (od:Option Addr) (kV doc pm:ab) (an:Option Addr) (cdv ct:ab) (osl:Array (Option ab)),
  fd=eV x qual (y4 st) (vV st) (vt st) .none kV doc pm an cdv ct/\K.lookup f=Z ⟨oc,od,.func fd,osl⟩/\hU K cdv qual=γ
 kp:d9 K (.ref f)=γ
section
variable{P:aH}{w:az}{K:av}{mg:Str->Option ab}{b?:Heap}
theorem Fun.ok{x qual:Str}{st:Stmt}{f:Addr}{c:bV}{N ps:aF}{k:Nat}{b:Sp}(F:Fun K x qual st f c)(S:xJ N ps (vt st))(len:∀a H Q E,b a H Q E->a.length=ps.length)
  (hbody:∀(cdv:ab) (A:aI) (da:List Env) (s:ae) (H:Hp) (a:bN) (Q:VK) (E:XK),xA k (A.deeper (envOfC qual (vt st) s.heap.objs.size f cdv))->b a H Q E->
   ∃t,p5 (MF H? P w K mg b? N qual (vt st) f cdv A da s H E).nox (vV st) t/\t { nx:=λ_ d=>Q .E d,rt:=Q } (start N a) H):zm P w K mg b? H? (k+1) f c ps b:=by
 obtain⟨m,o,kV,doc,p,j,cdv,l,osl,rfl,i,hcd⟩:=F.ex;refine XN i hcd S len λA da s H a Q E e hsp=>?_;obtain⟨t,h,q⟩:=hbody cdv A da s H a Q E e hsp;exact⟨t,h.nox,q⟩
theorem Fun.tp{x qual:Str}{st:Stmt}{f:Addr}{i:bV}{d:aF}(F:Fun K x qual st f i)
  (h:∀(kV doc c:ab) (a:Option Addr) (cdv b:ab) (e:List ab),e.length=d.length->bindArgs (eV x qual (y4 st) (vV st) (vt st) .none kV doc c a cdv b) ⟨e,[]⟩=pure (d.zip e)):l? K i d []:=by
 obtain⟨l,m,kV,doc,c,a,cdv,b,osl,rfl,j,hcd⟩:=F.ex;exact .all (h kV doc c a cdv b)
end
def MM(a:xA k A):A.units+1<cLine:=jD (Nat.add_le_add_left (by decide:1<=64) _) a.units
def DO(h:n<=1000):n<aG:=jD h (by decide)
section
variable{X:Cx}
def pv(i:Nat)(hN:X.N[i]?=Z x:=by rfl)(a:Vis X.b1.scope x:=by first|exact Or.inl O|exact Or.inr (Or.inl O)|exact Or.inr (Or.inr O))(hd:(x==("__debug__" : Str))=δ:=by decide)
  (hcd:(x==("__classdict__" : Str))=δ:=by decide):PE X (.Name x pos) (BU i):=Ys hN a hd hcd
end
def LH{A B:Prop}(h:B):if δ=γ then A else B:=by rw[ao bq];exact h
def LI{A B:Prop}(h:A):if γ=γ then A else B:=by rw[ak O];exact h
def ve(H a:Hp):Prop:=∀b o,H b=Z o->a b=Z o
def ve.refl(H:Hp):ve H H:=λ_ _ h=>h
def ve.t(a:ve H d)(b:ve d e):ve H e:=λc o h=>b c o (a c o h)
def ve.seq{K:av}{H b:Hp}{a:Addr}{xs:bN}(e:ve H b)(h:gd K H a xs):gd K b a xs:=by
 rcases h with (h|⟨o,h⟩)|h
 .exact .inl (.inl (e _ _ h))
 .exact .inl (.inr ⟨o,e _ _ h⟩)
 .exact .inr h
end L2
set_option maxHeartbeats 4000000
namespace L3
open PySem PySem.Spec PyProof.Rows L2
abbrev St:=L2.St
theorem ID{d a:Type}{f:d->a->Sem (ForInStep a)}{g:a->d->a}:∀(l:List d) (b:a),(∀x∈l,∀c,f x c=pure (ForInStep.yield (g c x)))->(forIn l b f:Sem a)=pure (l.foldl g b)
 |[],b,_=>by simp
 |x::r,b,h=>by rw[List.forIn_cons,h x bb b];show (forIn r (g b x) f:Sem a)=_;rw[ID r (g b x) λy e c=>h y (ba _ e) c];rfl
def CD(cells:List (Str×Addr))(cs:List (Str×Addr))(x:Str×ee):List (Str×Addr):=if (x.2==NameKind.free)=γ then (x.1,(cells.lookup x.1).getD 0)::cs else cs
def zQ(cells:List (Str×Addr))(names:List (Str×ee)):List (Str×Addr):=names.foldl (CD cells) []
def J2{scope:cK}{b1:Env}(h:∀x∈scope.names,x.2=.free->∃c,b1.cells.lookup x.1=Z c):
  closureFor scope b1=pure (zQ b1.cells scope.names):=by
 simp only[closureFor];rw[ID (g:=CD b1.cells) scope.names [] λx i c=>by
  obtain⟨n,k⟩:=x;by_cases b:k=.free
  .subst b;obtain⟨a,e⟩:=h _ i O;have d:b1.cells.lookup n=Z a:=e;simp only[CD,cellOf,d,beq_self_eq_true,if_true,pY];rfl
  .have f:(k==NameKind.free)=δ:=by simpa using b
   simp only[CD,f,eG,if_false]]
 rfl
theorem MN{cells:List (Str×Addr)}:∀(names:List (Str×ee)) (acc:List (Str×Addr)),(∀x∈names,x.2=.free->∃c,cells.lookup x.1=Z c)->(∀x c,acc.lookup x=Z c->cells.lookup x=Z c)->
  ∀x c,(names.foldl (CD cells) acc).lookup x=Z c->cells.lookup x=Z c
 |[],acc,_,j,x,c,e=>j x c e
 |y::r,acc,h,j,x,c,e=>by
  refine MN r (CD cells acc y) (λz p=>h z (ba _ p)) (λz d b=>?_) x c e;obtain⟨n,k⟩:=y;unfold CD at b;split at b
  .rename_i o;obtain⟨a,m⟩:=h (n,k) bb (by simpa using o);have f:cells.lookup n=Z a:=m;rw[fC]at b;cases l:z==n with
   |true=>rw[l]at b;have i:Z ((cells.lookup n).getD 0)=Z d:=b;rw[f]at i;rw[gm l,f];exact i
   |false=>rw[l]at b;exact j z d b
  .exact j z d b
theorem Kt:∀(names:List (Str×ee)) (acc:List (Str×Addr)) (x:Str),(∃c,acc.lookup x=Z c)->∃c,(names.foldl (CD cells) acc).lookup x=Z c
 |[],_,_,h=>h
 |y::r,acc,x,h=>by
  refine Kt r (CD cells acc y) x ?_;unfold CD;split
  .rw[fC];cases x==y.1 with
   |true=>exact⟨_,O⟩
   |false=>exact h
  .exact h
theorem IE:∀(names:List (Str×ee)) (acc:List (Str×Addr)) (x:Str),(x,NameKind.free)∈names->∃c,(names.foldl (CD cells) acc).lookup x=Z c
 |[],_,_,h=>by cases h
 |y::r,acc,x,h=>by
  rcases aL.1 h with e|h
  .subst e;refine Kt r _ x ?_;unfold CD;rw[ak (by simp),fC];simp
  .exact IE r _ x h
theorem BW{b1:Env}(x:Str):∀(names:List (Str×ee)),
  (names.map λ(n,k)=>if (k==NameKind.free&&b1.scope.kind==.function&&b1.kindOf n==Z .cell)then (n,NameKind.cell)else (n,k)).lookup x=
   (names.lookup x).map λk=>if (k==NameKind.free&&b1.scope.kind==.function&&b1.kindOf x==Z .cell)=γ then NameKind.cell else k
 |[]=>rfl
 |(n,k)::r=>by
  have c:=BW (b1:=b1) x r;rw[aJ,fC (k:=n)];show dE x ((if (k==NameKind.free&&b1.scope.kind==.function&&b1.kindOf n==Z .cell)=γ then (n,NameKind.cell)else (n,k))::_)=_;cases a:x==n with
  |true=>
   have e:=gm a;subst e;split
   .rename_i b;simp only[fC,a,fX,b,if_true]
   .rename_i b;simp only[fC,a,fX];rw[ao b]
  |false=>
   rw[<-c];split
   .simp only[fC,a]
   .simp only[fC,a]
def Oe{scope:cK}(hcell:∀y∈scope.names,y.2≠.cell)(h:(relabel scope b1).names.lookup x=Z .cell\/(relabel scope b1).names.lookup x=Z .free):(x,NameKind.free)∈scope.names:=by
 have e:=BW (b1:=b1) x scope.names;have a:(scope.names.lookup x).map (λk=>if (k==NameKind.free&&b1.scope.kind==.function&&b1.kindOf x==Z .cell)=γ then NameKind.cell else k)=Z .cell\/
   (scope.names.lookup x).map (λk=>if (k==NameKind.free&&b1.scope.kind==.function&&b1.kindOf x==Z .cell)=γ then NameKind.cell else k)=Z .free:=by
  rw[<-e];exact h
 cases q:scope.names.lookup x with
 |none=>rw[q]at a;rcases a with z|z<;>cases z
 |some k=>
  rw[q]at a;have b:=mem_of_lookup q;have c:=hcell _ b;cases k with
  |free=>exact b
  |cell=>exact aq O c
  |_=>rcases a with z|z<;>cases z
def J3{scope:cK}(h:scope.names.lookup x=Z .free):(relabel scope b1).names.lookup x=Z .cell\/(relabel scope b1).names.lookup x=Z .free:=by
 have e:=BW (b1:=b1) x scope.names;have a:(relabel scope b1).names.lookup x=(scope.names.lookup x).map λk=>if (k==NameKind.free&&b1.scope.kind==.function&&b1.kindOf x==Z .cell)=γ then NameKind.cell else k:=e
 rw[a,h,fX];split
 .exact .inl O
 .exact .inr O
def w9(X:Cx)(a:aF)(scope:cK)(cl:List (Str×Addr))(C:Addr)(fp:List Addr)(s:ae)(H:Hp):Cx:=
 { X with N:=a,s₀:=s,H₀:=H,b1:=compEnvC scope cl C X.b1,da:=X.kb,ex:=fp,fn:=λ_=>δ,pn:=[],xe:=λ_ _=>False }
def PIf(X:Cx)(ifs:List Expr)(t:TT):Prop:=
 ∀(a:cD) (s:ae) (b:St) (H:Hp) (Q:Bool->Hp->Prop),c3 X a b H s->t b H Q->
  ai (model X.prog X.w) X.A (forIn ifs γ λc r=>if r=γ then do let ok<-isTrue c X.b1 (eval c X.b1);pure (ForInStep.yield ok)else pure (ForInStep.yield r)) (TP X a b Q) X.xe s
def tIf0:TT:=λ_ H Q=>Q γ H
def V0:PIf X [] tIf0:=λ_ _ _ H _ I h=>wpAny_tests_nil ⟨H,I,h⟩
def V1(h:PT X c t):PIf X [c] t:=λa s d H Q I b=>wpAny_tests_one (h a s d H Q I b)
section
variable{prog:aH}{w:az}{A:aI}{R:gp->ae->Prop}{s:ae}
def LJ(t:Nat->ae->Prop)
  (turn:∀n s,t n s->ai (model prog w) A (pyNext B) (λr b=>match r with
   |none=>R (.ok .next) b
   |some v=>ai (model prog w) A (gQ target B v) (λ_ d=>ai (model prog w) A (assign target b1 v) (λ_ l=>
     ai (model prog w) A (forIn ifs γ λc r=>if r=γ then do let ok<-isTrue c b1 (eval c b1);pure (ForInStep.yield ok)else pure (ForInStep.yield r)) (λok f=>
      if ok=γ then ai (model prog w) A (eval elt b1) (λx o=>
       ai (model prog w) A (call (.builtin "list.append") [acc,x]) (λ_ p=>∃m,m<n/\t m p) (notedBy (model prog w) A b1 λe s'=>R (.error e) s') o) (notedBy (model prog w) A b1 λe s'=>R (.error e) s') f
      else ∃m,m<n/\t m f) (notedBy (model prog w) A b1 λe s'=>R (.error e) s') l) (notedBy (model prog w) A b1 λe s'=>R (.error e) s') d)
      (notedBy (model prog w) A b1 λe s'=>R (.error e) s') b) (notedBy (model prog w) A b1 λe s'=>R (.error e) s') s)
  (n:Nat) (h:t n s):
  cw (model prog w) A (.compLoop (.ListComp elt [⟨target,iter,ifs,0⟩] scope pos) 0 B acc b1) R s:=by
 refine codeAny_loop O t (λn s hI=>?_) n h;show ai _ A ((compTurn (.ListComp elt [⟨target,iter,ifs,0⟩] scope pos) 0 B acc b1).onRaise (λx=>do noteFrame x b1;theTreesLotGoes x)) _ _ s;refine wpAny_noted ?_;rw[compTurn_list];refine af (jN (af (b9 (turn n s hI) (λr b i=>?_) λ_ _ a=>a)));cases r with
 |none=>exact ar i
 |some v=>
  refine af (b9 i (λ_ d q=>?_) λ_ _ a=>a);refine af (b9 q (λ_ l u=>af (b9 u (λok f j=>?_) λ_ _ a=>a)) λ_ _ a=>a);cases ok with
  |false=>exact ar ⟨O,j⟩
  |true=>exact af (af (b9 j (λx o y=>af (b9 y (λ_ p z=>ar (ar ⟨O,z⟩)) λ_ _ a=>a)) λ_ _ a=>a))
end
def y6(k:Nat)(ey:List Nat)(a:St):St:=bU k J++ey.map λj=>(a[j]?).join
def Ku(h:(y6 k ey b)[i]?=Z (Z v)):k<=i:=by
 by_cases a:k<=i
 .exact a
 .unfold y6 at h;rw[fR (by rw[cY];omega),jr]at h;split at h<;>cases h
def QT{k:Nat}{ey:List Nat}{b:St}{N a:aF}{i:Nat}{v:V}{x:Str}(hcap:(a.drop k).map Z=ey.map λj=>N[j]?)(f:a[i]?=Z x)(h:(y6 k ey b)[i]?=Z (Z v)):
  ∃j:Nat,N[j]?=Z x/\b[j]?=Z (Z v)/\x∈a.drop k:=by
 have d:=Ku h;unfold y6 at h;rw[fQ (by rw[cY];exact d),cY,bA]at h;have hd:(a.drop k)[i - k]?=Z x:=by rw[fj,show k+(i - k)=i by omega];exact f
 have e:=bG (λl=>l[i - k]?) hcap;simp only[bA,hd,fX]at e;cases q:ey[i - k]? with
 |none=>rw[q]at h;cases h
 |some j=>
  rw[q]at h e;simp only[fX,uA]at h e;refine⟨j,e.symm,?_,cn hd⟩;cases z:b[j]? with
  |none=>rw[z]at h;cases h
  |some o=>rw[z]at h;have c:o=Z v:=h;rw[c]
def GQ(u:TI)(g:TG)(t:TT)(r:TE)(k:Nat)(ey:List Nat):TE:=λf H Q=>u f H λe h=>∀p,h p=J->
 ∃W:Nat->Nat->bN->Hp->Prop,(∃m,W 0 m [] (ff h p (.bt [])))/\∀i m acc c,W i m acc c->
  (e.N? i c/\Q (.ref p) c)\/
   (e.go i c/\∀x j,e.yld i c x j->g x (y6 k ey f) j λa q=>a.drop k=(y6 k ey f).drop k/\t a q λb l=>
    if b=γ then r a l λy o=>∃acc',o p=Z (.bt acc')/\acc'.length<aG/\∃d,d<m/\W (i+1) d (acc'++[y]) (ff o p (.bt (acc'++[y])))
    else ∃d,d<m/\W (i+1) d acc l)
def Kv{X:Cx}{ey:List Nat}
  (hc:X.nq=γ) (hi:PI X tg iter wi)
  (body:∀(cl:List (Str×Addr)) (C:Addr) (fp:List Addr) (s:ae) (H:Hp),PG (w9 X E scope cl C fp s H) tg g/\PIf (w9 X E scope cl C fp s H) ifs tt/\PE (w9 X E scope cl C fp s H) elt te)
  (hkind:scope.kind=.function) (hcell:(scope.names.all λy=>y.2 != .cell)=γ)
  (hloc:(scope.names.all λy=>y.2 != .local||scope.names.lookup y.1==Z .local)=γ)
  (hfree:(scope.names.all λy=>y.2 != .free||(X.b1.kindOf y.1==Z .cell||X.b1.kindOf y.1==Z .free))=γ)
  (hlen:E.length=k+ey.length) (hcap:(E.drop k).map Z=ey.map λj=>X.N[j]?)
  (hcf:((E.drop k).all λx=>scope.names.lookup x==Z .free)=γ)
  (hs:∀x,iF iter X.b1 x=pure x)
  (I:c3 X pins σ H s) (h:GQ wi g tt te k ey σ H Q)
  (fin:∀a C m u s4 H3,s4.heap.Ns C m->c3 X pins σ H3 s4->Ls X pins H3 C->Q (.ref a) H3->compPost (model X.prog X.w) X.A X.xe use P (.ref a) C (.ok u) s4):
  ai (model X.prog X.w) X.A (comprehension (.ListComp elt [⟨tg,iter,ifs,0⟩] scope pos) scope X.b1 (firstIterPos [⟨tg,iter,ifs,0⟩] pos) (newList []) δ (eval iter X.b1) use) P X.xe s:=by
 have hcell':∀y∈scope.names,y.2≠.cell:=λy M e=>by have z:=aS.1 hcell y M;rw[e]at z;exact aq z (by decide)
 have hloc':∀y∈scope.names,y.2=.local->scope.names.lookup y.1=Z .local:=λy M e=>by have z:=aS.1 hloc y M;rw[e]at z;simpa using z
 have hfree':∀y∈scope.names,y.2=.free->X.b1.kindOf y.1=Z .cell\/X.b1.kindOf y.1=Z .free:=λy M e=>by have z:=aS.1 hfree y M;rw[e]at z;simpa using z
 have hcl:∀y∈scope.names,y.2=.free->∃c,X.b1.cells.lookup y.1=Z c:=λy M e=>I.ok.has y.1 (hfree' y M e);refine wpAny_comprehension_free O hs (J2 hcl) hkind hloc' (fy (hi pins s σ H _ I h) λxv s₁ B=>fy B λit l h₂=>?_);obtain⟨ita,fp,tn,At,H2,e,I2,T,st2,G,R2⟩:=h₂;subst e;obtain⟨W,⟨m0,w0⟩,turn⟩:=R2 l.heap.objs.size (I2.fx.fresh (aO _));refine dQ (wpAny_newFunctionEnv hcell' (by intro y M;simp at M) (λB hns₁ hsb₁=>?_) hkind);dsimp only at hns₁ hsb₁ ⊢;generalize hp:l.heap.push { cls:=.type "list", dict:=J,data:=.seq ([]:List ab).toArray }=hpL at hns₁ hsb₁ ⊢;have hsz:hpL.objs.size=l.heap.objs.size+1:=by rw[<-hp,cZ]
 have t:c3 X pins σ (ff H2 l.heap.objs.size (.bt [])) { l with heap:=hpL }:=by rw[<-hp];exact I2.laid (t':=l.toks) (λb u e=>aK _ e) (aO _) ⟨cq _,[],0,.nil,br _ O⟩
 have old:∀b o,hpL.get? b=Z o->B.get? b=Z o:=λb o e=>hsb₁.extBut b o (bc (aR e)) (aK _ e);have older:∀b o,l.heap.get? b=Z o->hpL.get? b=Z o:=λb o e=>by rw[<-hp];exact aK _ e
 have hfpS:∀b∈fp,b<l.heap.objs.size:=λb hb=>let ⟨o,e,_⟩:=T.obj _ _ st2 b hb;aR e;have sub:∀x c,(zQ X.b1.cells scope.names).lookup x=Z c->X.b1.cells.lookup x=Z c:=MN scope.names [] hcl (λx c e=>by cases e);have R:(w9 X E scope (zQ X.b1.cells scope.names) hpL.objs.size fp { l with heap:=hpL } (ff H2 l.heap.objs.size (.bt []))).Ok:={
  Hj:=t.ok.Hj
  kind:=hkind
  C?:=t.ok.C?
  blt:=t.ok.blt
  above:=aO _
  inj:=λx y c h1 h2=>t.ok.inj x y c (sub x c h1) (sub y c h2)
  has:=λx F=>IE scope.names [] x (Oe hcell' F)
  cab:=λx c hf _=>aq (show δ=γ from hf) bq
  hd:=t.ok.hd
  frames:=t.ok.frames
  stk:=.inl O
  exf:=λb hb=>⟨(by
   show b≠hpL.objs.size;rw[hsz];exact bc (eI (hfpS b hb))),λx c e=>(G b hb).2.2.2.2.1 x c (sub x c e)⟩
  bs:=t.bs
  bsz:=bD t.ok.bsz t.sz
  noex:=λb o e hb=>by
   rcases(G b hb).2.2.2.1 with z|z
   .exact t.ok.noex b o e z
   .exact aq (cv (aR e) (bD t.ok.bsz z)) (eO _)
  exfs:=λb hb z=>(aL.1 (t.U' b z)).elim (G b hb).2.1 (G b hb).2.2.1
  tz:=t.kb
  frf:=t.X? }
 have IX:c3 (w9 X E scope (zQ X.b1.cells scope.names) hpL.objs.size fp { l with heap:=hpL } (ff H2 l.heap.objs.size (.bt []))) [] (y6 k ey σ) (ff H2 l.heap.objs.size (.bt []))
   { l with heap:=B,toks:=l.toks+([]:List (Str×ab)).length }:={
  ok:=R
  os:=rfl
  l':=t.l'
  b?:=Un.g? old
  L':=⟨_,hns₁,λi x v e1 e2 _=>by
   obtain⟨j,hj,hσ,hm⟩:=QT hcap e1 e2;have F:scope.names.lookup x=Z .free:=by simpa using aS.1 hcf x hm
   have hk:=hfree' (x,.free) (mem_of_lookup F) O;obtain⟨m,hn,hl⟩:=t.L';obtain⟨u,r,lk⟩:=hl j x v hj hσ (hk.elim (λz=>.inr (.inl z)) λz=>.inr (.inr z));refine⟨u,r,.inr ⟨J3 F,?_⟩⟩;rcases lk with ⟨z,_⟩|⟨_,c,e,o,ho,hd⟩
   .rcases hk with y|y
    .rw[y]at z;cases z
    .rw[y]at z;cases z
   .obtain⟨c',e'⟩:=IE (cells:=X.b1.cells) scope.names [] x (mem_of_lookup F);have ec:=sub x c' e';rw[e]at ec;have ec':c=c':=cI ec;subst ec';exact⟨c,e',o,old _ _ ho,hd⟩⟩
  cell:=λx c e=>by obtain⟨v,o,ho,hd⟩:=t.cell x c (sub x c e);exact⟨v,o,old _ _ ho,hd⟩
  free:=t.fx.fresh (aO _)
  m2:=λx c e=>t.m2 x c (sub x c e)
  O?:=λp hp=>aq (show p∈([]:cD) from hp) (by simp)
  fx:=t.fx.g? old
  len:=by
   show (y6 k ey σ).length=E.length;rw[hlen];unfold y6;rw[aE,cY,ah] }
 have stat:∀{H':Hp},(∀b∈fp,H' b=J)->∀b∈fp,Ls (w9 X E scope (zQ X.b1.cells scope.names) hpL.objs.size fp { l with heap:=hpL } (ff H2 l.heap.objs.size (.bt []))) [] H' b:=λhn b hb=>⟨hn b hb,(R.exf b hb).1,R.exfs b hb,.inl hb,(R.exf b hb).2,λp hp=>aq (show p∈([]:cD) from hp) (by simp)⟩
 have st4:tn 0 B:=T.keep _ _ _ st2 λb _ o e=>old b o (older b o e);have loop:cw (model X.prog X.w) X.A (.compLoop (.ListComp elt [⟨tg,iter,ifs,0⟩] scope pos) 0 (.ref ita) (.ref l.heap.objs.size) (compEnvC scope (zQ X.b1.cells scope.names) hpL.objs.size X.b1))
   (compPost (model X.prog X.w) X.A X.xe use P (.ref l.heap.objs.size) hpL.objs.size) { l with heap:=B,toks:=l.toks+([]:List (Str×ab)).length }:=by
  refine LJ (λn s'=>∃i acc H',c3 (w9 X E scope (zQ X.b1.cells scope.names) hpL.objs.size fp { l with heap:=hpL } (ff H2 l.heap.objs.size (.bt []))) [] (y6 k ey σ) H' s'/\tn i s'.heap/\(∀b∈fp,H' b=J)/\W i n acc H')
   ?_ m0 ⟨0,[],_,IX,st4,λb hb=>?_,w0⟩
  .rintro n s3 ⟨i,acc,H3,I4,st3,fr3,w3⟩;rcases turn i n acc H3 w3 with ⟨N?,qn⟩|⟨go,step⟩
   .refine fy (T.done (w9 X E scope (zQ X.b1.cells scope.names) hpL.objs.size fp { l with heap:=hpL } (ff H2 l.heap.objs.size (.bt []))) O O O hc i [] s3 _ H3 _ I4 (stat fr3) st3 N?) λr s4 zz=>?_;obtain⟨hr,Y⟩:=zz;subst hr;obtain⟨m,hn,_⟩:=id Y.L';have U:=Y.b?;refine fin _ _ m _ _ _ hn (t.call' (s':=s4) (ch:=fp) Y.os ⟨λb o e n hb F=>U.keep b o e n hb F,λb o e n hb F=>U.slot b o e n hb F,U.free,λb o e F=>U.there b o e F,U.y',U.B?,U.I?⟩ Y.fx Y.l'
     λb hb=>⟨(G b hb).2.2.2.1,(G b hb).2.1,(G b hb).2.2.2.2.1,(G b hb).2.2.2.2.2⟩) (t.υ (aO _) Y.free) qn
   .refine fy (T.item (w9 X E scope (zQ X.b1.cells scope.names) hpL.objs.size fp { l with heap:=hpL } (ff H2 l.heap.objs.size (.bt []))) O O O hc i [] s3 _ H3 _ I4 (stat fr3) st3 go) λr s4 zz=>?_;obtain⟨u,hr,h4⟩:=zz;subst hr;refine fy h4 λ_ s5 zz=>?_;obtain⟨x,H5,Y,r5,y5,st5,fr5⟩:=zz;have I5':=Y.X' (stat fr5) (T.obj _ _ st5);have again:∀{H8:Hp} {s8:ae} {S:St} {acc8:bN} {m':Nat},c3 (w9 X E scope (zQ X.b1.cells scope.names) hpL.objs.size fp { l with heap:=hpL } (ff H2 l.heap.objs.size (.bt []))) ([]++Ir fp s5.heap) S H8 s8->S.drop k=(y6 k ey σ).drop k->m'<n->W (i+1) m' acc8 H8->
      ∃m,m<n/\∃i acc H',c3 (w9 X E scope (zQ X.b1.cells scope.names) hpL.objs.size fp { l with heap:=hpL } (ff H2 l.heap.objs.size (.bt []))) [] (y6 k ey σ) H' s8/\tn i s8.heap/\(∀b∈fp,H' b=J)/\W i m acc H':=λ{H8 s8 S acc8 m'} I8 hd8 hm8 w8=>by
     refine⟨m',hm8,i+1,acc8,H8,I8.pa.d? (IX.len.t I8.len.symm) (λj v e=>?_),T.keep _ _ _ st5 λb hb o e=>(I8.O? (b,o) (bx _ (bx _ (Am hb e)))).1,λb hb=>?_,w8⟩
     .have hj:=Ku e;have q:(S.drop k)[j - k]?=((y6 k ey σ).drop k)[j - k]?:=by rw[hd8]
      rw[fj,fj,show k+(j - k)=j by omega]at q;rw[q];exact e
     .obtain⟨o,e,d⟩:=T.obj _ _ st5 b hb;exact(I8.O? (b,o) (bx _ (bx _ (Am hb e)))).2.1
    refine b9 ((body _ _ _ _ _).1 _ s5 _ H5 x u _ I5' r5 (step x H5 y5)) (λ_ s6 h6=>?_) λ_ _ f=>f.elim;obtain⟨σ6,H6,I6,hd6,q6⟩:=h6;refine b9 ((body _ _ _ _ _).2.1 _ s6 σ6 H6 _ I6 q6) (λb s7 h7=>?_) λ_ _ f=>f.elim;obtain⟨H7,I7,q7⟩:=h7;cases b with
    |false=>rw[ao bq]at q7;rw[ao bq];obtain⟨m',hm',w7⟩:=q7;exact again I7 hd6 hm' w7
    |true=>rw[ak O]at q7;rw[ak O];refine b9 ((body _ _ _ _ _).2.2 _ s7 σ6 H7 _ I7 q7) (λyv s8 h8=>?_) λ_ _ f=>f.elim;obtain⟨y,H8,I8,r8,acc',hp8,hl8,m',hm',w8⟩:=h8;refine b9 (F6 (X:=w9 X E scope (zQ X.b1.cells scope.names) hpL.objs.size fp { l with heap:=hpL } (ff H2 l.heap.objs.size (.bt []))) _ s8 σ6 H8 (.ref l.heap.objs.size) [y] (.ref l.heap.objs.size) [yv] (λ_ Hx=>Hx=ff H8 l.heap.objs.size (.bt (acc'++[y]))) I8 O (.cons r8 .nil) ⟨_,acc',y,O,O,hp8,hl8,O⟩) (λ_ s9 h9=>?_) λ_ _ f=>f.elim;obtain⟨_,H9,I9,_,e9⟩:=h9;subst e9;exact again I9 hd6 hm' w8
  .have z:b≠l.heap.objs.size:=bc (hfpS b hb);rw[vn z];exact(G b hb).1
 exact codeAny_compStart_list loop (T.self _ 0 _ _ _ st4 loop)
def V2{X:Cx}{ey:List Nat}
  (t:X.nq=γ) (w:PI X p iter M)
  (body:∀(d:List (Str×Addr)) (C:Addr) (f:List Addr) (s:ae) (H:Hp),PG (w9 X N' scope d C f s H) p g/\PIf (w9 X N' scope d C f s H) ifs G/\PE (w9 X N' scope d C f s H) elt F)
  (hkind:scope.kind=.function:=by rfl) (hcell:(scope.names.all λy=>y.2 != .cell)=γ:=by rfl)
  (hloc:(scope.names.all λy=>y.2 != .local||scope.names.lookup y.1==Z .local)=γ:=by rfl)
  (hfree:(scope.names.all λy=>y.2 != .free||(X.b1.kindOf y.1==Z .cell||X.b1.kindOf y.1==Z .free))=γ:=by rfl)
  (c:N'.length=k+ey.length:=by rfl) (hcap:(N'.drop k).map Z=ey.map λj=>X.N[j]?:=by rfl)
  (hcf:((N'.drop k).all λx=>scope.names.lookup x==Z .free)=γ:=by rfl)
  (A:∀x,iF iter X.b1 x=pure x:=by intro _;rfl):
  PE X (.ListComp elt [⟨p,iter,ifs,0⟩] scope pos) (GQ M g G F k ey):=by
 intro l s S H Q I h;exact Kv t w body hkind hcell hloc hfree c hcap hcf A I h λa C m u E q z J? fpC B=>⟨m,z,λP i=>⟨.ref a,q,J?.k? (t':=E.toks) (λb o r e=>(i.2 b r).t e) fpC.1 fpC.2.1 fpC.2.2.2.1 fpC.2.2.2.2.1 fpC.2.2.2.2.2,O,B⟩⟩
def Its(x:Str):It:=⟨λi _=>i<x.cps.size,λi H v a=>a=H/\∃c,x.cps[i]?=Z c/\v=.str ⟨#[c]⟩,λi _=>i=x.cps.size⟩
def Za(hQ:Q () s):ai M A (gQ a (.ref b) (.str c t)) Q E s:=by unfold gQ;cases a<;>exact ar hQ
def MO{K:av}(it:Addr)(ty:String)(x:Str)(t:Tok)
  (hW:∀A:aI,A.handled=J->Walks P w A it [it] [it] x.cps.size (SignAt x) (λi h=>h.IsStrIter it ty x t i))
  (hS:∀(A:aI) (i:Nat) (s:ae) (Q:ab->ae->Prop) (E:ab->ae->Prop),s.heap.IsStrIter it ty x t i->Q (.ref it) s->ai (model P w) A (pyIter (.ref it)) Q E s):
  Turn P w K tg (Its x) [it] it (λi h=>h.IsStrIter it ty x t i) where
 mem:=by simp
 obj:=λi h st b hb=>by
  have e:b=it:=by simpa using hb
  subst e;obtain⟨o,e,c,d⟩:=st;exact⟨o,e,λv z=>by rw[d]at z;cases z⟩
 keep:=λi h h' st k=>by obtain⟨o,e,r⟩:=st;exact⟨o,k it (by simp) o e,r⟩
 item:=by intro X hP hw hK p i pins s σ H E I hf st hg;subst hP hw hK;obtain⟨a,f,F,j,l,m⟩:=hf it (by simp);refine(hW _ (I.ok.hd p)).item i s _ _ hg st λv h' tk G B y=>?_;obtain⟨c,M,q,rfl⟩:=G;have C:c3 X pins σ H { s with heap:=h',toks:=tk }:=I.k? (λb o hb e=>y b o (by simpa using hb) e) a f j l m;exact⟨_,O,Za ⟨.str ⟨#[c]⟩,H,C,⟨M,O⟩,⟨O,c,q,O⟩,B,λb hb=>(hf b hb).1⟩⟩
 done:=by intro X hP hw hK p i pins s σ H E I hf st hg;subst hP hw hK;obtain⟨a,f,F,j,l,m⟩:=hf it (by simp);have u:i=x.cps.size:=hg;subst u;exact(hW _ (I.ok.hd p)).done s _ _ st λh' tk y=>⟨O,I.k? (λb o hb e=>y b o (by simpa using hb) e) a f j l m⟩
 self:=hS
section
variable{X:Cx}{tg:Expr}
def iStr(b:TE):TI:=λc H R=>b c H λv a=>∃x,v=.str x/\R (Its x) a
def Zb(r:PE X l B):PI X tg l (iStr B):=by
 intro a s C H R I h;refine fy (r a s C H _ I h) λv c zz=>?_;obtain⟨x,f,d,w,u⟩:=zz;obtain⟨z,e,q⟩:=u;subst e;obtain⟨t,rfl⟩:=w;have j:∀b∈[c.heap.objs.size],Ls X a f b:=λb p=>by
  have e:b=c.heap.objs.size:=by simpa using p
  subst e;exact d.υ (aO _) (d.fx.fresh (aO _))
 cases m:z.cps.all (· < 128)
 .refine wpAny_pyIter_wide m ⟨c.heap.objs.size,[c.heap.objs.size],_,_,f,O,d.g? (t':=c.toks) λb o e=>aK _ e,MO _ "str_iterator" z t (λA hA=>Walks.strWide hA _ z t) (λA i s Q E st hQ=>wpAny_pyIter_striter_wide st hQ),⟨_,br _ O,O,O⟩,j,q⟩
 .refine wpAny_pyIter_ascii m ⟨c.heap.objs.size,[c.heap.objs.size],_,_,f,O,d.g? (t':=c.toks) λb o e=>aK _ e,MO _ "str_ascii_iterator" z t (λA hA=>Walks.strAscii hA _ z t) (λA i s Q E st hQ=>wpAny_pyIter_striter_ascii st hQ),⟨_,br _ O,O,O⟩,j,q⟩
end
section
variable{X:Cx}
def QU:ki X (bz .LtE) (λx y H Q=>∃i j,x=.str i/\y=.str j/\Q (.I (!decide (j.cps.toList<i.cps.toList))) H):=by intro a s e H x y v u Q I b c h;obtain⟨i,j,rfl,rfl,q⟩:=h;obtain⟨t,rfl⟩:=b;obtain⟨d,rfl⟩:=c;exact PySem.P.le_str (vS I q O)
def SA(y:X.nq=γ):wY X (.builtin "all") (λx H Q=>∃(p:Addr) (bs:List Bool),x=[.ref p]/\gd X.K H p (bs.map V.I)/\Q (.I (bs.all id)) H):=by
 intro t s W H x U Q I r h;obtain⟨p,bs,rfl,E,q⟩:=h;obtain⟨u,rfl,l⟩:=m1 r;cases l;obtain⟨a,w,pl,R⟩:=I.list E;have hlt:p<s.heap.objs.size:=by obtain⟨o,C,_⟩:=pl.isList;exact aR C
 have B:bs.length=a.length:=by have:=w.length;rw[ah]at this;exact this
 refine call_all_walk (fT pl.isList ⟨s.heap.objs.size,_,_,_,_,_,λi=>(bs[i]?).getD γ,O,iZ (show X.A.in1.handled=J from I.ok.hd y) _ p (bc hlt) a.toArray,⟨⟨_,br _ O,O,O⟩,?_⟩,?_,λP G z=>?_⟩)
 .exact pl.isList.at λo e=>aK _ e
 .intro i v S N M F hQ';have d:a[i]?=Z v:=by simpa using F
  have c:i<a.length:=(cj.1 d).1;have f:(bs.map V.I)[i]?=Z (.I (bs[i]'(by omega))):=by simp[show i<bs.length by omega]
  obtain⟨u,m,l⟩:=w.get f;rw[d]at m;cases m;cases l;refine dy ?_;have e:(bs[i]?).getD γ=bs[i]'(by omega):=by simp[show i<bs.length by omega]
  rw[<-e];exact hQ'
 .refine⟨.I (bs.all id),H,?_,?_,q⟩
  .exact I.g? (t':=G) λb o e=>z b o (by simp;exact bc (aR e)) (aK _ e)
  .show Value.bool _=Value.bool _;congr 1;rw[bg,<- B];rw[dg];simp only[aS,bL,id];constructor
   .intro j b f;obtain⟨i,c,rfl⟩:=kQ.1 f;have:=j i c;simpa [c]using this
   .intro j i c;simp only[bh c,pY];exact j _ (fz c)
end
inductive Dq where
 |E|I (b:Bool)|int (i:Int)|str (x:Str)|du (ds:List Dq)|bt (ds:List Dq)
mutual
def cb(K:av)(H:Hp):Dq->V->Prop
 |.E,v=>v=.E
 |.I b,v=>v=.I b
 |.int i,v=>v=.int i
 |.str x,v=>v=.str x
 |.du d,v=>∃a c,v=.ref a/\ij K H a c/\uQ K H d c
 |.bt d,v=>∃a c,v=.ref a/\gd K H a c/\uQ K H d c
def uQ(K:av)(H:Hp):List Dq->bN->Prop
 |[],a=>a=[]
 |d::b,a=>∃v r,a=v::r/\cb K H d v/\uQ K H b r
end
mutual
def nr:Dq->Dq->Bool
 |.E,.E=>γ
 |.I a,.I b=>a==b
 |.I a,.int b=>(if a then 1 else 0)==b
 |.int a,.I b=>a==(if b then 1 else 0)
 |.int a,.int b=>a==b
 |.str a,.str b=>a==b
 |.du a,.du b=>BB a b
 |.bt a,.bt b=>BB a b
 |_,_=>δ
def BB:List Dq->List Dq->Bool
 |[],[]=>γ
 |a::r,b::q=>nr a b&&BB r q
 |_,_=>δ
end
mutual
def lb:Dq->Nat
 |.du a=>wK a+1
 |.bt a=>wK a+1
 |_=>0
def wK:List Dq->Nat
 |[]=>0
 |d::r=>max (lb d) (wK r)
end
mutual
theorem MP:∀d:Dq,nr d d=γ
 |.E=>by unfold nr;rfl
 |.I b=>by unfold nr;simp
 |.int i=>by unfold nr;simp
 |.str x=>by unfold nr;simp
 |.du a=>by unfold nr;exact F7 a
 |.bt a=>by unfold nr;exact F7 a
theorem F7:∀a:List Dq,BB a a=γ
 |[]=>by unfold BB;rfl
 |d::r=>by unfold BB;rw[MP d,F7 r];rfl
end
theorem uV{K:av}:∀{b:List Dq} {a:bN},uQ K H b a->b.length=a.length
 |[],a,h=>by unfold uQ at h;subst h;rfl
 |d::b,a,h=>by unfold uQ at h;obtain⟨v,r,rfl,_,c⟩:=h;rw[aN,aN,uV c]
def eAt(d c:List Dq)(j:Nat):Bool:=match d[j]?,c[j]? with
 |some a,Z b=>nr a b
 |_,_=>γ
theorem IF:∀(d c:List Dq),BB d c=γ ↔ d.length=c.length/\∀j,j<d.length->eAt d c j=γ
 |[],[]=>by simp[BB]
 |[],b::q=>by simp[BB]
 |a::r,[]=>by simp[BB]
 |a::r,b::q=>by
  have l:=IF r q;unfold BB;rw[aW,l,aN,aN];constructor
  .rintro⟨f,e,h⟩;refine⟨by omega,λj i=>?_⟩;cases j with
   |zero=>exact f
   |succ j=>exact h j (by omega)
  .rintro⟨f,e⟩;exact⟨e 0 (by omega),by omega,λj i=>e (j+1) (by omega)⟩
def BX{b a:List Dq}(l:b.length=n)(i:a.length=m):((aU (min n m)).all (eAt b a)&&n==m)=BB b a:=by
 rw[dg,IF,aW,aS];subst l i;constructor
 .rintro⟨d,f⟩;have e:b.length=a.length:=by simpa using f
  exact⟨e,λj c=>d j (bL.2 (by omega))⟩
 .rintro⟨e,h⟩;exact⟨λj c=>h j (by have:=bL.1 c;omega),by simpa using e⟩
def CY{b a:List Dq}(d:b.length=n)(c:a.length=n):(aU n).all (eAt b a)=BB b a:=by rw[<-BX d c];simp
def IG{b a:List Dq}(h:b.length≠a.length):BB b a=δ:=by
 cases e:BB b a with
 |false=>rfl
 |true=>exact aq ((IF b a).1 e).1 h
section
variable{X:Cx}{pins:cD}{σ:St}{H:Hp}{s:ae}
def XU(I:c3 X pins σ H s)(h:gd X.K H a f)(c:ij X.K H a i):False:=by obtain⟨d,_,p,_⟩:=I.list h;obtain⟨b,_,e,_⟩:=I.tuple c;exact SeqAt.ne_of_list_tuple p.isList (show s.heap.IsTuple a b.toArray from e) O
mutual
theorem IH(I:c3 X pins σ H s):∀(d i:Dq) (v:V),cb X.K H d v->cb X.K H i v->nr d i=γ
 |.E,i,v,h,c=>by unfold cb at h;subst h;cases i<;>unfold cb at c<;>first|rfl|(exact nomatch c)|(obtain⟨_,_,e,_⟩:=c;exact nomatch e)
 |.I b,i,v,h,c=>by unfold cb at h;subst h;cases i<;>unfold cb at c<;>first|(obtain⟨_,_,e,_⟩:=c;cases e)|(cases c<;>simp[nr])
 |.int b,i,v,h,c=>by unfold cb at h;subst h;cases i<;>unfold cb at c<;>first|(obtain⟨_,_,e,_⟩:=c;cases e)|(cases c<;>simp[nr])
 |.str b,i,v,h,c=>by unfold cb at h;subst h;cases i<;>unfold cb at c<;>first|(obtain⟨_,_,e,_⟩:=c;cases e)|(cases c<;>simp[nr])
 |.du q,i,v,h,c=>by
  unfold cb at h;obtain⟨a,u,rfl,o,t⟩:=h;cases i with
  |du j=>unfold cb at c;obtain⟨p,m,e,f,l⟩:=c;cases e;have r:=I.G? o f;subst r;unfold nr;exact F8 I q j u t l
  |bt j=>unfold cb at c;obtain⟨p,m,e,f,l⟩:=c;cases e;exact(XU I f o).elim
  |_=>unfold cb at c;exact nomatch c
 |.bt q,i,v,h,c=>by
  unfold cb at h;obtain⟨a,u,rfl,o,t⟩:=h;cases i with
  |bt j=>unfold cb at c;obtain⟨p,m,e,f,l⟩:=c;cases e;have r:=I.Q? o f;subst r;unfold nr;exact F8 I q j u t l
  |du j=>unfold cb at c;obtain⟨p,m,e,f,l⟩:=c;cases e;exact(XU I o f).elim
  |_=>unfold cb at c;exact nomatch c
theorem F8(I:c3 X pins σ H s):∀(c a:List Dq) (f:bN),uQ X.K H c f->uQ X.K H a f->BB c a=γ
 |[],a,f,h,b=>by
  unfold uQ at h;subst h;cases a with
  |nil=>rfl
  |cons d r=>unfold uQ at b;obtain⟨_,_,e,_⟩:=b;exact nomatch e
 |d::c,a,f,h,b=>by
  unfold uQ at h;obtain⟨v,r,rfl,m,o⟩:=h;cases a with
  |nil=>unfold uQ at b;exact nomatch b
  |cons l p=>unfold uQ at b;obtain⟨t,q,e,i,j⟩:=b;cases e;unfold BB;rw[IH I d l v m i,F8 I c p r o j];rfl
end
mutual
theorem SC(I:c3 X pins σ H s):∀(d E:Dq) (x y:V) (u v:ab) (A:aI),cb X.K H d x->cb X.K H E y->et x u->et y v->A.units+lb d+lb E<cLine->iX A s u v (nr d E)
 |.du F,E,x,y,u,v,A,B,h,w,o,S=>by
  unfold cb at B;obtain⟨a,T,rfl,R,N⟩:=B;cases w;obtain⟨M,Q,p,_⟩:=I.tuple R;have p:s.heap.IsTuple a M.toArray:=p;cases E with
  |E=>unfold cb at h;subst h;cases o;exact tN p (by omega)
  |I b=>unfold cb at h;subst h;cases o;exact tP b p (by omega)
  |int b=>unfold cb at h;subst h;obtain⟨t,rfl⟩:=o;exact tX b t p (by omega)
  |str b=>unfold cb at h;subst h;obtain⟨t,rfl⟩:=o;exact tY b t p (by omega)
  |bt i=>unfold cb at h;obtain⟨b,G,rfl,l,m⟩:=h;cases o;obtain⟨f,C,r,_⟩:=I.list l;exact tQ p r.isList (by omega)
  |du i=>
   have P:=h;unfold cb at h;obtain⟨b,G,rfl,l,m⟩:=h;cases o;obtain⟨f,C,r,_⟩:=I.tuple l;have r:s.heap.IsTuple b f.toArray:=r;by_cases hab:a=b
   .subst hab;have e:nr (.du F) (.du i)=γ:=IH I _ _ (.ref a) (by unfold cb;exact⟨a,T,O,R,N⟩) P;rw[e];exact lX _
   .have hd:lb (.du F)=wK F+1:=by rw[lb]
    have hd':lb (.du i)=wK i+1:=by rw[lb]
    have q:=uC (A:=A) (e:=eAt F i) p r (by omega) λj W Y=>by have z:=BY I F i T G M f A.in1 N m Q C (by show A.units+1+wK F+wK i<cLine;omega) j (by simpa using W) (by simpa using Y);simpa using z
    rw[BX (by rw[uV N,Q.length];simp) (by rw[uV m,C.length];simp)]at q;exact lh hab (by unfold nr;exact q)
 |.bt F,E,x,y,u,v,A,B,h,w,o,S=>by
  unfold cb at B;obtain⟨a,T,rfl,R,N⟩:=B;cases w;obtain⟨M,Q,p,_⟩:=I.list R;have p:=p.isList;cases E with
  |E=>unfold cb at h;subst h;cases o;exact tZ p (by omega)
  |I b=>unfold cb at h;subst h;cases o;exact ua b p (by omega)
  |int b=>unfold cb at h;subst h;obtain⟨t,rfl⟩:=o;exact uk b t p (by omega)
  |str b=>unfold cb at h;subst h;obtain⟨t,rfl⟩:=o;exact um b t p (by omega)
  |du i=>unfold cb at h;obtain⟨b,G,rfl,l,m⟩:=h;cases o;obtain⟨f,C,r,_⟩:=I.tuple l;exact tR p (show s.heap.IsTuple b f.toArray from r) (by omega)
  |bt i=>
   have P:=h;unfold cb at h;obtain⟨b,G,rfl,l,m⟩:=h;cases o;obtain⟨f,C,r,_⟩:=I.list l;have r:=r.isList;by_cases hab:a=b
   .subst hab;have e:nr (.bt F) (.bt i)=γ:=IH I _ _ (.ref a) (by unfold cb;exact⟨a,T,O,R,N⟩) P;rw[e];exact lX _
   .have hd:lb (.bt F)=wK F+1:=by rw[lb]
    have hd':lb (.bt i)=wK i+1:=by rw[lb]
    by_cases U:M.length=f.length
    .have q:=uG (A:=A) (e:=eAt F i) p r (by simpa using U) (by omega) λj W Y=>by have z:=BY I F i T G M f A.in1 N m Q C (by show A.units+1+wK F+wK i<cLine;omega) j (by simpa using W) (by simpa using Y);simpa using z
     rw[CY (by rw[uV N,Q.length];simp) (by rw[uV m,C.length,<- U];simp)]at q;exact lh hab (by unfold nr;exact q)
    .have e:nr (.bt F) (.bt i)=δ:=by unfold nr;exact IG (by rw[uV N,uV m,Q.length,C.length];exact U)
     rw[e];exact lh hab (tI p r (by simpa using U) (by omega))
 |.E,E,x,y,u,v,A,B,h,w,o,S=>by
  unfold cb at B;subst B;cases E with
  |du i=>unfold cb at h;obtain⟨b,G,rfl,l,m⟩:=h;cases o;cases w;obtain⟨f,C,r,_⟩:=I.tuple l;exact tS (show s.heap.IsTuple b f.toArray from r) (by omega)
  |bt i=>unfold cb at h;obtain⟨b,G,rfl,l,m⟩:=h;cases o;cases w;obtain⟨f,C,r,_⟩:=I.list l;exact uc r.isList (by omega)
  |_=>unfold cb at h;subst h;exact Iw w o O O
 |.I c,E,x,y,u,v,A,B,h,w,o,S=>by
  unfold cb at B;subst B;cases E with
  |du i=>unfold cb at h;obtain⟨b,G,rfl,l,m⟩:=h;cases o;cases w;obtain⟨f,C,r,_⟩:=I.tuple l;exact tT c (show s.heap.IsTuple b f.toArray from r) (by omega)
  |bt i=>unfold cb at h;obtain⟨b,G,rfl,l,m⟩:=h;cases o;cases w;obtain⟨f,C,r,_⟩:=I.list l;exact ud c r.isList (by omega)
  |_=>unfold cb at h;subst h;exact Iw w o O O
 |.int c,E,x,y,u,v,A,B,h,w,o,S=>by
  unfold cb at B;subst B;cases E with
  |du i=>unfold cb at h;obtain⟨b,G,rfl,l,m⟩:=h;cases o;obtain⟨t,rfl⟩:=w;obtain⟨f,C,r,_⟩:=I.tuple l;exact ue c t (show s.heap.IsTuple b f.toArray from r) (by omega)
  |bt i=>unfold cb at h;obtain⟨b,G,rfl,l,m⟩:=h;cases o;obtain⟨t,rfl⟩:=w;obtain⟨f,C,r,_⟩:=I.list l;exact uo c t r.isList (by omega)
  |_=>unfold cb at h;subst h;exact Iw w o O O
 |.str c,E,x,y,u,v,A,B,h,w,o,S=>by
  unfold cb at B;subst B;cases E with
  |du i=>unfold cb at h;obtain⟨b,G,rfl,l,m⟩:=h;cases o;obtain⟨t,rfl⟩:=w;obtain⟨f,C,r,_⟩:=I.tuple l;exact uf c t (show s.heap.IsTuple b f.toArray from r) (by omega)
  |bt i=>unfold cb at h;obtain⟨b,G,rfl,l,m⟩:=h;cases o;obtain⟨t,rfl⟩:=w;obtain⟨f,C,r,_⟩:=I.list l;exact uq c t r.isList (by omega)
  |_=>unfold cb at h;subst h;exact Iw w o O O
theorem BY(I:c3 X pins σ H s):∀(b a:List Dq) (i l:bN) (c e:List ab) (A:aI),uQ X.K H b i->uQ X.K H a l->ef i c->ef l e->A.units+wK b+wK a<cLine->
  ∀(j:Nat) (m:j<c.length) (o:j<e.length),iX A s c[j] e[j] (eAt b a j)
 |[],a,i,l,c,e,A,f,h,p,q,B,j,m,o=>by
  have:=uV f;have:=p.length;simp only[fE]at *
  omega
 |d::b,[],i,l,c,e,A,f,h,p,q,B,j,m,o=>by
  have:=uV h;have:=q.length;simp only[fE]at *
  omega
 |d::b,r::a,i,l,c,e,A,f,h,p,q,B,j,m,o=>by
  unfold uQ at f h;obtain⟨x,M,rfl,t,u⟩:=f;obtain⟨y,N,rfl,w,z⟩:=h;have P:wK (d::b)=max (lb d) (wK b):=by rw[wK]
  have Q:wK (r::a)=max (lb r) (wK a):=by rw[wK]
  cases p with
  |cons F G=>
   cases q with
   |cons C E=>
    cases j with
    |zero=>exact SC I d r x y _ _ A t w F C (by omega)
    |succ j=>exact BY I b a M N _ _ A u z G E (by omega) j (by simpa using m) (by simpa using o)
end
def Ph:Dq->Dq->Bool
 |.du _,.du _=>γ
 |.bt _,.bt _=>γ
 |_,_=>δ
def Of(K:av)(neg:Bool):R2:=λx y H Q=>∃d a,cb K H d x/\cb K H a y/\Ph d a=γ/\lb d<=20/\lb a<=20/\Q (.I (if neg then !nr d a else nr d a)) H
def Zc(hu:X.A.units+64<cLine):ki X (bz .Eq) (Of X.K δ):=by
 intro pins s σ H x y u v Q I W Y h;obtain⟨d,U,F,G,hd,B,C,q⟩:=h;cases d with
 |du l=>
  cases U with
  |du c=>
   have N:lb (.du l)=wK l+1:=by rw[lb]
   have P:lb (.du c)=wK c+1:=by rw[lb]
   unfold cb at F G;obtain⟨a,S,rfl,R,r⟩:=F;obtain⟨b,T,rfl,o,i⟩:=G;cases W;cases Y;obtain⟨m,t,p,_⟩:=I.tuple R;obtain⟨f,w,M,_⟩:=I.tuple o;refine SeqAt.eq_tupleAt (e:=eAt l c) (show s.heap.IsTuple a m.toArray from p) (show s.heap.IsTuple b f.toArray from M) (by omega) (λj B C=>?_) ?_
   .have z:=BY I l c S T m f X.A.in1 r i t w (by show X.A.units+1+wK l+wK c<cLine;omega) j (by simpa using B) (by simpa using C);simpa using z
   .rw[BX (by rw[uV r,t.length];simp) (by rw[uV i,w.length];simp)];unfold nr at q;exact vS I q O
  |_=>exact nomatch hd
 |bt l=>
  cases U with
  |bt c=>
   have N:lb (.bt l)=wK l+1:=by rw[lb]
   have P:lb (.bt c)=wK c+1:=by rw[lb]
   unfold cb at F G;obtain⟨a,S,rfl,R,r⟩:=F;obtain⟨b,T,rfl,o,i⟩:=G;cases W;cases Y;obtain⟨m,t,p,_⟩:=I.list R;obtain⟨f,w,M,_⟩:=I.list o;by_cases E:m.length=f.length
   .refine SeqAt.eq_listAt (e:=eAt l c) p.isList M.isList (by simpa using E) (by omega) (λj B C=>?_) ?_
    .have z:=BY I l c S T m f X.A.in1 r i t w (by show X.A.units+1+wK l+wK c<cLine;omega) j (by simpa using B) (by simpa using C);simpa using z
    .rw[CY (by rw[uV r,t.length];simp) (by rw[uV i,w.length,<- E];simp)];unfold nr at q;exact vS I q O
   .refine SeqAt.eq_list_lengthsAt p.isList M.isList (by simpa using E) (by omega) ?_;have e:BB l c=δ:=IG (by rw[uV r,uV i,t.length,w.length];exact E);unfold nr at q;rw[e]at q;exact vS I q O
  |_=>exact nomatch hd
 |_=>exact nomatch hd
def Zd(hu:X.A.units+64<cLine):ki X (bz .NotEq) (Of X.K γ):=by
 intro pins s σ H x y u v Q I Y rv h;obtain⟨d,W,G,M,hd,C,E,q⟩:=h;cases d with
 |du l=>
  cases W with
  |du c=>
   have P:lb (.du l)=wK l+1:=by rw[lb]
   have R:lb (.du c)=wK c+1:=by rw[lb]
   unfold cb at G M;obtain⟨a,T,rfl,S,r⟩:=G;obtain⟨b,U,rfl,o,i⟩:=M;cases Y;cases rv;obtain⟨m,t,p,_⟩:=I.tuple S;obtain⟨f,B,N,_⟩:=I.tuple o;have w:=ur (A:=X.A) (e:=eAt l c) (show s.heap.IsTuple a m.toArray from p) (show s.heap.IsTuple b f.toArray from N) (by omega) (λj C E=>by
    have z:=BY I l c T U m f X.A.in1 r i t B (by show X.A.units+1+wK l+wK c<cLine;omega) j (by simpa using C) (by simpa using E);simpa using z)
   rw[BX (by rw[uV r,t.length];simp) (by rw[uV i,B.length];simp)]at w;unfold nr at q;exact w X.prog X.w X.xe _ (vS I q O)
  |_=>exact nomatch hd
 |bt l=>
  cases W with
  |bt c=>
   have P:lb (.bt l)=wK l+1:=by rw[lb]
   have R:lb (.bt c)=wK c+1:=by rw[lb]
   unfold cb at G M;obtain⟨a,T,rfl,S,r⟩:=G;obtain⟨b,U,rfl,o,i⟩:=M;cases Y;cases rv;obtain⟨m,t,p,_⟩:=I.list S;obtain⟨f,B,N,_⟩:=I.list o;by_cases F:m.length=f.length
   .have w:=ux (A:=X.A) (e:=eAt l c) p.isList N.isList (by simpa using F) (by omega) (λj C E=>by
     have z:=BY I l c T U m f X.A.in1 r i t B (by show X.A.units+1+wK l+wK c<cLine;omega) j (by simpa using C) (by simpa using E);simpa using z)
    rw[CY (by rw[uV r,t.length];simp) (by rw[uV i,B.length,<- F];simp)]at w;unfold nr at q;exact w X.prog X.w X.xe _ (vS I q O)
   .have e:BB l c=δ:=IG (by rw[uV r,uV i,t.length,B.length];exact F);unfold nr at q;rw[e]at q;exact sG p.isList N.isList (by simpa using F) (by omega) X.prog X.w X.xe _ (vS I q O)
  |_=>exact nomatch hd
 |_=>exact nomatch hd
end
inductive AV:List Expr->bN->Prop
 |nil:AV [] []
 |cons {x:Str} {j:Nat} {pos:Pos} {es:List Expr} {vs:bN} (h:AV es vs):AV (.Constant (.str x) j pos::es) (.str x::vs)
def x8(h:n<=1000):n<=aG:=iQ (DO h)
def ve.new(x:ve H a)(c:a p=J)(o:HO):ve H (ff a p o):=λb u e=>by have z:=x b u e;rw[vn (xZ z c)];exact z
structure QV(K:av)(x qual:Str)(st:Stmt)(f:Addr)(fd:bV)(T:Addr):Prop where
 ex:∃(oc:ab) (od:Option Addr) (kV doc pm:ab) (an:Option Addr) (cdv ct:ab) (osl:Array (Option ab)),
  fd=eV x qual (y4 st) (vV st) (vt st) (.ref T) kV doc pm an cdv ct/\K.lookup f=Z ⟨oc,od,.func fd,osl⟩/\hU K cdv qual=γ
 kp:d9 K (.ref f)=γ
section
variable{P:aH}{w:az}{K:av}{mg:Str->Option ab}{b?:Heap}
theorem QV.ok{st:Stmt}(F:QV K x qual st f d T)(S:xJ N ps (vt st))(len:∀a H Q E,b a H Q E->a.length=ps.length)
  (hbody:∀(cdv:ab) (A:aI) (da:List Env) (s:ae) (H:Hp) (a:bN) (Q:VK) (E:XK),xA k (A.deeper (envOfC qual (vt st) s.heap.objs.size f cdv))->b a H Q E->
   ∃t,p5 (MF H? P w K mg b? N qual (vt st) f cdv A da s H E).nox (vV st) t/\t { nx:=λ_ c=>Q .E c,rt:=Q } (L2.start N a) H):zm P w K mg b? H? (k+1) f d ps b:=by
 obtain⟨m,o,kV,doc,p,j,cdv,l,osl,rfl,i,hcd⟩:=F.ex;refine XN i hcd S len λA da s H a Q E e hsp=>?_;obtain⟨t,h,q⟩:=hbody cdv A da s H a Q E e hsp;exact⟨t,h.nox,q⟩
end
theorem QV.tp{K:av}{st:Stmt}{i:aF}{d:List ab}(F:QV K x qual st f j T)(q:K.lookup T=Z o)(r:o.data=.seq items n)
  (h:∀(kV doc e:ab) (b:Option Addr) (cdv c:ab) (a:List ab),a.length=i.length - d.length->∃k,bindArgs (eV x qual (y4 st) (vV st) (vt st) (.ref T) kV doc e b cdv c) ⟨a,[]⟩=seqItems? (.ref T)>>=k/\k (Z items)=pure (i.zip (a++d))):l? K j i d:=by
 obtain⟨u,w,kV,doc,e,b,cdv,c,osl,rfl,t,hcd⟩:=F.ex;intro s a KX p;obtain⟨k,l,m⟩:=h kV doc e b cdv c a (by rw[aE]at p;omega);exact BindsTo.of_defaults (k:=k) O (KX _ _ q) r l m
section
variable{X:Cx}
def Og:ki X (cJ .Mult) (λx y H Q=>∃z n,x=.str z/\y=.int n/\MulOk z n/\Q (.str (m8 z n)) H):=by intro a s i H x y v u Q I c d h;obtain⟨z,n,rfl,rfl,b,q⟩:=h;obtain⟨t,rfl⟩:=c;obtain⟨f,rfl⟩:=d;exact SB.mul b λe k=>⟨.str _,H,I.xr _,⟨e,O⟩,q⟩
end
section
variable{X:Cx}(K:av)
def SD(hK:X.K=K:=by rfl):IxR X (VT K):=by subst hK;exact Pf
def MQ(a:PE X l b)(hK:X.K=K:=by rfl):PI X c l (R8 K b):=by subst hK;exact VE a
def V3(a:PE X l b)(hK:X.K=K:=by rfl):PI X c l (YI K b):=by subst hK;exact YJ a
def V4(b:X.nq=γ)(h:R' X a t)(c:(cc a X.b1).length=n:=by rfl)(hst:(cc a X.b1).findIdx? (·.1)=J:=by rfl)(hK:X.K=K:=by rfl):PG X (.Tuple a k pos) (YE K n t):=by subst hK;exact YF b h c hst
variable{o e:Expr}{es:List Expr}{to:TE}{t:TA}{name:Str}{apos cpos:Pos}{T id:String}{r:V->bN->Hp->VK->Prop}
def SE(f:mW T)(slot:Slot T name id)(hty:typeOf (.builtin id)=pure (.type "method_descriptor"))(b:MtR X id r)(c:PE X o to)(a:PA X (e::es) t)
  (hbase:fI o name X.b1 (eval o X.b1)=eval o X.b1:=by rfl)
  (hfew:((bE cpos (aC (e::es) X.b1)).all (λx=>!x.1)&&(backToKw cpos (d8 [] X.b1)).all (λx=>x.1.isSome)
   && decide ((e::es).length+([]:List fL).length+(if ([]:List fL).isEmpty then 0 else 1)<30))=γ:=by rfl)
  (hline:(apos.endLine==cpos.line)=γ:=by rfl) (d:aC (e::es) X.b1=(δ,eval e X.b1)::aC es X.b1:=by rfl) (hplain:(bE cpos (aC es X.b1)).any (·.1)=δ:=by rfl) (hK:X.K=K:=by rfl):
  PE X (.Call (.Attribute o name apos) (e::es) [] cpos) (tBM K T r to t):=by subst hK;exact acJ f slot hty b c a hbase hfew hline d hplain
end
end L3
namespace L2
open PySem PySem.Spec PyProof.Rows
section
variable{X:Cx}{pins:cD}{σ:St}{H:Hp}{s:ae}
def BC(e:H a=Z u)(q:H c=Z v)(d:u≠v)(n:HO):ff H a n c=Z v:=by rw[vn (λz=>by subst z;rw[e]at q;exact d (cI q))];exact q
def c3.ri(I:c3 X pins σ H s)(e:H a=Z (.dK kvs)):∃o,c3 X pins σ (ff H a (.n? o (.dK kvs))) s:=by
 obtain⟨z,y,Q,r,f,F,E,l,c⟩:=(show wI X.prog X.w H s.heap a (.dK kvs) from I.fx a _ e);refine⟨f,?_⟩;have j:=I.step (H':=ff H a (.n? f (.dK kvs))) (h':=s.heap) (g':=s.gens) (d':=s.drawn) (t':=s.toks) (ch:=[]) (λ_ z=>nomatch z) (λb o _ _ _ q _=>q) (λb o _ _ _ q _=>⟨o.slots,q⟩)
  (λb o _ _ n=>by rw[vn (λz=>by subst z;rw[e]at n;cases n)];exact n) (λb o _ q=>⟨o,q⟩) (λb p q=>BC e q (λz=>nomatch z) _) (λb o u q=>BC e q (λz=>nomatch z) _)
  (λb N q=>⟨#[],by rw[BC e q (λz=>nomatch z) _];simp⟩) (λm q=>q) ?_ I.l'
 .obtain⟨h,g,d,t,os⟩:=s;exact j
 .intro b u q;have st:∀{b:Addr} {u:HO},wI X.prog X.w H s.heap b u->wI X.prog X.w (ff H a (.n? f (.dK kvs))) s.heap b u:=λ{b u} x=>x.χ (λ_ _ _ q=>q) (λc q=>BC e q (λz=>nomatch z) _) λc p q=>BC e q (λz=>nomatch z) _
  by_cases i:b=a
  .subst i;rw[vb]at q;cases q;exact⟨l,st (I.fx b _ e)⟩
  .rw[vn i]at q;exact st (I.fx b u q)
def PE.ghost(h:PE X e t):PE X e (λσ H Q=>t σ H λx b=>Q x b\/∃a kvs,b a=Z (.dK kvs)/\∀o,Q x (ff b a (.n? o (.dK kvs)))):=λpins s σ H Q I i=>
 fy (h pins s σ H _ I i) λu l ⟨x,b,c,d,j⟩=>by
  rcases j with q|⟨a,kvs,e,q⟩
  .exact⟨x,b,c,d,q⟩
  .obtain⟨o,f⟩:=c.ri e;exact⟨x,_,f,d,q o⟩
end
end L2
namespace L4
open PySem PySem.Spec PyProof.Rows L2 L3
abbrev St:=L2.St
inductive D where
 |E|I (b:Bool)|int (i:Int)|str (x:Str)
 |du (ds:List D)|bt (ds:List D)
 |R (ds:List D)
 |obj (c:Nat) (ns:aF) (ds:List D)
 |Q (ks:List fc) (ds:List D)
abbrev bp:=List D
structure Bg where
 K:av
 ca:Nat->Addr
mutual
def cb(G:Bg)(H:Hp):D->V->Prop
 |.E,v=>v=.E
 |.I b,v=>v=.I b
 |.int i,v=>v=.int i
 |.str x,v=>v=.str x
 |.du e,v=>∃a d,v=.ref a/\ij G.K H a d/\uQ G H e d
 |.bt e,v=>∃a d,v=.ref a/\H a=Z (.bt d)/\uQ G H e d
 |.R e,v=>∃a d,v=.ref a/\gd G.K H a d/\uQ G H e d
 |.obj c h e,v=>∃a j d,v=.ref a/\H a=Z (.nj (G.ca c) j (h.zip d))/\h.length=d.length/\uQ G H e d
 |.Q f e,v=>∃a o d,v=.ref a/\H a=Z (.n? o (.dK (f.zip d)))/\f.length=d.length/\uQ G H e d
def uQ(G:Bg)(H:Hp):bp->bN->Prop
 |[],a=>a=[]
 |d::b,a=>∃v r,a=v::r/\cb G H d v/\uQ G H b r
end
def ij.mono{K:av}(e:ve H b)(h:ij K H a c):ij K b a c:=by
 rcases h with (h|⟨o,h⟩)|h
 .exact .inl (.inl (e _ _ h))
 .exact .inl (.inr ⟨o,e _ _ h⟩)
 .exact .inr h
mutual
theorem cb.mono(e:ve H q):∀(d:D) (v:V),cb G H d v->cb G q d v
 |.E,v,h=>by unfold cb at h ⊢;exact h
 |.I b,v,h=>by unfold cb at h ⊢;exact h
 |.int i,v,h=>by unfold cb at h ⊢;exact h
 |.str x,v,h=>by unfold cb at h ⊢;exact h
 |.du j,v,h=>by unfold cb at h ⊢;obtain⟨a,f,rfl,l,m⟩:=h;exact⟨a,f,O,ij.mono e l,uQ.mono e j f m⟩
 |.bt j,v,h=>by unfold cb at h ⊢;obtain⟨a,f,rfl,l,m⟩:=h;exact⟨a,f,O,e _ _ l,uQ.mono e j f m⟩
 |.R j,v,h=>by unfold cb at h ⊢;obtain⟨a,f,rfl,l,m⟩:=h;exact⟨a,f,O,e.seq l,uQ.mono e j f m⟩
 |.obj c u j,v,h=>by unfold cb at h ⊢;obtain⟨a,r,f,rfl,l,m,p⟩:=h;exact⟨a,r,f,O,e _ _ l,m,uQ.mono e j f p⟩
 |.Q t j,v,h=>by unfold cb at h ⊢;obtain⟨a,o,f,rfl,l,m,p⟩:=h;exact⟨a,o,f,O,e _ _ l,m,uQ.mono e j f p⟩
theorem uQ.mono(e:ve H c):∀(a:bp) (b:bN),uQ G H a b->uQ G c a b
 |[],b,h=>by unfold uQ at h ⊢;exact h
 |d::a,b,h=>by unfold uQ at h ⊢;obtain⟨v,r,rfl,f,i⟩:=h;exact⟨v,r,O,cb.mono e d v f,uQ.mono e a r i⟩
end
section
variable{G:Bg}{H:Hp}
def vM:uQ G H [] []:=by unfold uQ;rfl
def vR(h:cb G H d v)(r:uQ G H b a):uQ G H (d::b) (v::a):=by unfold uQ;exact⟨v,a,O,h,r⟩
theorem uV:∀{b:bp} {a:bN},uQ G H b a->b.length=a.length
 |[],a,h=>by unfold uQ at h;subst h;rfl
 |d::b,a,h=>by unfold uQ at h;obtain⟨v,r,rfl,_,c⟩:=h;rw[aN,aN,uV c]
theorem xj:∀{e a:bp} {b c:bN},uQ G H e b->uQ G H a c->uQ G H (e++a) (b++c)
 |[],a,b,c,h,f=>by unfold uQ at h;subst h;exact f
 |d::e,a,b,c,h,f=>by unfold uQ at h;obtain⟨v,r,rfl,i,j⟩:=h;exact vR i (xj j f)
theorem zF:∀{b:bp} {a:bN} {i:Nat} {d:D},uQ G H b a->b[i]?=Z d->∃v,a[i]?=Z v/\cb G H d v
 |[],a,i,d,h,e=>by simp at e
 |j::b,a,i,d,h,e=>by
  unfold uQ at h;obtain⟨v,r,rfl,c,f⟩:=h;cases i with
  |zero=>simp at e;subst e;exact⟨v,O,c⟩
  |succ i=>simpa using zF (i:=i) (d:=d) f (by simpa using e)
theorem MR:∀{b:bp} {a:bN} (i:Nat) {d:D} {v:V},uQ G H b a->cb G H d v->uQ G H (b.set i d) (a.set i v)
 |[],a,i,d,v,h,e=>by unfold uQ at h;subst h;exact vM
 |j::b,a,i,d,v,h,e=>by
  unfold uQ at h;obtain⟨l,r,rfl,f,c⟩:=h;cases i with
  |zero=>exact vR e c
  |succ i=>exact vR f (MR i c e)
theorem Kw:∀{ds:bp} {a:bN} (n:Nat),uQ G H ds a->uQ G H (ds.drop n) (a.drop n)
 |ds,a,0,h=>h
 |[],a,n+1,h=>by unfold uQ at h;subst h;exact vM
 |d::ds,a,n+1,h=>by unfold uQ at h;obtain⟨v,r,rfl,c,b⟩:=h;exact Kw n b
theorem Kx:∀{ds:bp} {a:bN} (n:Nat),uQ G H ds a->uQ G H (ds.take n) (a.take n)
 |ds,a,0,h=>vM
 |[],a,n+1,h=>by unfold uQ at h;subst h;exact vM
 |d::ds,a,n+1,h=>by unfold uQ at h;obtain⟨v,r,rfl,b,c⟩:=h;exact vR b (Kx n c)
def EV(h:ij G.K H a b)(r:uQ G H c b):cb G H (.du c) (.ref a):=by unfold cb;exact⟨a,b,O,h,r⟩
def BZ(h:H a=Z (.bt b))(r:uQ G H c b):cb G H (.bt c) (.ref a):=by unfold cb;exact⟨a,b,O,h,r⟩
def xt(i:Int):cb G H (.int i) (.int i):=by unfold cb;rfl
def x9(i:Bool):cb G H (.I i) (.I i):=by unfold cb;rfl
def zB(i:Str):cb G H (.str i) (.str i):=by unfold cb;rfl
def AW:cb G H .E .E:=by unfold cb;rfl
end
inductive Sl where
 |un
 |z (d:D)
 |O (ds:bp)
 |pm (ds:bp)
 |dk (ks:List fc) (ds:bp)
 |ob (c:Nat) (ns:aF) (ds:bp)
abbrev aQ:=List Sl
def Sl.jj:Sl->Bool
 |.O _=>γ
 |.pm _=>γ
 |.dk _ _=>γ
 |.ob _ _ _=>γ
 |_=>δ
structure Fr where
 B0:Hp
 B:Hp
 A:List Addr
def J4(G:Bg)(F:Fr)(e H:Hp)(o:Option V):Sl->Prop
 |.un=>True
 |.z d=>∃v,o=Z v/\cb G e d v
 |.O f=>∃a b,o=Z (.ref a)/\H a=Z (.bt b)/\e a=J/\F.B a=J/\uQ G e f b
 |.pm f=>∃a b,o=Z (.ref a)/\H a=Z (.bt b)/\e a=J/\a∈F.A/\uQ G e f b
 |.dk h f=>∃a b,o=Z (.ref a)/\H a=Z (.dK (h.zip b))/\e a=J/\F.B a=J/\h.length=b.length/\uQ G e f b
 |.ob c i f=>∃a j b,o=Z (.ref a)/\H a=Z (.nj (G.ca c) j (i.zip b))/\e a=J/\a∈F.A/\i.length=b.length/\uQ G e f b
structure vy(G:Bg)(F:Fr)(σ:St)(ρ:aQ)(H0 H:Hp):Prop where
 sub:ve H0 H
 g0:ve F.B0 H0
 keep:∀b o,F.B b=Z o->b∉F.A->H b=Z o
 fr:∀b o,H0 b=Z o->F.B0 b=Z o\/F.B b=J
 am:∀a∈F.A,∃o,H a=Z o
 len:σ.length=ρ.length
 sl:∀(i:Nat) (s:Sl),ρ[i]?=Z s->J4 G F H0 H (σ[i]?).join s
 ap:∀(i j:Nat) (s t:Sl) (a:Addr),i≠j->ρ[i]?=Z s->ρ[j]?=Z t->s.jj=γ->t.jj=γ->(σ[i]?).join=Z (.ref a)->(σ[j]?).join=Z (.ref a)->False
theorem J4.at(h:J4 G F p H o s)(e:s.jj=γ):∃a u,o=Z (.ref a)/\H a=Z u/\p a=J/\(F.B a=J\/a∈F.A):=by
 cases s with
 |un=>cases e
 |z d=>cases e
 |O l=>obtain⟨a,m,b,f,i,j,_⟩:=h;exact⟨a,_,b,f,i,.inl j⟩
 |pm l=>obtain⟨a,m,b,f,i,j,_⟩:=h;exact⟨a,_,b,f,i,.inr j⟩
 |dk r l=>obtain⟨a,m,b,f,i,j,_⟩:=h;exact⟨a,_,b,f,i,.inl j⟩
 |ob c t l=>obtain⟨a,q,m,b,f,i,j,_⟩:=h;exact⟨a,_,b,f,i,.inr j⟩
def J4.i0(h:J4 G F x H o s)(p:ve x m)(q:∀a u,o=Z (.ref a)->s.jj=γ->H a=Z u->y a=Z u)
  (r:∀a u,o=Z (.ref a)->s.jj=γ->H a=Z u->x a=J->m a=J):J4 G F m y o s:=by
 cases s with
 |un=>trivial
 |z d=>obtain⟨v,b,e⟩:=h;exact⟨v,b,cb.mono p _ _ e⟩
 |O t=>obtain⟨a,l,b,e,f,i,j⟩:=h;exact⟨a,l,b,q _ _ b O e,r _ _ b O e f,i,uQ.mono p _ _ j⟩
 |pm t=>obtain⟨a,l,b,e,f,i,j⟩:=h;exact⟨a,l,b,q _ _ b O e,r _ _ b O e f,i,uQ.mono p _ _ j⟩
 |dk A t=>obtain⟨a,l,b,e,f,i,j,w⟩:=h;exact⟨a,l,b,q _ _ b O e,r _ _ b O e f,i,j,uQ.mono p _ _ w⟩
 |ob c B t=>obtain⟨a,z,l,b,e,f,i,j,w⟩:=h;exact⟨a,z,l,b,q _ _ b O e,r _ _ b O e f,i,j,uQ.mono p _ _ w⟩
section
variable{G:Bg}{F:Fr}{σ:St}{ρ:aQ}{H0 H H0' H':Hp}
theorem vy.i1(R:vy G F σ ρ H0 H)(h:H b=J):F.B b=J:=by
 cases e:F.B b with
 |none=>rfl
 |some o=>
  by_cases a:b∈F.A
  .obtain⟨c,q⟩:=R.am b a;rw[q]at h;cases h
  .have q:=R.keep b o e a;rw[q]at h;cases h
theorem vy.i0(R:vy G F σ ρ H0 H)(c:ve H H')(d:ve H0 H0')(sub':ve H0' H')(hf:∀b o,H0' b=Z o->H0 b=Z o\/H b=J):vy G F σ ρ H0' H' where
 sub:=sub'
 g0:=R.g0.t d
 keep:=λb o e n=>c _ _ (R.keep b o e n)
 fr:=λb o e=>by
  rcases hf b o e with q|q
  .exact R.fr b o q
  .exact .inr (R.i1 q)
 am:=λa ha=>let ⟨xs,q⟩:=R.am a ha;⟨xs,c _ _ q⟩
 len:=R.len
 sl:=λi s e=>(R.sl i s e).i0 d (λa u _ _ q=>c _ _ q) λa u _ _ q f=>by
  cases z:H0' a with
  |none=>rfl
  |some o=>
   rcases hf a o z with y|y
   .rw[y]at f;cases f
   .rw[y]at q;cases q
 ap:=R.ap
def vw(a:H p=J)(o:HO):ve H (ff H p o):=ve.new (ve.refl H) a o
def vy.f5(R:vy G F σ ρ H0 H)(a:H p=J):H0 p=J:=by
 cases e:H0 p with
 |none=>rfl
 |some o=>have:=R.sub _ _ e;rw[this]at a;cases a
def SF(s:ve H0 H)(p:Addr)(o:HO):ve (ff H0 p o) (ff H p o):=λb u e=>by
 by_cases a:b=p
 .subst a;rw[vb]at e ⊢;exact e
 .rw[vn a]at e ⊢;exact s _ _ e
def vy.P?(R:vy G F σ ρ H0 H)(a:H p=J)(o:HO):vy G F σ ρ (ff H0 p o) (ff H p o):=
 R.i0 (vw a o) (vw (R.f5 a) o) (SF R.sub p o) λb u e=>by
  by_cases c:b=p
  .subst c;exact .inr a
  .rw[vn c]at e;exact .inl e
def vy.l7(R:vy G F σ ρ H0 H)(a:H p=J)(o:HO):vy G F σ ρ H0 (ff H p o):=
 R.i0 (vw a o) (ve.refl _) (λb u e=>by rw[vn (xZ (R.sub _ _ e) a)];exact R.sub _ _ e) λb u e=>.inl e
def rf(σ:St)(ρ:aQ)(p:Addr):Prop:=∀(i:Nat) (s:Sl),ρ[i]?=Z s->s.jj=γ->(σ[i]?).join≠Z (.ref p)
def vy.apart(R:vy G F σ ρ H0 H)(d:H p=J):rf σ ρ p:=λi s e so z=>by obtain⟨a,u,b,c,_⟩:=(R.sl i s e).at so;rw[z]at b;cases b;rw[d]at c;cases c
theorem vy.ri(R:vy G F σ ρ H0 H)(f:H p=Z o)(d:H0 p=J)(hb:F.B p=J)(ap:rf σ ρ p):vy G F σ ρ (ff H0 p o) H where
 sub:=λb u e=>by
  by_cases hb:b=p
  .subst hb;rw[vb]at e;cases e;exact f
  .rw[vn hb]at e;exact R.sub _ _ e
 g0:=R.g0.t (vw d o)
 keep:=R.keep
 fr:=λb u e=>by
  by_cases c:b=p
  .subst c;exact .inr hb
  .rw[vn c]at e;exact R.fr _ _ e
 am:=R.am
 len:=R.len
 sl:=λi s e=>(R.sl i s e).i0 (vw d o) (λa u _ _ q=>q) λa u z so q h=>by rw[vn (λy=>ap i s e so (by rw[z,y]))];exact h
 ap:=R.ap
def MS{σ:St}(a:i<σ.length):((σ.set i v)[j]?).join=if j=i then v else (σ[j]?).join:=by
 rw[b8];by_cases h:i=j
 .subst h;simp[a]
 .rw[ao h,ao (λz=>h z.symm)]
theorem vy.set(R:vy G F σ ρ H0 H)(B:J4 G F H0 H (Z v) s)(ap:s.jj=γ->∀a,v=.ref a->∀(j:Nat) (t:Sl),j≠i->ρ[j]?=Z t->t.jj=γ->(σ[j]?).join≠Z (.ref a)):
  vy G F (σ.set i (Z v)) (ρ.set i s) H0 H where
 sub:=R.sub
 g0:=R.g0
 keep:=R.keep
 fr:=R.fr
 am:=R.am
 len:=by rw[eJ,eJ,R.len]
 sl:=λj t e=>by
  rw[b8]at e;by_cases h:i=j
  .subst h;rw[ak O]at e;split at e
   .rename_i hi;cases e;rw[MS (by rw[R.len];exact hi),ak O];exact B
   .cases e
  .rw[ao h]at e;have A:=R.sl j t e;rw[b8,ao h];exact A
 ap:=λj k t u a hjk q f p tk b vk=>by
  have ro:∀{m:Nat} {x:Sl},(ρ.set i s)[m]?=Z x->m≠i->ρ[m]?=Z x/\((σ.set i (Z v))[m]?).join=(σ[m]?).join:=λ{m x} e hm=>by rw[b8,ao (λz=>hm z.symm)]at e;exact⟨e,by rw[b8,ao (λz=>hm z.symm)]⟩
  have self:∀{x:Sl},(ρ.set i s)[i]?=Z x->x=s/\((σ.set i (Z v))[i]?).join=Z v:=λ{x} e=>by
   rw[b8,ak O]at e;split at e
   .rename_i hi;cases e;exact⟨O,by rw[MS (by rw[R.len];exact hi),ak O]⟩
   .cases e
  by_cases o:j=i
  .subst o;obtain⟨rfl,l⟩:=self q;rw[l]at b;cases b;obtain⟨c,d⟩:=ro f (λz=>hjk z.symm);rw[d]at vk;exact ap p a O k u (λz=>hjk z.symm) c tk vk
  .obtain⟨c,d⟩:=ro q o;by_cases r:k=i
   .subst r;obtain⟨rfl,l⟩:=self f;rw[l]at vk;cases vk;rw[d]at b;exact ap tk a O j t o c p b
   .obtain⟨w,y⟩:=ro f r;rw[d]at b;rw[y]at vk;exact R.ap j k t u a hjk c w p tk b vk
def vy.setIm(R:vy G F σ ρ H0 H)(i:Nat)(h:cb G H0 d v):vy G F (σ.set i (Z v)) (ρ.set i (.z d)) H0 H:=R.set ⟨v,O,h⟩ λz=>by cases z
theorem vy.setLs(R:vy G F σ ρ H0 H)(i:Nat)(o:H p=Z (.bt b))(l:H0 p=J)(m:F.B p=J)(c:rf σ ρ p)(h:uQ G H0 d b):vy G F (σ.set i (Z (.ref p))) (ρ.set i (.O d)) H0 H:=
 R.set ⟨p,b,O,o,l,m,h⟩ λ_ a e j t _ f q=>by cases e;exact c j t f q
def vy.mut(R:vy G F σ ρ H0 H)(hi:ρ[i]?=Z s)(so:s.jj=γ)(ha:(σ[i]?).join=Z (.ref a))(ok:∀H',H' a=Z o->J4 G F H0 H' (Z (.ref a)) c)
  (M:c.jj=γ):vy G F σ (ρ.set i c) H0 (ff H a o):=by
 obtain⟨Q,u,d,S,f,l⟩:=(R.sl i s hi).at so;rw[ha]at d;cases d;exact {
  sub:=λb w e=>by rw[vn (λz=>by rw[z,f]at e;cases e)];exact R.sub _ _ e
  g0:=R.g0
  keep:=λb w e n=>by
   have C:b≠a:=λz=>by
    subst z;rcases l with q|q
    .rw[q]at e;cases e
    .exact n q
   rw[vn C];exact R.keep b w e n
  fr:=R.fr
  am:=λb hb=>by
   by_cases z:b=a
   .subst z;exact⟨o,vb⟩
   .rw[vn z];exact R.am b hb
  len:=by rw[eJ];exact R.len
  sl:=λj t e=>by
   rw[b8]at e;by_cases h:i=j
   .subst h;rw[ak O]at e;split at e
    .cases e;rw[ha];exact ok _ vb
    .cases e
   .rw[ao h]at e;refine(R.sl j t e).i0 (ve.refl _) (λb w z to q=>?_) λb w _ _ _ q=>q;rw[vn (λy=>by subst y;exact R.ap j i t s b (λy=>h y.symm) e hi to so z ha)];exact q
  ap:=λj k t u b hjk p r N tk P vk=>by
   have ro:∀{m:Nat} {x:Sl},(ρ.set i c)[m]?=Z x->∃y,ρ[m]?=Z y/\(x.jj=γ->y.jj=γ):=λ{m x} e=>by
    rw[b8]at e;by_cases h:i=m
    .subst h;exact⟨s,hi,λ_=>so⟩
    .rw[ao h]at e;exact⟨x,e,λq=>q⟩
   obtain⟨y,A,E⟩:=ro p;obtain⟨z,B,I⟩:=ro r;exact R.ap j k y z b hjk A B (E N) (I tk) P vk }
end
abbrev FE:=aQ->Option (D×aQ)
abbrev FT:=aQ->Option (Bool×aQ)
abbrev FA:=aQ->Option (bp×aQ)
def tF(G:Bg)(f:FE):TE:=λi H Q=>∃F h e d b,vy G F i h e H/\f h=Z (d,b)/\∀v a c,ve e a->vy G F i b a c->cb G a d v->Q v c
def n9(G:Bg)(f:FT):TT:=λi H Q=>∃F h e d b,vy G F i h e H/\f h=Z (d,b)/\∀a c,ve e a->vy G F i b a c->Q d c
def vo(G:Bg)(f:FA):TA:=λj H Q=>∃F i d e b,vy G F j i d H/\f i=Z (e,b)/\∀h a c,ve d a->vy G F j b a c->uQ G a e h->Q h c
def z3(G:Bg)(f:FA):TE:=λd H Q=>∃F j e h b,vy G F d j e H/\f j=Z (h,b)/\∀p i a c,ve e a->vy G F d b a c->c p=Z (.bt i)->a p=J->F.B p=J->rf d b p->uQ G a h i->Q (.ref p) c
def PE.d?(h:PE X e t)(w:∀b H Q,t' b H Q->t b H Q):PE X e t':=λa s b H Q I c=>h a s b H Q I (w _ _ _ c)
def PT.d?(h:PT X e t)(w:∀b H Q,t' b H Q->t b H Q):PT X e t':=λa s b H Q I c=>h a s b H Q I (w _ _ _ c)
def PW.d?(h:PW X e t)(w:∀b H Q,t' b H Q->t b H Q):PW X e t':=λd a s b H Q I c=>h d a s b H Q I (w _ _ _ c)
def PA.d?(h:PA X e t)(w:∀b H Q,t' b H Q->t b H Q):PA X e t':=λpos a s b H Q I c=>h pos a s b H Q I (w _ _ _ c)
noncomputable def cC(d:D):FE:=λa=>Z (d,a)
noncomputable def cV(i:Nat):FE:=λa=>match a[i]? with
 |some (.z d)=>Z (d,a)
 |_=>J
noncomputable def c1(g:D->Option D) (f:FE):FE:=λb=>match f b with
 |some (d,a)=>match g d with
  |some x=>Z (x,a)
  |none=>J
 |none=>J
noncomputable def c2(g:D->D->Option D) (f c:FE):FE:=λd=>match f d with
 |some (x,a)=>match c a with
  |some (y,b)=>match g x y with
   |some z=>Z (z,b)
   |none=>J
  |none=>J
 |none=>J
def EW(h:c1 g f c=Z (z,b)):∃d,f c=Z (d,b)/\g d=Z z:=by
 unfold c1 at h;cases e:f c with
 |none=>rw[e]at h;cases h
 |some p=>
  obtain⟨d,i⟩:=p;rw[e]at h;cases a:g d with
  |none=>simp only[a]at h;cases h
  |some x=>simp only[a]at h;cases h;exact⟨d,O,a⟩
def EX(h:c2 g f i j=Z (z,d)):∃x y a,f j=Z (x,a)/\i a=Z (y,d)/\g x y=Z z:=by
 unfold c2 at h;cases e:f j with
 |none=>rw[e]at h;cases h
 |some p=>
  obtain⟨x,a⟩:=p;simp only[e]at h;cases b:i a with
  |none=>simp only[b]at h;cases h
  |some q=>
   obtain⟨y,l⟩:=q;simp only[b]at h;cases c:g x y with
   |none=>simp only[c]at h;cases h
   |some w=>simp only[c]at h;cases h;exact⟨x,y,a,O,b,c⟩
section
variable{X:Cx}{G:Bg}
def Ze{i j pos}:PE X (.Constant (.int i) j pos) (tF G (cC (.int i))):=PE.d? Lq λf H Q h=>by obtain⟨F,c,b,d,a,R,e,k⟩:=h;cases e;exact k _ _ _ (ve.refl _) R (xt i)
def acO{i j pos}:PE X (.Constant (.bool i) j pos) (tF G (cC (.I i))):=PE.d? acf λf H Q h=>by obtain⟨F,c,b,d,a,R,e,k⟩:=h;cases e;exact k _ _ _ (ve.refl _) R (x9 i)
def Zf{i j pos}:PE X (.Constant (.str i) j pos) (tF G (cC (.str i))):=PE.d? Yu λf H Q h=>by obtain⟨F,c,b,d,a,R,e,k⟩:=h;cases e;exact k _ _ _ (ve.refl _) R (zB i)
def Zg{j pos}:PE X (.Constant .none j pos) (tF G (cC .E)):=PE.d? Yt λf H Q h=>by obtain⟨F,c,b,d,a,R,e,k⟩:=h;cases e;exact k _ _ _ (ve.refl _) R AW
def V5(h:cV i b=Z (d,a)):b[i]?=Z (.z d)/\a=b:=by
 unfold cV at h;split at h
 .rename_i e;cases h;exact⟨e,O⟩
 .cases h
def y7{a:Type}{o:Option (Option a)}{v:a}(h:o.join=Z v):o=Z (Z v):=by
 cases o with
 |none=>cases h
 |some u=>cases u with
  |none=>cases h
  |some w=>cases h;rfl
def Oh(h:PE X e (BU i)):PE X e (tF G (cV i)):=PE.d? h λo H Q f=>by obtain⟨F,m,l,d,j,R,e,k⟩:=f;obtain⟨a,rfl⟩:=V5 e;obtain⟨v,b,c⟩:=R.sl i _ a;exact⟨v,y7 b,k _ _ _ (ve.refl _) R c⟩
def V6(h:PE X e (tC v))(r:∀H,cb G H d v):PE X e (tF G (cC d)):=PE.d? h λj H Q a=>by obtain⟨F,i,c,f,b,R,e,k⟩:=a;cases e;exact k _ _ _ (ve.refl _) R (r _)
def mn(G:Bg)(r:R2)(g:D->D->Option D):Prop:=∀x y z b H v u (Q:VK),g x y=Z z->ve b H->cb G b x v->cb G b y u->(∀w,(∀a,ve b a->cb G a z w)->Q w H)->r v u H Q
def Pi(C:mn G r g):∀h H Q,tF G (c2 g f A) h H Q->tOp r (tF G f) (tF G A) h H Q:=λh H Q B=>by obtain⟨F,P,l,d,c,R,e,k⟩:=B;obtain⟨x,y,b,q,t,z⟩:=EX e;refine⟨F,P,l,x,b,R,q,λv m o N p I=>⟨F,b,m,y,c,p,t,λu i a j R2 M=>?_⟩⟩;exact C x y d i a v u Q z R2.sub (cb.mono j _ _ I) M λw E=>k w i a (N.t j) R2 (E _ (ve.refl _))
def acP(i:ki X (cJ j) r)(h:mn G r g)(d:PE X a (tF G f))(e:PE X b (tF G c)):PE X (.BinOp a j b pos) (tF G (c2 g f c)):=PE.d? (O5 i d e) (Pi h)
def Zh(l:ki X (bz c) r)(j:mn G r g)(e:PE X a (tF G f))(h:PE X b (tF G d))(i:fZ c b=δ):PE X (.Compare a [c] [b] pos) (tF G (c2 g f d)):=PE.d? (VJ l e h i) (Pi j)
def acQ(i:IxR X r)(h:mn G r g)(d:PE X a (tF G f))(e:PE X b (tF G c))(j:Pe b):PE X (.Subscript a b pos) (tF G (c2 g f c)):=PE.d? (XO i d e j) (Pi h)
def cT(f:FE):FT:=λc=>match f c with
 |some (.I b,a)=>Z (b,a)
 |_=>J
def Pj(h:cT f c=Z (b,a)):f c=Z (.I b,a):=by
 unfold cT at h;split at h
 .rename_i e;cases h;exact e
 .cases h
def Pk:∀b H Q,n9 G (cT f) b H Q->Sd (tF G f) b H Q:=λb H Q j=>by obtain⟨F,l,c,d,a,R,e,k⟩:=j;refine⟨F,l,c,_,a,R,Pj e,λv h m s i r=>?_⟩;unfold cb at r;exact⟨d,r,k _ _ s i⟩
def V7(u:ki X (bz h) r)(t:mn G r g)(m:PE X a (tF G f))(o:PE X b (tF G l))(q:fZ h b=δ):
  PT X (.Compare a [h] [b] pos) (n9 G (cT (c2 g f l))):=PT.d? (VL u m o q) λi H Q p=>by
 obtain⟨F,w,j,d,c,R,e,k⟩:=Pk i H Q p;exact Pi t i H _ ⟨F,w,j,d,c,R,e,k⟩
def V8(h:PE X e (tF G f))(j:∀whole,isTrue e X.b1 whole=(do let v<-whole;standAt e.pos;holding [v] (truthy v)):=by intro _;rfl):PT X e (n9 G (cT f)):=PT.d? (Yv h j) λp H Q l=>by obtain⟨F,m,b,d,a,R,e,k⟩:=l;refine⟨F,m,b,_,a,R,Pj e,λv c o s i r=>?_⟩;unfold cb at r;exact⟨d,r,k _ _ s i⟩
def wg(f:FT):FT:=λc=>match f c with
 |some (b,a)=>Z (!b,a)
 |none=>J
def wN(f g:FT):FT:=λb=>match f b with
 |some (γ,a)=>g a
 |r=>r
def ya(f g:FT):FT:=λb=>match f b with
 |some (δ,a)=>g a
 |r=>r
def V9(h:PT X a (n9 G f)):PT X (.UnaryOp .Not a pos) (n9 G (wg f)):=PT.d? (YA h) λu H Q o=>by
 obtain⟨F,i,j,d,q,R,e,k⟩:=o;unfold wg at e;cases c:f i with
 |none=>simp only[c]at e;cases e
 |some p=>obtain⟨b,r⟩:=p;simp only[c]at e;cases e;exact⟨F,i,j,b,_,R,c,λl t s m=>k _ _ s m⟩
def Zi:∀m H Q,n9 G (wN f g) m H Q->tAnd (n9 G f) (n9 G g) m H Q:=λm H Q t=>by
 obtain⟨F,j,o,d,l,R,e,k⟩:=t;unfold wN at e;cases c:f j with
 |none=>simp only[c]at e;cases e
 |some p=>
  obtain⟨b,h⟩:=p;cases b with
  |true=>simp only[c]at e;exact⟨F,j,o,γ,h,R,c,λa q s i=>LI ⟨F,h,a,d,l,i,e,λw r u R2=>k _ _ (s.t u) R2⟩⟩
  |false=>simp only[c]at e;cases e;exact⟨F,j,o,δ,_,R,c,λa q s i=>LH (k _ _ s i)⟩
def acR:∀m H Q,n9 G (ya f g) m H Q->tOr (n9 G f) (n9 G g) m H Q:=λm H Q t=>by
 obtain⟨F,j,o,d,l,R,e,k⟩:=t;unfold ya at e;cases c:f j with
 |none=>simp only[c]at e;cases e
 |some p=>
  obtain⟨b,h⟩:=p;cases b with
  |false=>simp only[c]at e;exact⟨F,j,o,δ,h,R,c,λa q s i=>LH ⟨F,h,a,d,l,i,e,λw r u R2=>k _ _ (s.t u) R2⟩⟩
  |true=>simp only[c]at e;cases e;exact⟨F,j,o,γ,_,R,c,λa q s i=>LI (k _ _ s i)⟩
def SG(h:PT X a (n9 G f)):PW X (.BoolOp .And [a] pos) (n9 G f):=VA h
def Wa(h:PT X a (n9 G f)):PW X (.BoolOp .Or [a] pos) (n9 G f):=Yy h
def Wb{er:List Expr}(c:PT X a (n9 G f))(d:PW X (.BoolOp .And (b::er) pos) (n9 G g)):PW X (.BoolOp .And (a::b::er) pos) (n9 G (wN f g)):=PW.d? (Yz c d) Zi
def SI{er:List Expr}(c:PT X a (n9 G f))(d:PW X (.BoolOp .Or (b::er) pos) (n9 G g)):PW X (.BoolOp .Or (a::b::er) pos) (n9 G (ya f g)):=PW.d? (ach c d) acR
def v7(f g:FE):FE:=λb=>match f b with
 |some (.I γ,a)=>g a
 |some (.I δ,a)=>Z (.I δ,a)
 |_=>J
def S?(f g:FE):FE:=λb=>match f b with
 |some (.I δ,a)=>g a
 |some (.I γ,a)=>Z (.I γ,a)
 |_=>J
def D5(f:FE):FE:=λc=>match f c with
 |some (.I b,a)=>Z (.I !b,a)
 |_=>J
def yr(c:FT)(f g:FE):FE:=λb=>match c b with
 |some (γ,a)=>f a
 |some (δ,a)=>g a
 |none=>J
def Zj{b}(h:PE X a (tF G f)):PE X (.BoolOp b [a] pos) (tF G f):=YB h
def MU{f:FE}{ρ:aQ}:(∃a,f ρ=Z (.I γ,a))\/(∃a,f ρ=Z (.I δ,a))\/(∀b a,f ρ≠Z (.I b,a)):=by
 by_cases c:∃a,f ρ=Z (.I γ,a)
 .exact .inl c
 by_cases d:∃a,f ρ=Z (.I δ,a)
 .exact .inr (.inl d)
 refine .inr (.inr λb a z=>?_);cases b with
 |true=>exact c ⟨a,z⟩
 |false=>exact d ⟨a,z⟩
def QW(h:∀b a,f ρ≠Z (.I b,a)):v7 f g ρ=J:=by
 unfold v7;split
 .rename_i e;exact aq e (h _ _)
 .rename_i e;exact aq e (h _ _)
 .rfl
def SJ(h:∀b a,f ρ≠Z (.I b,a)):S? f g ρ=J:=by
 unfold S?;split
 .rename_i e;exact aq e (h _ _)
 .rename_i e;exact aq e (h _ _)
 .rfl
def Zk{er:List Expr}(w:PE X a (tF G f))(x:PE X (.BoolOp .And (b::er) pos) (tF G g)):PE X (.BoolOp .And (a::b::er) pos) (tF G (v7 f g)):=PE.d? (YC w x) λC H Q y=>by
 obtain⟨F,j,p,d,i,R,e,k⟩:=y;rcases MU (f:=f) (ρ:=j)with ⟨c,h⟩|⟨c,h⟩|h
 .have o:g c=Z (d,i):=by unfold v7 at e;simp only[h]at e;exact e
  refine⟨F,j,p,_,c,R,h,λv q l s m r=>?_⟩;unfold cb at r;refine⟨γ,r,?_⟩;exact LI ⟨F,c,q,d,i,m,o,λv B u A R2 z=>k _ _ _ (s.t A) R2 z⟩
 .have o:Z (D.I δ,c)=Z (d,i):=by unfold v7 at e;simp only[h]at e;exact e
  cases o;refine⟨F,j,p,_,_,R,h,λv q l s m r=>?_⟩;have t:=r;unfold cb at t;refine⟨δ,t,?_⟩;exact LH (k _ _ _ s m (x9 δ))
 .rw[QW h]at e;cases e
def acS{er:List Expr}(u:PE X a (tF G f))(w:PE X (.BoolOp .Or (b::er) pos) (tF G g)):PE X (.BoolOp .Or (a::b::er) pos) (tF G (S? f g)):=PE.d? (ack u w) λB H Q x=>by
 obtain⟨F,j,p,d,i,R,e,k⟩:=x;rcases MU (f:=f) (ρ:=j)with ⟨c,h⟩|⟨c,h⟩|h
 .have o:Z (D.I γ,c)=Z (d,i):=by unfold S? at e;simp only[h]at e;exact e
  cases o;refine⟨F,j,p,_,_,R,h,λv q l s m r=>?_⟩;unfold cb at r;refine⟨γ,r,?_⟩;exact LI (k _ _ _ s m (x9 γ))
 .have o:g c=Z (d,i):=by unfold S? at e;simp only[h]at e;exact e
  refine⟨F,j,p,_,c,R,h,λv q l s m r=>?_⟩;unfold cb at r;refine⟨δ,r,?_⟩;exact LH ⟨F,c,q,d,i,m,o,λv A t z R2 y=>k _ _ _ (s.t z) R2 y⟩
 .rw[SJ h]at e;cases e
def Zl(l:PE X a (tF G f)):PE X (.UnaryOp .Not a pos) (tF G (D5 f)):=PE.d? (YD l) λu H Q m=>by
 obtain⟨F,o,c,d,p,R,e,k⟩:=m;unfold D5 at e;split at e
 .rename_i b q j;cases e;refine⟨F,o,c,_,_,R,j,λv t h s i r=>?_⟩;unfold cb at r;exact⟨b,r,k _ _ _ s i (x9 _)⟩
 .cases e
def acT(B:PT X c (n9 G h))(z:PE X a (tF G f))(A:PE X b (tF G g)):PE X (.IfExp c a b pos) (tF G (yr h f g)):=PE.d? (RX B z A) λE H Q C=>by
 obtain⟨F,u,w,d,j,R,e,k⟩:=C;unfold yr at e;cases l:h u with
 |none=>simp only[l]at e;cases e
 |some p=>
  obtain⟨b,i⟩:=p;refine⟨F,u,w,b,i,R,l,λr x s t=>?_⟩;cases b with
  |true=>simp only[l]at e;exact LI ⟨F,i,r,d,j,t,e,λv y m q R2 o=>k _ _ _ (s.t q) R2 o⟩
  |false=>simp only[l]at e;exact LH ⟨F,i,r,d,j,t,e,λv y m q R2 o=>k _ _ _ (s.t q) R2 o⟩
noncomputable def vB:FA:=λa=>Z ([],a)
noncomputable def ax(f:FE) (g:FA):FA:=λe=>match f e with
 |some (d,a)=>match g a with
  |some (c,b)=>Z (d::c,b)
  |none=>J
 |none=>J
def Oi(h:ax f g i=Z (j,c)):∃d r a,f i=Z (d,a)/\g a=Z (r,c)/\j=d::r:=by
 unfold ax at h;cases e:f i with
 |none=>rw[e]at h;cases h
 |some p=>
  obtain⟨x,a⟩:=p;simp only[e]at h;cases b:g a with
  |none=>simp only[b]at h;cases h
  |some q=>obtain⟨y,l⟩:=q;simp only[b]at h;cases h;exact⟨x,y,a,O,b,O⟩
def yD:PA X [] (vo G vB):=PA.d? zP λh H Q a=>by obtain⟨F,f,c,d,b,R,e,k⟩:=a;cases e;exact k _ _ _ (ve.refl _) R vM
def wZ(t:PE X e (tF G f))(w:PA X b (vo G g))(y:aC (e::b) X.b1=(δ,eval e X.b1)::aC b X.b1:=by rfl):PA X (e::b) (vo G (ax f g)):=PA.d? (xi t w y) λE H Q u=>by obtain⟨F,A,i,d,c,R,e,k⟩:=u;obtain⟨x,r,a,p,q,rfl⟩:=Oi e;exact⟨F,A,i,x,a,R,p,λv j l s o z=>⟨F,a,j,r,c,o,q,λC B m h R2 rs=>k _ _ _ (s.t h) R2 (vR (cb.mono h _ _ z) rs)⟩⟩
def vC(g:FA):FE:=λc=>match g c with
 |some (b,a)=>if b.length<=1000 then Z (.du b,a)else J
 |none=>J
def vp(g:FA):FA:=λc=>match g c with
 |some (b,a)=>if b.length<=1000 then Z (b,a)else J
 |none=>J
def Zm{q}(h:PA X l (vo G g)):PE X (.Tuple l q pos) (tF G (vC g)):=PE.d? (Si h) λy H Q m=>by
 obtain⟨F,f,i,d,r,R,e,k⟩:=m;unfold vC at e;cases b:g f with
 |none=>simp only[b]at e;cases e
 |some p=>
  obtain⟨w,t⟩:=p;simp only[b]at e;split at e
  .rename_i o;cases e;refine⟨F,f,i,_,_,R,b,λx u j s a rs=>⟨by rw[<-uV rs];exact x8 o,λp c=>?_⟩⟩;exact k _ _ _ (s.t (vw (a.f5 c) _)) (a.P? c _) (EV (ij.of vb) (uQ.mono (vw (a.f5 c) _) _ _ rs))
  .cases e
def Wc(h:PA X l (vo G g)):PE X (.List l pos) (z3 G (vp g)):=PE.d? (Sj h) λx H Q m=>by
 obtain⟨F,f,i,d,q,R,e,k⟩:=m;unfold vp at e;cases c:g f with
 |none=>simp only[c]at e;cases e
 |some p=>
  obtain⟨u,r⟩:=p;simp only[c]at e;split at e
  .rename_i o;cases e;refine⟨F,f,i,_,_,R,c,λw t j s a rs=>⟨by rw[<-uV rs];exact x8 o,λp b=>?_⟩⟩;exact k _ _ _ _ s (a.l7 b _) vb (a.f5 b) (a.i1 b) (a.apart b) rs
  .cases e
def cL(g:FA):FE:=λc=>match g c with
 |some (b,a)=>Z (.bt b,a)
 |none=>J
def Wd(h:cL g c=Z (d,b)):∃a,g c=Z (a,b)/\d=.bt a:=by
 unfold cL at h;cases e:g c with
 |none=>simp only[e]at h;cases h
 |some p=>obtain⟨a,f⟩:=p;simp only[e]at h;cases h;exact⟨a,O,O⟩
def tN_F:∀c H Q,tF G (cL g) c H Q->z3 G g c H Q:=λc H Q q=>by obtain⟨F,t,f,d,b,R,e,k⟩:=q;obtain⟨l,m,rfl⟩:=Wd e;refine⟨F,t,f,l,b,R,m,λp w u h s i r a o j rs=>?_⟩;exact k _ _ _ (s.t (vw a _)) (i.ri r a o j) (BZ vb (uQ.mono (vw a _) _ _ rs))
def Zn(h:PE X e (z3 G g)):PE X e (tF G (cL g)):=PE.d? h tN_F
end
inductive tf where
 |nx (ρ:aQ)|bk (ρ:aQ)|ct (ρ:aQ)
 |rt (d:D) (ρ:aQ)
 |X (ds:bp) (ρ:aQ)
abbrev FS:=aQ->Option tf
def Pl(G:Bg)(F:Fr)(f:Hp)(E:ψ):tf->Prop
 |.nx c=>∀b a e,ve f a->vy G F b c a e->E.nx b e
 |.bk c=>∀b a e,ve f a->vy G F b c a e->E.bk b e
 |.ct c=>∀b a e,ve f a->vy G F b c a e->E.ct b e
 |.rt d c=>∀v b a e,ve f a->vy G F b c a e->cb G a d v->E.rt v e
 |.X i c=>∀p h b a e,ve f a->vy G F b c a e->e p=Z (.bt h)->a p=J->F.B p=J->rf b c p->uQ G a i h->E.rt (.ref p) e
def mq(G:Bg)(f:FS):TS:=λE c H=>∃F b a o,vy G F c b a H/\f b=Z o/\Pl G F a E o/\(∀p,E.rt p=E.rt p)
def Pl.J?(h:Pl G F i E o)(s:ve i j):Pl G F j E o:=by
 cases o with
 |nx f=>exact λb a c e R=>h b a c (s.t e) R
 |bk f=>exact λb a c e R=>h b a c (s.t e) R
 |ct f=>exact λb a c e R=>h b a c (s.t e) R
 |rt d f=>exact λv b a c e R=>h v b a c (s.t e) R
 |X m f=>exact λp l b a c e R=>h p l b a c (s.t e) R
def PS.d?(h:PS X e t)(w:∀E b H,t' E b H->t E b H):PS X e t':=λa s b H D I c=>h a s b H D I (w _ _ _ c)
def p5.d?(h:p5 X e t)(w:∀E b H,t' E b H->t E b H):p5 X e t':=λa s b H D I c=>h a s b H D I (w _ _ _ c)
def uZ:FS:=λa=>Z (.nx a)
noncomputable def uO(f g:FS):FS:=λb=>match f b with
 |some (.nx a)=>g a
 |r=>r
section
variable{X:Cx}{G:Bg}
def Zo(h:mq G uZ E a H):E.nx a H:=by obtain⟨F,c,b,o,R,e,k,_⟩:=h;cases e;exact k _ _ _ (ve.refl _) R
def We:p5 X [] (mq G uZ):=p5.d? VB λE a H h=>Zo h
def SK{st:Stmt}{er:List Stmt}(p:PS X st (mq G f))(q:p5 X er (mq G g)):p5 X (st::er) (mq G (uO f g)):=p5.d? (Iq p q) λE w H h=>by
 obtain⟨F,i,j,o,R,e,k,c⟩:=h;unfold uO at e;cases a:f i with
 |none=>simp only[a]at e;cases e
 |some r=>
  cases r with
  |nx b=>simp only[a]at e;exact⟨F,i,j,_,R,a,λt l u s m=>⟨F,b,l,o,m,e,k.J? s,c⟩,c⟩
  |bk b=>simp only[a]at e;cases e;exact⟨F,i,j,_,R,a,k,c⟩
  |ct b=>simp only[a]at e;cases e;exact⟨F,i,j,_,R,a,k,c⟩
  |rt d b=>simp only[a]at e;cases e;exact⟨F,i,j,_,R,a,k,c⟩
  |X d b=>simp only[a]at e;cases e;exact⟨F,i,j,_,R,a,k,c⟩
def Wf{st:Stmt}(a:PS X st (mq G f)):p5 X [st] (mq G f):=Lr a
noncomputable def uT(f:FE):FS:=λb=>match f b with
 |some (d,a)=>Z (.rt d a)
 |none=>J
noncomputable def wJ(f:FA):FS:=λb=>match f b with
 |some (d,a)=>Z (.X d a)
 |none=>J
def vF{b:Type}{f:aQ->Option (b×aQ)}{ρ:aQ}:f ρ=J\/∃d a,f ρ=Z (d,a):=by
 cases e:f ρ with
 |none=>exact .inl O
 |some p=>exact .inr ⟨p.1,p.2,O⟩
def Wg(h:PE X e (tF G f)):PS X (.Return (Z e) pos) (mq G (uT f)):=PS.d? (NZ h) λE t H m=>by
 obtain⟨F,b,i,o,R,e,k,q⟩:=m;unfold uT at e;rcases vF (f:=f) (ρ:=b)with a|⟨d,c,a⟩<;>simp only[a]at e
 .cases e
 .cases e;exact⟨F,b,i,d,c,R,a,λv j p s l r=>k _ _ _ _ s l r⟩
def SL(h:PE X e (z3 G f)):PS X (.Return (Z e) pos) (mq G (wJ f)):=PS.d? (NZ h) λE A H w=>by
 obtain⟨F,b,i,o,R,e,k,y⟩:=w;unfold wJ at e;rcases vF (f:=f) (ρ:=b)with a|⟨d,c,a⟩<;>simp only[a]at e
 .cases e
 .cases e;exact⟨F,b,i,d,c,R,a,λp z j x s l m q r t u=>k _ _ _ _ _ s l m q r t u⟩
noncomputable def vG(f:FE):FS:=λb=>match f b with
 |some (_,a)=>Z (.nx a)
 |none=>J
def SM{pos:Pos}(h:PE X e (tF G f))(p:dG e J pos.line X.b1=pure δ:=by rfl):PS X (.Expr e pos) (mq G (vG f)):=PS.d? (O2 h p) λE u H m=>by
 obtain⟨F,b,i,o,R,e,k,t⟩:=m;unfold vG at e;rcases vF (f:=f) (ρ:=b)with a|⟨d,c,a⟩<;>simp only[a]at e
 .cases e
 .cases e;exact⟨F,b,i,d,c,R,a,λv j q s l r=>k _ _ _ s l⟩
noncomputable def fh(c:FT) (f g:FS):FS:=λb=>match c b with
 |some (γ,a)=>f a
 |some (δ,a)=>g a
 |none=>J
def Zp(w:PT X c (n9 G h))(t:p5 X a (mq G f))(u:p5 X b (mq G g)):PS X (.If c a b pos) (mq G (fh h f g)):=PS.d? (aco w t u) λE z H x=>by
 obtain⟨F,m,r,o,R,e,k,q⟩:=x;unfold fh at e;rcases vF (f:=h) (ρ:=m)with l|⟨d,i,l⟩
 .simp only[l]at e;cases e
 .refine⟨F,m,r,d,i,R,l,λj y s p=>?_⟩;cases d with
  |true=>simp only[l]at e;exact LI ⟨F,i,j,o,p,e,k.J? s,q⟩
  |false=>simp only[l]at e;exact LH ⟨F,i,j,o,p,e,k.J? s,q⟩
abbrev FG:=D->aQ->Option aQ
def tFG(G:Bg)(n:Nat)(g:FG):TG:=λv f H Q=>∃F e c d b,vy G F f e c H/\cb G c d v/\g d e=Z b/\∀a,a.drop n=f.drop n->vy G F a b c H->Q a H
def QX(G:Bg)(n:Nat)(g:bp->aQ->Option aQ):TGs:=λh f H Q=>∃F e c d b,vy G F f e c H/\uQ G c d h/\g d e=Z b/\∀a,a.drop n=f.drop n->vy G F a b c H->Q a H
def PG.d?(h:PG X e t)(w:∀v b H Q,t' v b H Q->t v b H Q):PG X e t':=λa s b H x u Q I r c=>h a s b H x u Q I r (w _ _ _ _ c)
def R'.d?(h:R' X e t)(w:∀v b H Q,t' v b H Q->t v b H Q):R' X e t':=λa s b H x u Q I r c=>h a s b H x u Q I r (w _ _ _ _ c)
def gN(i:Nat):FG:=λd a=>Z (a.set i (.z d))
def MV{a:Type}{l:List a}{i n:Nat}{x:a}(h:i<n):(l.set i x).drop n=l.drop n:=by apply lj;intro j;rw[fj,fj,b8,ao (by omega)]
def SN(n:Nat)(h:PG X c (AU i))(b:i<n):PG X c (tFG G n (gN i)):=PG.d? h λv m H Q a=>by obtain⟨F,l,j,d,f,R,r,e,k⟩:=a;cases e;exact k _ (MV b) (R.setIm i r)
def Kz:bp->aQ->Option aQ:=λa b=>match a with
 |[]=>Z b
 |_=>J
def yJ(g:FG)(c:bp->aQ->Option aQ):bp->aQ->Option aQ:=λb e=>match b with
 |d::r=>match g d e with
  |some a=>c r a
  |none=>J
 |[]=>J
def Wh(h:R' X [] gNil):R' X [] (QX G n Kz):=R'.d? h λv j H Q b=>by
 obtain⟨F,i,f,a,c,R,r,e,k⟩:=b;cases a with
 |nil=>cases e;unfold uQ at r;exact⟨r,k _ O R⟩
 |cons d a=>cases e
def SO(h:R' X (e::p) (XH (tFG G n g) (QX G n q))):R' X (e::p) (QX G n (yJ g q)):=R'.d? h λv B H Q t=>by
 obtain⟨F,l,j,c,i,R,r,e,k⟩:=t;cases c with
 |nil=>cases e
 |cons d c=>
  unfold uQ at r;obtain⟨z,x,rfl,u,w⟩:=r;unfold yJ at e;cases f:g d l with
  |none=>simp only[f]at e;cases e
  |some a=>simp only[f]at e;exact⟨z,x,O,F,l,j,d,a,R,u,f,λA s o=>⟨F,a,j,c,i,o,w,e,λm y b=>k _ (y.t s) b⟩⟩
def gT(b:bp->aQ->Option aQ)(n:Nat):FG:=λd c=>match d with
 |.du a=>if a.length=n then b a c else J
 |_=>J
def Wi(h:PG X (.Tuple j k pos) (YE G.K m (QX G n l))):PG X (.Tuple j k pos) (tFG G n (gT l m)):=PG.d? h λv w H Q p=>by
 obtain⟨F,u,f,d,b,R,r,e,k⟩:=p;cases d with
 |du i=>
  unfold gT at e;simp only at e;split at e
  .rename_i q;unfold cb at r;obtain⟨a,t,rfl,o,c⟩:=r;exact⟨a,t,O,ij.mono R.sub o,by rw[<-uV c];exact q,F,u,f,i,b,R,c,e,k⟩
  .cases e
 |_=>cases e
def EY(f:FE)(g:FG):FS:=λc=>match f c with
 |some (d,a)=>match g d a with
  |some b=>Z (.nx b)
  |none=>J
 |none=>J
def Wj{st:Stmt}(h:PS X st (Ep (tF G f) (tFG G n g))):PS X st (mq G (EY f g)):=PS.d? h λE x H q=>by
 obtain⟨F,j,m,o,R,e,k,w⟩:=q;unfold EY at e;rcases vF (f:=f) (ρ:=j)with c|⟨d,a,c⟩<;>simp only[c]at e
 .cases e
 .cases i:g d a with
  |none=>simp only[i]at e;cases e
  |some l=>simp only[i]at e;cases e;exact⟨F,j,m,d,a,R,c,λv b u s p r=>⟨F,a,b,d,l,p,r,i,λt _ R2=>k _ _ _ s R2⟩⟩
def vc(i:Nat)(f:FE):FS:=λb=>match f b with
 |some (d,a)=>Z (.nx (a.set i (.z d)))
 |none=>J
def Pm{st:Stmt}(h:PS X st (Ep (tF G f) (AU i))):PS X st (mq G (vc i f)):=PS.d? h λE u H p=>by
 obtain⟨F,b,j,o,R,e,k,t⟩:=p;unfold vc at e;rcases vF (f:=f) (ρ:=b)with a|⟨d,c,a⟩<;>simp only[a]at e
 .cases e
 .cases e;exact⟨F,b,j,d,c,R,a,λv l q s m r=>k _ _ _ s (m.setIm i r)⟩
def yw(i:Nat)(f:FA):FS:=λb=>match f b with
 |some (d,a)=>Z (.nx (a.set i (.O d)))
 |none=>J
def MW{st:Stmt}(h:PS X st (Ep (z3 G f) (AU i))):PS X st (mq G (yw i f)):=PS.d? h λE B H x=>by
 obtain⟨F,b,j,o,R,e,k,z⟩:=x;unfold yw at e;rcases vF (f:=f) (ρ:=b)with a|⟨d,c,a⟩<;>simp only[a]at e
 .cases e
 .cases e;exact⟨F,b,j,d,c,R,a,λp A l y s m q r t u w=>k _ _ _ s (m.setLs i q r t u w)⟩
def Hs(n:Nat)(a:bp):aQ:=a.map Sl.z++bU (n - a.length) .un
def fb(b n:Nat)(f:FS):bp->Option D:=λa=>if a.length=b then match f (Hs n a)with
 |some (.rt d _)=>Z d
 |some (.X a _)=>Z (.bt a)
 |some (.nx _)=>Z .E
 |_=>J
 else J
def yq(b n:Nat)(f:FS):bp->Option bp:=λa=>if a.length=b then match f (Hs n a)with
 |some (.X a _)=>Z a
 |_=>J
 else J
def fu(G:Bg)(g:bp->Option D):Sp:=λh H Q _=>∃c f d,ve c H/\uQ G c f h/\g f=Z d/\
 ∀v a e,ve c a->ve a e->ve H e->(∀b o,a b=Z o->c b=Z o\/H b=J)->cb G a d v->Q v e
def ub(G:Bg)(g:bp->Option bp):Sp:=λi H Q _=>∃e f d,ve e H/\uQ G e f i/\g f=Z d/\
 ∀p h a c,ve e a->ve a c->ve H c->(∀b o,a b=Z o->e b=Z o\/H b=J)->H p=J->c p=Z (.bt h)->a p=J->uQ G a d h->Q (.ref p) c
def Ia{n:Nat}{b:bp}{i:Nat}{s:Sl}(h:(Hs n b)[i]?=Z s):s=.un\/∃d,b[i]?=Z d/\s=.z d:=by
 unfold Hs at h;by_cases a:i<b.length
 .rw[fR (by simpa using a),bA,bh a]at h;cases h;exact .inr ⟨_,bh a,O⟩
 .rw[fQ (by simpa using a),jr]at h;split at h
  .cases h;exact .inl O
  .cases h
def BD{N:aF}{a:bN}{i:Nat}{v:V}(h:a[i]?=Z v):((L2.start N a)[i]?).join=Z v:=by unfold L2.start;have b:=(cj.1 h).1;rw[fR (by simpa using b),bA,h];rfl
def KA{N:aF}(s:ve H0 H)(r:uQ G H0 ds vs)(p:vs.length<=N.length):vy G ⟨H0,H,[]⟩ (L2.start N vs) (Hs N.length ds) H0 H where
 sub:=s
 g0:=ve.refl _
 keep:=λb o e _=>e
 fr:=λb o e=>.inl e
 am:=λa h=>by cases h
 len:=by unfold L2.start Hs;rw[aE,aE,ah,ah,cY,cY,uV r]
 sl:=λi t e=>by
  rcases Ia e with rfl|⟨d,c,rfl⟩
  .trivial
  .obtain⟨v,f,l⟩:=zF r c;exact⟨v,BD f,l⟩
 ap:=λi j t u a _ e _ m=>by rcases Ia e with rfl|⟨d,_,rfl⟩<;>cases m
def MX(h:fb j n f b=Z d):b.length=j/\((∃a,f (Hs n b)=Z (.rt d a))\/(∃c a,f (Hs n b)=Z (.X c a)/\d=.bt c)\/∃a,f (Hs n b)=Z (.nx a)/\d=.E):=by
 unfold fb at h;split at h
 .rename_i i;refine⟨i,?_⟩;split at h
  .rename_i e;cases h;exact .inl ⟨_,e⟩
  .rename_i e;cases h;exact .inr (.inl ⟨_,_,e,O⟩)
  .rename_i e;cases h;exact .inr (.inr ⟨_,e,O⟩)
  .cases h
 .cases h
def MY(h:yq c n f a=Z d):a.length=c/\∃i,f (Hs n a)=Z (.X d i):=by
 unfold yq at h;split at h
 .rename_i b;refine⟨b,?_⟩;split at h
  .rename_i e;cases h;exact⟨_,e⟩
  .cases h
 .cases h
end
def Wk{N:aF}(hN:I<=N.length)(h:fu G (fb I N.length f) P H Q E):mq G f { nx:=λ_ c=>Q .E c,rt:=Q } (L2.start N P) H:=by
 obtain⟨l,S,d,s,r,e,k⟩:=h;obtain⟨C,A⟩:=MX e;clear e;have R:=KA (N:=N) s r (by rw[<-uV r,C];exact hN);have fin:∀{j:St} {x:aQ} {a c:Hp},vy G ⟨l,H,[]⟩ j x a c->ve H c/\ve a c/\∀b o,a b=Z o->l b=Z o\/H b=J:=λi=>⟨λb o e=>i.keep b o e (by simp),i.sub,i.fr⟩;rcases A with ⟨y,e⟩|⟨T,y,e,rfl⟩|⟨y,e,rfl⟩
 .refine⟨_,_,l,_,R,e,λv j a c u i M=>?_,λ_=>O⟩;obtain⟨m,q,t⟩:=fin i;exact k v a c u q m t M
 .refine⟨_,_,l,_,R,e,λp U j a c u i F w B z rs=>?_,λ_=>O⟩;have R2:=i.ri F w B z;obtain⟨m,q,t⟩:=fin R2;exact k _ _ c (u.t (vw w _)) q m t (BZ vb (uQ.mono (vw w _) _ _ rs))
 .refine⟨_,_,l,_,R,e,λj a c u i=>?_,λ_=>O⟩;obtain⟨m,q,t⟩:=fin i;exact k _ a c u q m t AW
def Wl{N:aF}(hN:u<=N.length)(h:ub G (yq u N.length f) x H Q E):mq G f { nx:=λ_ a=>Q .E a,rt:=Q } (L2.start N x) H:=by obtain⟨j,B,d,s,r,e,k⟩:=h;obtain⟨q,C,e⟩:=MY e;have R:=KA (N:=N) s r (by rw[<-uV r,q];exact hN);refine⟨_,_,j,_,R,e,λp y z c a w i t l m A rs=>?_,λ_=>O⟩;exact k p y c a w i.sub (λb o e=>i.keep b o e (by simp)) i.fr m t l rs
def acV(c:∀a d,g a=Z d->a.length=f):∀b H Q E,fu G g b H Q E->b.length=f:=λb H Q E h=>by obtain⟨i,a,d,_,r,e,_⟩:=h;rw[<-uV r];exact c _ _ e
def acW(c:∀a d,g a=Z d->a.length=f):∀b H Q E,ub G g b H Q E->b.length=f:=λb H Q E h=>by obtain⟨i,a,d,_,r,e,_⟩:=h;rw[<-uV r];exact c _ _ e
def Wm:∀a d,fb b n f a=Z d->a.length=b:=λ_ _ h=>(MX h).1
def Wn:∀a d,yq b n f a=Z d->a.length=b:=λ_ _ h=>(MY h).1
def F9{c:Type}(g:bp->Option c)(a:FA):aQ->Option (c×aQ):=λf=>match a f with
 |some (e,b)=>match g e with
  |some d=>Z (d,b)
  |none=>J
 |none=>J
abbrev uM(g:bp->Option D)(a:FA):FE:=F9 g a
abbrev vK(g:bp->Option bp)(a:FA):FA:=F9 g a
def Er{j:Type}{g:bp->Option j}{a:FA}{ρ c:aQ}{d:j}(h:F9 g a ρ=Z (d,c)):∃b,a ρ=Z (b,c)/\g b=Z d:=by
 unfold F9 at h;rcases vF (f:=a) (ρ:=ρ)with e|⟨b,l,e⟩<;>simp only[e]at h
 .cases h
 .cases i:g b with
  |none=>simp only[i]at h;cases h
  |some x=>simp only[i]at h;cases h;exact⟨b,e,i⟩
section
variable{X:Cx}{G:Bg}
def Wo(hd:∀H,uQ G H dds dvs):∀h H Q,tF G (uM (λb=>g (b++dds)) a) h H Q->EO (fu G g) dvs E (vo G a) h H Q:=λh H Q t=>by obtain⟨F,y,l,d,f,R,e,k⟩:=t;obtain⟨b,q,r⟩:=Er e;refine⟨F,y,l,b,f,R,q,λz m o s i rs=>⟨m,b++dds,d,i.sub,xj rs (hd _),r,λv p c j w x fr u=>?_⟩⟩;exact k v p c (s.t j) (i.i0 x j w fr) u
def Wp(hd:∀H,uQ G H dds dvs):∀i H Q,z3 G (vK (λc=>g (c++dds)) a) i H Q->EO (ub G g) dvs E (vo G a) i H Q:=λi H Q x=>by obtain⟨F,I,m,d,h,R,e,k⟩:=x;obtain⟨c,t,u⟩:=Er e;refine⟨F,I,m,c,h,R,t,λM o q s b rs=>⟨o,c++dds,d,b.sub,xj rs (hd _),u,λp C r f l A B fr j y w z=>?_⟩⟩;exact k p C r f (s.t l) (b.i0 B l A fr) y w (b.i1 j) (b.apart j) z
end
section
variable{X:Cx}{G:Bg}
def Wq(hd:∀H,uQ G H dds dvs)(h:PE X e (EO (fu G g) dvs E (vo G a))):PE X e (tF G (uM (λb=>g (b++dds)) a)):=PE.d? h (Wo hd)
def SQ(hd:∀H,uQ G H dds dvs)(h:PE X e (EO (ub G g) dvs E (vo G a))):PE X e (z3 G (vK (λb=>g (b++dds)) a)):=PE.d? h (Wp hd)
def QY(h:PE X e (EO (ub G g) [] E JZ)):PE X e (z3 G (vK g vB)):=PE.d? h λA H Q o=>by obtain⟨F,z,f,d,x,R,e,k⟩:=o;obtain⟨y,j,l⟩:=Er e;cases j;exact⟨f,[],d,R.sub,vM,l,λp w i a c t u fr b q m r=>k p w i a c (R.i0 u c t fr) q m (R.i1 b) (R.apart b) r⟩
def QZ:aF->bp->Str->Option D
 |n::b,d::a,f=>if n=f then Z d else QZ b a f
 |_,_,_=>J
theorem KB:∀{h:aF} {b:bp} {a:bN} {f:Str} {d:D},uQ G H b a->QZ h b f=Z d->∃v,(h.zip a).lookup f=Z v/\cb G H d v
 |[],b,a,f,d,r,e=>by simp[QZ]at e
 |n::h,[],a,f,d,r,e=>by simp[QZ]at e
 |n::h,p::b,a,f,d,r,e=>by
  unfold uQ at r;obtain⟨v,q,rfl,l,m⟩:=r;unfold QZ at e;by_cases c:n=f
  .rw[ak c]at e;cases e;subst c;exact⟨v,by simp[dE],l⟩
  .rw[ao c]at e;obtain⟨w,i,j⟩:=KB m e;refine⟨w,?_,j⟩;have o:(f==n)=δ:=beq_eq_false_iff_ne.2 λz=>c z.symm;simp only[fm,dE,o];exact i
def uS(ok:Nat->Bool)(f:Str):D->Option D
 |.obj c b a=>if ok c=γ then QZ b a f else J
 |_=>J
def SR(A:PE X e (tF G t))(j:∀c,ok c=γ->W1 X.K (G.ca c)/\An X.K (G.ca c) f)(z:fI e f X.b1 (eval e X.b1)=eval e X.b1:=by rfl):PE X (.Attribute e f pos) (tF G (c1 (uS ok f) t)):=PE.d? (YU A z) λU H Q B=>by
 obtain⟨F,I,m,d,h,R,e,k⟩:=B;obtain⟨x,q,b⟩:=EW e;cases x with
 |obj c S N=>
  unfold uS at b;simp only at b;split at b
  .rename_i l;refine⟨F,I,m,_,h,R,q,λv M o s i r=>?_⟩;unfold cb at r;obtain⟨a,p,T,rfl,u,P,y⟩:=r;obtain⟨w,C,E⟩:=KB y b;exact⟨a,_,p,_,w,O,i.sub _ _ u,(j c l).1,(j c l).2,C,k _ _ _ s i E⟩
  .cases b
 |_=>cases b
def MOk(X:Cx)(C:Addr)(m:Str)(d:Sp)(dvs:bN)(E:XK):Prop:=∃(k:Nat) (f:Addr) (b:bV) (c:aF) (a:List ab),W1 X.K C/\Meth X.K C m f/\zm X.prog X.w X.K X.mg X.b? H? k f b c d/\xA k X.A/\l? X.K b c a/\ef dvs a/\rm H? X E
def vh(g:Nat->Option (bp->Option D))(m:Str)(f:FE)(a:FA):FE:=λo=>match f o with
 |some (.obj c i j,b)=>match g c with
  |some h=>if i.contains m=γ then J else match a b with
   |some (l,e)=>match h (.obj c i j::l)with
    |some d=>Z (d,e)
    |none=>J
   |none=>J
  |none=>J
 |_=>J
def II(h:vh g m f a ρ=Z (d,t)):
  ∃c e i b l j,f ρ=Z (.obj c e i,b)/\g c=Z l/\e.contains m=δ/\a b=Z (j,t)/\l (.obj c e i::j)=Z d:=by
 unfold vh at h;split at h
 .rename_i c e i b u;cases o:g c with
  |none=>simp only[o]at h;cases h
  |some l=>
   simp only[o]at h;cases p:e.contains m with
   |true=>simp only[p,if_true]at h;cases h
   |false=>
    simp only[p,eG,if_false]at h;rcases vF (f:=a) (ρ:=b)with q|⟨j,w,q⟩<;>simp only[q]at h
    .cases h
    .cases r:l (.obj c e i::j)with
     |none=>simp only[r]at h;cases h
     |some x=>simp only[r]at h;cases h;exact⟨c,e,i,b,l,j,u,o,p,q,r⟩
 .cases h
theorem Es:∀{a:aF} {b:bN},a.contains m=δ->(a.zip b).lookup m=J
 |[],b,h=>rfl
 |n::a,[],h=>rfl
 |n::a,x::b,h=>by rw[pe,kR]at h;simp only[fm,dE,h.1];exact Es h.2
def SU(T:Addr->Sp->Prop)(hT:∀C d,T C d->MOk X C m d dvs E)(he:PE X o ta)(W:PA X (e::i) t)
  (hst:aC (e::i) X.b1=(δ,eval e X.b1)::aC i X.b1:=by rfl) (hpl:(bE pos (aC i X.b1)).any (·.1)=δ:=by rfl)
  (w:eval (.Call (.Attribute o m apos) (e::i) [] pos) X.b1=(do
   let P<-eval o X.b1
   standAt apos.atName
   let (f,first)<-holding [P] (getMethod P m pl)
   callWith pos f first (bE pos (aC (e::i) X.b1)) (backToKw pos (d8 [] X.b1))):=by rfl):
  PE X (.Call (.Attribute o m apos) (e::i) [] pos) (λj H Q=>ta j H λx p=>∃a C B fs d,x=.ref a/\p a=Z (.nj C B fs)/\T C d/\fs.lookup m=J/\t j p λvs y=>d (x::(vs++dvs)) y Q E):=by
 intro b s j H Q I h;refine qa (pl:=pl) (fy (he b s j H _ I h) λu s1 zz=>?_) w;obtain⟨x,p,z,rx,a,C,B,fs,d,U,S,w,l,q⟩:=zz;obtain⟨k,f,fd,ps,ds,c,M,F,hr,Y,hd,hx⟩:=hT C d w;subst U;obtain rfl:u=Value.ref a:=rx;refine Iu z S c M l ?_;refine mI (first:=[.ref a]) (h₀:=X.b?) I.ok.Hj.kin M.kp (fy (W pos b s1 j p _ z q) λR s2 ⟨vs,y,A,r,q2⟩=>⟨A.qi,?_⟩) hst hpl;exact Lv (us:=.ref a::R) (vs:=.ref a::vs) F hr Y hd hx A (.cons O r) q2
def Q0(T:Addr->Sp->Prop)(hT:∀C b,T C b->MOk X C m b dvs E)(B:PE X o R)
  (j:eval (.Call (.Attribute o m apos) [] [] pos) X.b1=(do
   let w<-eval o X.b1
   standAt apos.atName
   let (f,first)<-holding [w] (getMethod w m pl)
   callWith pos f first (bE pos (aC [] X.b1)) (backToKw pos (d8 [] X.b1))):=by rfl):
  PE X (.Call (.Attribute o m apos) [] [] pos) (λp H Q=>R p H λx e=>∃a C r fs b,x=.ref a/\e a=Z (.nj C r fs)/\T C b/\fs.lookup m=J/\b (x::dvs) e Q E):=by
 intro d s p H Q I h;refine qa (pl:=pl) (fy (B d s p H _ I h) λu Y zz=>?_) j;obtain⟨x,e,i,P,a,C,r,fs,b,z,y,j,l,q⟩:=zz;obtain⟨k,f,U,W,S,c,t,F,M,A,hd,N⟩:=hT C b j;subst z;obtain rfl:u=Value.ref a:=P;refine Iu i y c t l ?_;exact mh (first:=[.ref a]) i.qi t.kp (Lv (us:=[.ref a]) (vs:=[.ref a]) F M A hd N i (.cons O .nil) q)
def MT(G:Bg)(g:Nat->Option (bp->Option D)):Addr->Sp->Prop:=λC a=>∃c h,g c=Z h/\C=G.ca c/\a=fu G h
def Wr(h:PE X (.Call (.Attribute o m apos) (e::es) [] pos) (λz H Q=>tF G f z H λx j=>∃b C u fs I,x=.ref b/\j b=Z (.nj C u fs)/\MT G g C I/\fs.lookup m=J/\vo G a z j λvs p=>I (x::(vs++[])) p Q E)):
  PE X (.Call (.Attribute o m apos) (e::es) [] pos) (tF G (vh g m f a)):=PE.d? h λz H Q l=>by
 obtain⟨F,ρ,N,d,y,R,e,k⟩:=l;obtain⟨c,ns,ds,i,l,w,T,U,W,Y,e5⟩:=II e;refine⟨F,ρ,N,_,i,R,T,λv j P s A r=>?_⟩;have r0:=r;unfold cb at r;obtain⟨b,u,xs,rfl,h1,h2,h3⟩:=r;refine⟨b,_,u,_,_,O,A.sub _ _ h1,⟨c,l,U,O,O⟩,Es W,F,i,j,w,y,A,Y,λys p q B R2 rs=>?_⟩;show fu G l (V.ref b::(ys++[])) q Q E;rw[bR];exact⟨p,_,d,R2.sub,vR (cb.mono B _ _ r0) rs,e5,λv S t M t2 t3 fr rv=>k v S t (s.t (B.t M)) (R2.i0 t3 M t2 fr) rv⟩
def SV(h:PE X (.Call (.Attribute o m apos) [] [] pos) (λu H Q=>tF G f u H λx a=>∃b C l fs q,x=.ref b/\a b=Z (.nj C l fs)/\MT G g C q/\fs.lookup m=J/\q (x::[]) a Q E)):
  PE X (.Call (.Attribute o m apos) [] [] pos) (tF G (vh g m f vB)):=PE.d? h λu H Q p=>by
 obtain⟨F,ρ,w,d,ρ',R,e,k⟩:=p;obtain⟨c,ns,ds,ρ1,p,P,A,B,I,M,N⟩:=II e;cases M;refine⟨F,ρ,w,_,_,R,A,λv a y s j r=>?_⟩;have T:=r;unfold cb at r;obtain⟨b,l,xs,rfl,S,h2,h3⟩:=r;refine⟨b,_,l,_,_,O,j.sub _ _ S,⟨c,p,B,O,O⟩,Es I,?_⟩;exact⟨a,_,d,j.sub,vR T vM,N,λv z i t W Y fr U=>k v z i (s.t t) (j.i0 Y t W fr) U⟩
def spI(G:Bg)(c:Nat)(g:bp->Option (aF×bp)):Sp:=λr H Q _=>∃(p q:Addr) (m:bN) (d:Hp) (j:bp) (h:aF) (l:bp),r=.ref p::m/\H p=Z (.nj (G.ca c) q [])/\d p=J/\ve d H/\uQ G d j m/\g j=Z (h,l)/\
 ∀i f a e,ve d a->ve a e->(∀b o,H b=Z o->b≠p->e b=Z o)->(∀b o,a b=Z o->d b=Z o\/H b=J)->a p=J->e p=Z (.nj (G.ca c) f (h.zip i))->h.length=i.length->uQ G a l i->Q .E e
def vE(c:Nat)(g:bp->Option (aF×bp))(a:FA):FE:=λh=>match a h with
 |some (d,b)=>match g d with
  |some (f,e)=>Z (.obj c f e,b)
  |none=>J
 |none=>J
theorem Ws(hd:∀H,uQ G H dds dvs)(h:PE X e (XM (G.ca c) (spI G c g) dvs E (vo G a))):PE X e (tF G (vE c (λm=>g (m++dds)) a)):=PE.d? h λσ H Q hh=>by
 obtain⟨F,S,Y,d,T,R,e,k⟩:=hh;unfold vE at e;rcases vF (f:=a) (ρ:=S)with A|⟨m,ρ1,A⟩<;>simp only[A]at e
 .cases e
 .cases C:g (m++dds)with
  |none=>simp only[C]at e;cases e
  |some q=>
   obtain⟨ns,es⟩:=q;simp only[C]at e;cases e;refine⟨F,S,Y,m,T,R,A,λxs U j s l rs x r p hdx ne=>?_⟩;have N:(ff j r (.jj x)) x=J:=by rw[vn (λz=>ne z.symm)];exact p
   have P:ve j (ff (ff j r (.jj x)) x (.nj (G.ca c) r [])):=(vw hdx _).t (vw N _);refine⟨x,r,_,U,m++dds,ns,es,O,vb,l.f5 p,l.sub.t P,xj rs (hd _),C,λys y H2 w W t2 t3 fr M hp hl ry=>⟨O,?_⟩⟩;have t4:ve j w:=λb o e=>t3 b o (P b o e) (xZ e p);have I:∀b o,H2 b=Z o->U b=Z o\/j b=J:=λb o e=>by
    rcases fr b o e with q|q
    .exact .inl q
    .cases z:j b with
     |none=>exact .inr O
     |some u=>rw[P b u z]at q;cases q
   have R2:=l.i0 t4 W t2 I;have hb:F.B x=J:=l.i1 p;have R3:=R2.ri hp M hb (λi t ei to z=>l.apart p i t ei to z);refine k _ _ _ (s.t (W.t (vw M _))) R3 ?_;unfold cb;exact⟨x,y,ys,O,vb,hl,uQ.mono (vw M _) _ _ ry⟩
def vU(h:Nat)(i:Nat)(f:Str)(j:FE):FS:=λl=>match j l with
 |some (d,a)=>match a[i]? with
  |some (.ob c b e)=>if c=h then if b.contains f=γ then J else if e.length=b.length then if b.length<900 then Z (.nx (a.set i (.ob c (b++[f]) (e++[d]))))else J else J else J
  |_=>J
 |none=>J
theorem MZ:∀{ns:aF} {xs:bN},ns.contains f=δ->ns.length=xs.length->Bx f v (ns.zip xs)=(ns++[f]).zip (xs++[v])
 |[],[],h,l=>rfl
 |[],x::xs,h,l=>by cases l
 |n::ns,[],h,l=>by cases l
 |n::ns,x::xs,h,l=>by
  rw[pe,kR]at h;have a:¬n=f:=λz=>by rw[z]at h;simp at h
  have b:=MZ (f:=f) (v:=v) (ns:=ns) (xs:=xs) h.2 (by simpa using l);show Bx f v ((n,x)::ns.zip xs)=_;rw[show Bx f v ((n,x)::ns.zip xs)=(if n=f then (n,v)::ns.zip xs else (n,x)::Bx f v (ns.zip xs)) from O,ao a,b];rfl
def Wt{st:Stmt}(h:PS X st (sFld X.K (BU i) (tF G x) f))(y:W1 X.K (G.ca p)/\An X.K (G.ca p) f):PS X st (mq G (vU p i f x)):=PS.d? h λE σ H N=>by
 obtain⟨F,j,z,o,R,e,k,k2⟩:=N;unfold vU at e;rcases vF (f:=x) (ρ:=j)with b|⟨d,l,b⟩<;>simp only[b]at e
 .cases e
 .split at e
  .rename_i c P U t;split at e
   .rename_i hcc;subst hcc;split at e
    .cases e
    rename_i hnc;split at e
    .rename_i Y;split at e
     .rename_i W;cases e;refine⟨F,j,z,d,l,R,b,λv T A s m r=>?_⟩;obtain⟨a,q,Q,u,B,C,I,w,M⟩:=m.sl i _ t;refine⟨_,y7 u,a,_,q,_,O,B,y.1,y.2,by rw[iM];omega,?_⟩;have hnf:P.contains f=δ:=by simpa using hnc
      rw[MZ hnf w];refine k _ _ _ s (m.mut t O u (λS hH=>?_) O);exact⟨a,q,Q++[v],O,hH,C,I,by rw[aE,aE,w];rfl,xj M (vR r vM)⟩
     .cases e
    .cases e
   .cases e
  .cases e
def stI(c n:Nat)(ds:bp):aQ:=.ob c [] []::Hs (n - 1) ds
def v?(c h n:Nat)(f:FS):bp->Option (aF×bp):=λa=>if a.length=h then match f (stI c n a)with
 |some (.nx i)=>match (i:aQ)[0]? with
  |some (Sl.ob e d b)=>if e=c then if d.length=b.length then Z (d,b)else J else J
  |_=>J
 |_=>J
 else J
def IJ(h:v? c m n f b=Z q):b.length=m/\∃a,f (stI c n b)=Z (.nx a)/\a[0]?=Z (.ob c q.1 q.2)/\q.1.length=q.2.length:=by
 unfold v? at h;split at h
 .rename_i l;refine⟨l,?_⟩;split at h
  .rename_i a e;split at h
   .rename_i o r p d;split at h
    .rename_i j;split at h
     .rename_i i;subst j;cases h;exact⟨a,e,d,i⟩
     .cases h
    .cases h
   .cases h
  .cases h
 .cases h
def Pn{N:aF}(hN:F+1<=N.length)(h:spI G c (v? c F N.length f) vs H Q E):mq G f { nx:=λ_ H'=>Q .E H',rt:=Q } (L2.start N vs) H:=by
 obtain⟨p,dx,us,H0,ds,ns,es,rfl,A,S,s,r,e,k⟩:=h;obtain⟨T,ρ,l,x,z⟩:=IJ e;have hul:us.length=F:=by rw[<-uV r];exact T
 have gets:∀{i:Nat} {t:Sl},(stI c N.length ds)[i]?=Z t->(i=0/\t=.ob c [] [])\/t=.un\/∃(j:Nat) (d:D),i=j+1/\ds[j]?=Z d/\t=.z d:=λ{i t} e=>by
  cases i with
  |zero=>cases e;exact .inl ⟨O,O⟩
  |succ j=>
   have I:(Hs (N.length - 1) ds)[j]?=Z t:=e;rcases Ia I with rfl|⟨d,l,rfl⟩
   .exact .inr (.inl O)
   .exact .inr (.inr ⟨j,d,O,l,O⟩)
 have R:vy G ⟨H0,H,[p]⟩ (L2.start N (.ref p::us)) (stI c N.length ds) H0 H:={
  sub:=s
  g0:=ve.refl _
  keep:=λb o e _=>e
  fr:=λb o e=>.inl e
  am:=λa ha=>by
   have y:a=p:=by simpa using ha
   subst y;exact⟨_,A⟩
  len:=by unfold L2.start stI Hs;simp only[aE,ah,cY,aN];have:=uV r;omega
  sl:=λi t e=>by
   rcases gets e with ⟨rfl,rfl⟩|rfl|⟨j,d,rfl,l,rfl⟩
   .exact⟨p,dx,[],BD O,A,S,by simp,O,vM⟩
   .trivial
   .obtain⟨v,x,z⟩:=zF r l;exact⟨v,BD (by simpa using x),z⟩
  ap:=λi j t u a hij M P B C=>by
   rcases gets M with ⟨rfl,rfl⟩|rfl|⟨_,_,_,_,rfl⟩
   .rcases gets P with ⟨rfl,rfl⟩|rfl|⟨_,_,_,_,rfl⟩
    .exact aq O hij
    .cases C
    .cases C
   .cases B
   .cases B }
 refine⟨_,_,H0,_,R,l,λσ' q H' s' m=>?_,λ_=>O⟩;obtain⟨a,w,ys,q1,U,q3,W,Y,q6⟩:=m.sl 0 _ x;have y:a=p:=by simpa using W
 subst y;exact k ys w q H' s' m.sub (λb o e n=>m.keep b o e (by simpa using n)) m.fr q3 U Y q6
end
def Sl.L:Sl->Option bp
 |.O a=>Z a
 |.pm a=>Z a
 |_=>J
def Sl.putL:Sl->bp->Sl
 |.pm _,a=>.pm a
 |_,a=>.O a
def Sl.vu{s:Sl}(h:s.L=Z a):s.jj=γ:=by cases s<;>first|rfl|cases h
def Sl.putL_L{s:Sl}:(s.putL a).L=Z a:=by cases s<;>rfl
section
variable{G:Bg}{F:Fr}{σ:St}{ρ:aQ}{H0 H:Hp}
theorem J4.bt{o:Option V}{s:Sl}{ds:bp}(h:J4 G F H0 H o s)(e:s.L=Z ds):∃a xs,o=Z (.ref a)/\H a=Z (.bt xs)/\H0 a=J/\uQ G H0 ds xs:=by
 cases s with
 |O b=>cases e;obtain⟨a,xs,c,d,f,j,i⟩:=h;exact⟨a,xs,c,d,f,i⟩
 |pm b=>cases e;obtain⟨a,xs,c,d,f,j,i⟩:=h;exact⟨a,xs,c,d,f,i⟩
 |_=>cases e
def vy.mutL(R:vy G F σ ρ H0 H)(m:ρ[i]?=Z s)(o:s.L=Z w)(l:(σ[i]?).join=Z (.ref a))(r:uQ G H0 d c):
  vy G F σ (ρ.set i (s.putL d)) H0 (ff H a (.bt c)):=by
 have ok:=R.sl i s m;rw[l]at ok;refine R.mut m (Sl.vu o) l (λu hH=>?_) (Sl.vu Sl.putL_L);cases s with
 |O e=>obtain⟨b,t,f,p,h,j,q⟩:=ok;cases f;exact⟨a,c,O,hH,h,j,r⟩
 |pm e=>obtain⟨b,t,f,p,h,j,q⟩:=ok;cases f;exact⟨a,c,O,hH,h,j,r⟩
 |_=>cases o
end
def xa(ρ:aQ)(i:Nat):Option bp:=match ρ[i]? with
 |some s=>s.L
 |none=>J
def zq(h:xa ρ i=Z a):∃s,ρ[i]?=Z s/\s.L=Z a:=by
 unfold xa at h;cases e:ρ[i]? with
 |none=>rw[e]at h;cases h
 |some s=>rw[e]at h;exact⟨s,O,h⟩
def putAt(ρ:aQ)(i:Nat)(a:bp):aQ:=match ρ[i]? with
 |some s=>ρ.set i (s.putL a)
 |none=>ρ
def AQ(i:Nat)(f:FE):FE:=λc=>match xa c i with
 |some _=>match f c with
  |some (d,a)=>match xa a i with
   |some b=>if b.length<1000 then Z (.E,putAt a i (b++[d]))else J
   |none=>J
  |none=>J
 |none=>J
section
variable{X:Cx}{G:Bg}
def yy(R:vy G F m ρ e H)(h:xa ρ i=Z o):∃a d,m[i]?=Z (Z (.ref a))/\H a=Z (.bt d)/\uQ G e o d/\
  (∀b c,uQ G e b c->vy G F m (putAt ρ i b) e (ff H a (.bt c))):=by
 obtain⟨s,f,j⟩:=zq h;obtain⟨a,d,l,p,t,q⟩:=(R.sl i s f).bt j;refine⟨a,d,y7 l,p,q,λb c r=>?_⟩;unfold putAt;rw[f];exact R.mutL f j l r
def Q1(h:PE X e (tBM G.K "list" LD (BU i) (vo G (ax f vB)))):PE X e (tF G (AQ i f)):=PE.d? h λσ H Q A=>by
 obtain⟨F,c,u,d,N,R,e,k⟩:=A;unfold AQ at e;cases j:xa c i with
 |none=>simp only[j]at e;cases e
 |some z=>
  simp only[j]at e;rcases vF (f:=f) (ρ:=c)with l|⟨x,b,l⟩<;>simp only[l]at e
  .cases e
  .cases m:xa b i with
   |none=>simp only[m]at e;cases e
   |some T=>
    simp only[m]at e;split at e
    .rename_i U;cases e;obtain⟨a,M,q,C,Y,_⟩:=yy R j;refine⟨.ref a,q,.inl ⟨O,M,gd.of C⟩,F,c,u,[x],b,R,by unfold ax;rw[l];rfl,λys P w s y rs=>?_⟩;unfold uQ at rs;obtain⟨v,W,rfl,B,p⟩:=rs;unfold uQ at p;subst p;obtain⟨S,o,r,E,t,I⟩:=yy y m;rw[q]at r;cases r;exact⟨a,o,v,O,O,E,by rw[<-uV t];exact DO (by omega),k _ _ _ s (I _ _ (xj t (vR B vM))) AW⟩
    .cases e
def HP(i:Nat)(f:FA):FE:=λd=>match xa d i with
 |some _=>match f d with
  |some (c,a)=>match xa a i with
   |some b=>if b.length+c.length<=1000 then Z (.E,putAt a i (b++c))else J
   |none=>J
  |none=>J
 |none=>J
def Q2(h:PE X e (tBM G.K "list" Pg (BU i) (D6 (z3 G f) JZ))):PE X e (tF G (HP i f)):=PE.d? h λσ H Q A=>by
 obtain⟨F,c,u,d,S,R,e,k⟩:=A;unfold HP at e;cases j:xa c i with
 |none=>simp only[j]at e;cases e
 |some z=>
  simp only[j]at e;rcases vF (f:=f) (ρ:=c)with l|⟨x,b,l⟩<;>simp only[l]at e
  .cases e
  .cases m:xa b i with
   |none=>simp only[m]at e;cases e
   |some Y=>
    simp only[m]at e;split at e
    .rename_i B;cases e;obtain⟨a,N,q,E,s3,_⟩:=yy R j;refine⟨.ref a,q,.inl ⟨O,N,gd.of E⟩,F,c,u,x,b,R,l,λp P T w s y C h0 hb W rs=>?_⟩;obtain⟨U,o,r,I,t,M⟩:=yy y m;rw[q]at r;cases r;refine⟨a,p,o,P,O,O,I,C,?_,k _ _ _ s (M _ _ (xj t rs)) AW⟩;rw[<-uV t,<- uV rs];exact x8 B
    .cases e
def aer(i:Nat):FE:=λa=>match xa a i with
 |some (d::b)=>Z (d,putAt a i b)
 |_=>J
def EZ(r:uQ G b a c)(h:A' a i=Z d):∃v,A' c i=Z v/\cb G b d v:=by
 unfold A' at h ⊢;rw[<-uV r];cases e:ixN a.length i with
 |none=>rw[e]at h;cases h
 |some j=>rw[e]at h;exact zF r h
def M0(i:Nat)(f:FE):FE:=λb=>match xa b i with
 |some _=>match f b with
  |some (.int j,a)=>match xa a i with
   |some c=>match A' c j with
    |some d=>Z (d,a)
    |none=>J
   |none=>J
  |_=>J
 |none=>J
def Zq(h:PE X e (tOp (VT G.K) (BU i) (tF G f))):PE X e (tF G (M0 i f)):=PE.d? h λσ H Q I=>by
 obtain⟨F,t,y,d,W,R,e,k⟩:=I;unfold M0 at e;cases l:xa t i with
 |none=>simp only[l]at e;cases e
 |some C=>
  simp only[l]at e;obtain⟨A,U,p,_⟩:=yy R l;split at e
  .rename_i j m E;cases b:xa m i with
   |none=>simp only[b]at e;cases e
   |some B=>
    simp only[b]at e;cases c:A' B j with
    |none=>simp only[c]at e;cases e
    |some x=>simp only[c]at e;cases e;refine⟨.ref A,p,F,t,y,_,_,R,E,λu Y z s o r=>?_⟩;unfold cb at r;subst r;obtain⟨a,T,q,M,N,s4⟩:=yy o b;rw[p]at q;cases q;obtain⟨w,P,S⟩:=EZ N c;exact⟨_,T,j,w,O,O,gd.of M,P,k _ _ _ s o S⟩
  .cases e
def D'(i:Nat):FE:=λb=>match b[i]? with
 |some (.O a)=>Z (.bt a,b.set i (.z (.bt a)))
 |some (.dk c a)=>Z (.Q c a,b.set i (.z (.Q c a)))
 |some (.z d)=>Z (d,b)
 |_=>J
theorem vy.toIm(R:vy G F σ ρ H0 H)(hi:ρ[i]?=Z s)(l:(σ[i]?).join=Z (.ref p))(so:s.jj=γ)(E:H p=Z o)(f:H0 p=J)(hb:F.B p=J)(r:cb G (ff H0 p o) d (.ref p)):
  vy G F σ (ρ.set i (.z d)) (ff H0 p o) H where
 sub:=λb u e=>by
  by_cases hb:b=p
  .subst hb;rw[vb]at e;cases e;exact E
  .rw[vn hb]at e;exact R.sub _ _ e
 g0:=R.g0.t (vw f o)
 keep:=R.keep
 fr:=λb u e=>by
  by_cases c:b=p
  .subst c;exact .inr hb
  .rw[vn c]at e;exact R.fr _ _ e
 am:=R.am
 len:=by rw[eJ];exact R.len
 sl:=λj t e=>by
  rw[b8]at e;by_cases h:i=j
  .subst h;rw[ak O]at e;split at e
   .cases e;exact⟨_,l,r⟩
   .cases e
  .rw[ao h]at e;refine(R.sl j t e).i0 (vw f o) (λa u _ _ q=>q) λa u z to q I=>?_;rw[vn (λy=>by subst y;exact R.ap j i t s a (λy=>h y.symm) e hi to so z l)];exact I
 ap:=λj k t u b hjk A C w tk M vk=>by
  have ro:∀{m:Nat} {x:Sl},(ρ.set i (.z d))[m]?=Z x->x.jj=γ->ρ[m]?=Z x:=λ{m x} e N=>by
   rw[b8]at e;by_cases h:i=m
   .subst h;rw[ak O]at e;split at e
    .cases e;cases N
    .cases e
   .rw[ao h]at e;exact e
  exact R.ap j k t u b hjk (ro A w) (ro C tk) w tk M vk
theorem vy.toImD(R:vy G F σ ρ H0 H)(hi:ρ[i]?=Z s)(f:(σ[i]?).join=Z (.ref p))(so:s.jj=γ)(l:H0 p=J)(hb:F.B p=J)(r:cb G (ff H0 p o) d (.ref p)):
  vy G F σ (ρ.set i (.z d)) (ff H0 p o) (ff H p o) where
 sub:=λb u e=>by
  by_cases hb:b=p
  .subst hb;rw[vb]at e ⊢;exact e
  .rw[vn hb]at e ⊢;exact R.sub _ _ e
 g0:=R.g0.t (vw l o)
 keep:=λb u e n=>by rw[vn (λz=>by subst z;rw[hb]at e;cases e)];exact R.keep b u e n
 fr:=λb u e=>by
  by_cases c:b=p
  .subst c;exact .inr hb
  .rw[vn c]at e;exact R.fr _ _ e
 am:=λb hm=>by
  by_cases c:b=p
  .subst c;exact⟨o,vb⟩
  .rw[vn c];exact R.am b hm
 len:=by rw[eJ];exact R.len
 sl:=λj t e=>by
  rw[b8]at e;by_cases h:i=j
  .subst h;rw[ak O]at e;split at e
   .cases e;exact⟨_,f,r⟩
   .cases e
  .rw[ao h]at e;refine(R.sl j t e).i0 (vw l o) (λa u z to q=>?_) λa u z to q E=>?_
   .rw[vn (λy=>by subst y;exact R.ap j i t s a (λy=>h y.symm) e hi to so z f)];exact q
   .rw[vn (λy=>by subst y;exact R.ap j i t s a (λy=>h y.symm) e hi to so z f)];exact E
 ap:=λj k t u b hjk A C w tk I vk=>by
  have ro:∀{m:Nat} {x:Sl},(ρ.set i (.z d))[m]?=Z x->x.jj=γ->ρ[m]?=Z x:=λ{m x} e M=>by
   rw[b8]at e;by_cases h:i=m
   .subst h;rw[ak O]at e;split at e
    .cases e;cases M
    .cases e
   .rw[ao h]at e;exact e
  exact R.ap j k t u b hjk (ro A w) (ro C tk) w tk I vk
def acX(h:PE X e (BU i)):PE X e (tF G (D' i)):=PE.d? (PE.ghost h) λE H Q z=>by
 obtain⟨F,C,t,d,A,R,e,k⟩:=z;unfold D' at e;split at e
 .rename_i m b;cases e;obtain⟨a,l,f,p,c,q,r⟩:=R.sl i _ b;have j:cb G (ff t a (.bt l)) (.bt m) (.ref a):=BZ vb (uQ.mono (vw c _) _ _ r);exact⟨_,y7 f,.inl (k _ _ _ (vw c _) (R.toIm b f O p c q j) j)⟩
 .rename_i u m b;cases e;obtain⟨a,l,f,p,c,q,r,y⟩:=R.sl i _ b;refine⟨_,y7 f,.inr ⟨a,_,p,λo=>?_⟩⟩;have j:cb G (ff t a (.n? o (.dK (u.zip l)))) (.Q u m) (.ref a):=by unfold cb;exact⟨a,o,l,O,vb,r,uQ.mono (vw c _) _ _ y⟩
  exact k _ _ _ (vw c _) (R.toImD b f O c q j) j
 .rename_i B b;cases e;obtain⟨v,w,x⟩:=R.sl i _ b;exact⟨v,y7 w,.inl (k _ _ _ (ve.refl _) R x)⟩
 .cases e
def J5(i:Nat):FA:=λa=>match a[i]? with
 |some (.O b)=>Z (b,a.set i .un)
 |_=>J
def Wu(h:PE X e (BU i)):PE X e (z3 G (J5 i)):=PE.d? h λσ H Q C=>by
 obtain⟨F,ρ,H0,d,ρ',R,e,k⟩:=C;unfold J5 at e;split at e
 .rename_i ds l;cases e;obtain⟨a,xs,o,w,y,A,B⟩:=R.sl i _ l;have ro:∀{m:Nat} {x:Sl},(ρ.set i .un)[m]?=Z x->x.jj=γ->m≠i/\ρ[m]?=Z x:=λ{m x} e M=>by
   rw[b8]at e;by_cases h:i=m
   .subst h;rw[ak O]at e;split at e
    .cases e;cases M
    .cases e
   .rw[ao h]at e;exact⟨λz=>h z.symm,e⟩
  have q:vy G F σ (ρ.set i .un) H0 H:={
   sub:=R.sub,g0:=R.g0,keep:=R.keep,fr:=R.fr,am:=R.am
   len:=by rw[eJ];exact R.len
   sl:=λj t e=>by
    rw[b8]at e;by_cases h:i=j
    .subst h;rw[ak O]at e;split at e
     .cases e;trivial
     .cases e
    .rw[ao h]at e;exact R.sl j t e
   ap:=λj k t u b hjk c r p tk I vk=>R.ap j k t u b hjk (ro c p).2 (ro r tk).2 p tk I vk }
  refine⟨_,y7 o,k a xs _ _ (ve.refl _) q w y A (λj t c to z=>?_) B⟩;obtain⟨E,f⟩:=ro c to;exact R.ap j i t _ a E f l to O z o
 .cases e
end
def u7(G:Bg)(g:bp->bp->Option (D×bp)):Sp:=λq H Q _=>∃(a:Addr) (m p:bN) (e:Hp) (l j:bp) (d:D) (f:bp),q=.ref a::m/\H a=Z (.bt p)/\e a=J/\ve e H/\uQ G e l p/\uQ G e j m/\g l j=Z (d,f)/\
 ∀v h c i,ve e c->ve c i->(∀b o,H b=Z o->b≠a->i b=Z o)->(∀b o,c b=Z o->e b=Z o\/H b=J)->c a=J->i a=Z (.bt h)->uQ G c f h->cb G c d v->Q v i
def stM(n:Nat)(b a:bp):aQ:=.pm b::Hs (n - 1) a
def E1(b:aQ):Option bp:=match b with
 |.pm a::_=>Z a
 |_=>J
def t?(h n:Nat)(f:FS):bp->bp->Option (D×bp):=λe c=>if c.length=h then match f (stM n e c)with
 |some (.rt d b)=>match E1 b with
  |some a=>Z (d,a)
  |none=>J
 |some (.X i b)=>match E1 b with
  |some a=>Z (.bt i,a)
  |none=>J
 |_=>J
 else J
def IK(h:E1 b=Z a):b[0]?=Z (.pm a):=by
 unfold E1 at h;split at h
 .cases h;rfl
 .cases h
def M3(h:t? m n f i c=Z (d,es')):c.length=m/\((∃a,f (stM n i c)=Z (.rt d a)/\a[0]?=Z (.pm es'))\/∃j a,f (stM n i c)=Z (.X j a)/\a[0]?=Z (.pm es')/\d=.bt j):=by
 unfold t? at h;split at h
 .rename_i l;refine⟨l,?_⟩;split at h
  .rename_i x a e;cases b:E1 a with
   |none=>simp only[b]at h;cases h
   |some q=>simp only[b]at h;cases h;exact .inl ⟨a,e,IK b⟩
  .rename_i x a e;cases b:E1 a with
   |none=>simp only[b]at h;cases h
   |some q=>simp only[b]at h;cases h;exact .inr ⟨x,a,e,IK b,O⟩
  .cases h
 .cases h
section
variable{X:Cx}{G:Bg}
def Wv{N:aF}(hN:C+1<=N.length)(h:u7 G (t? C N.length f) vs H Q E):mq G f { nx:=λ_ H'=>Q .E H',rt:=Q } (L2.start N vs) H:=by
 obtain⟨a,us,xs,H0,es,ds,d,y,rfl,ha,Y,s,r1,r,e,k⟩:=h;obtain⟨hl,l⟩:=M3 e;have hul:us.length=C:=by rw[<-uV r];exact hl
 have gets:∀{i:Nat} {t:Sl},(stM N.length es ds)[i]?=Z t->(i=0/\t=.pm es)\/t=.un\/∃(j:Nat) (d:D),i=j+1/\ds[j]?=Z d/\t=.z d:=λ{i t} e=>by
  cases i with
  |zero=>cases e;exact .inl ⟨O,O⟩
  |succ j=>
   have M:(Hs (N.length - 1) ds)[j]?=Z t:=e;rcases Ia M with rfl|⟨d,l,rfl⟩
   .exact .inr (.inl O)
   .exact .inr (.inr ⟨j,d,O,l,O⟩)
 have R:vy G ⟨H0,H,[a]⟩ (L2.start N (.ref a::us)) (stM N.length es ds) H0 H:={
  sub:=s
  g0:=ve.refl _
  keep:=λb o e _=>e
  fr:=λb o e=>.inl e
  am:=λb hb=>by
   have T:b=a:=by simpa using hb
   subst T;exact⟨_,ha⟩
  len:=by unfold L2.start stM Hs;simp only[aE,ah,cY,aN];have:=uV r;omega
  sl:=λi t e=>by
   rcases gets e with ⟨rfl,rfl⟩|rfl|⟨j,d,rfl,l,rfl⟩
   .exact⟨a,xs,BD O,ha,Y,by simp,r1⟩
   .trivial
   .obtain⟨v,q,P⟩:=zF r l;exact⟨v,BD (by simpa using q),P⟩
  ap:=λi j t u b hij U W A B=>by
   rcases gets U with ⟨rfl,rfl⟩|rfl|⟨_,_,_,_,rfl⟩
   .rcases gets W with ⟨rfl,rfl⟩|rfl|⟨_,_,_,_,rfl⟩
    .exact aq O hij
    .cases B
    .cases B
   .cases A
   .cases A }
 have fin:∀{v:V} {σ':St} {ρ':aQ} {c H':Hp},ve H0 c->vy G ⟨H0,H,[a]⟩ σ' ρ' c H'->ρ'[0]?=Z (.pm y)->cb G c d v->Q v H':=λx m q z=>by
  obtain⟨I,F,q1,q2,q3,q4,q5⟩:=m.sl 0 _ q;have S:I=a:=by simpa using q4
  subst S;exact k _ F _ _ x m.sub (λb o e n=>m.keep b o e (by simpa using n)) m.fr q3 q2 q5 z
 rcases l with ⟨ρ,l,q⟩|⟨zs,ρ,l,q,rfl⟩
 .exact⟨_,_,H0,_,R,l,λv σ' c H' x m z=>fin x m q z,λ_=>O⟩
 .refine⟨_,_,H0,_,R,l,λp F σ' c H' x m hp w hb ap rs=>?_,λ_=>O⟩;exact fin (x.t (vw w _)) (m.ri hp w hb ap) q (BZ vb (uQ.mono (vw w _) _ _ rs))
def acY(j:∀f b d,g f b=Z d->b.length=l):∀c H Q E,u7 G g c H Q E->c.length=l+1:=λc H Q E h=>by obtain⟨a,o,p,m,f,b,d,i,rfl,_,_,_,_,r,e,_⟩:=h;rw[aN,<- uV r,j _ _ _ e]
def Ww:∀b a d,t? e n f b a=Z d->a.length=e:=λ_ _ d h=>(M3 (d:=d.1) (es':=d.2) h).1
def vy.call1(R:vy G F σ ρ H0 H)(hi:ρ[i]?=Z s)(M:s.L=Z es)(hb:(σ[i]?).join=Z (.ref b))
  (P:ve H0 a) (s2:ve a H') (B:∀c o,H c=Z o->c≠b->H' c=Z o) (fr:∀c o,a c=Z o->H0 c=Z o\/H c=J) (I:a b=J) (A:H' b=Z (.bt C)) (r:uQ G a d C):
  vy G F σ (ρ.set i (s.putL d)) a H':=by
 have so:=Sl.vu M;obtain⟨b',u,E,e2,e3,Q⟩:=(R.sl i s hi).at so;rw[hb]at E;cases E;exact {
  sub:=s2
  g0:=R.g0.t P
  keep:=λc o e n=>by
   refine B c o (R.keep c o e n) λz=>?_;subst z;rcases Q with q|q
   .rw[q]at e;cases e
   .exact n q
  fr:=λc o e=>by
   rcases fr c o e with q|q
   .exact R.fr c o q
   .exact .inr (R.i1 q)
  am:=λc hc=>by
   by_cases z:c=b
   .subst z;exact⟨_,A⟩
   .obtain⟨o,q⟩:=R.am c hc;exact⟨o,B c o q z⟩
  len:=by rw[eJ];exact R.len
  sl:=λj t e=>by
   rw[b8]at e;by_cases h:i=j
   .subst h;rw[ak O]at e;split at e
    .cases e;rw[hb];have ok:=R.sl i s hi;rw[hb]at ok;cases s with
     |O f=>obtain⟨c,xs,l,Y,h3,p,h5⟩:=ok;cases l;exact⟨b,C,O,A,I,p,r⟩
     |pm f=>obtain⟨c,xs,l,Y,h3,p,h5⟩:=ok;cases l;exact⟨b,C,O,A,I,p,r⟩
     |_=>cases M
    .cases e
   .rw[ao h]at e;refine(R.sl j t e).i0 P (λc w z to q=>B c w q λy=>?_) λc w z to q N=>?_
    .subst y;exact R.ap j i t s c (λy=>h y.symm) e hi to so z hb
    .cases y:a c with
     |none=>rfl
     |some o=>
      rcases fr c o y with x|x
      .rw[x]at N;cases N
      .rw[x]at q;cases q
  ap:=λj k t u c hjk S T tj tk vj vk=>by
   have ro:∀{m:Nat} {x:Sl},(ρ.set i (s.putL d))[m]?=Z x->∃y,ρ[m]?=Z y/\(x.jj=γ->y.jj=γ):=λ{m x} e=>by
    rw[b8]at e;by_cases h:i=m
    .subst h;exact⟨s,hi,λ_=>so⟩
    .rw[ao h]at e;exact⟨x,e,λq=>q⟩
   obtain⟨y,U,oy⟩:=ro S;obtain⟨z,W,oz⟩:=ro T;exact R.ap j k y z c hjk U W (oy tj) (oz tk) vj vk }
def vH(g:bp->bp->Option (D×bp))(i:Nat)(a:FA):FE:=λe=>match xa e i with
 |some _=>match a e with
  |some (f,b)=>match xa b i with
   |some h=>match g h f with
    |some (d,c)=>Z (d,putAt b i c)
    |none=>J
   |none=>J
  |none=>J
 |none=>J
def Zr(h:PE X e (EO (u7 G g) [] E (D6 (BU i) (vo G a)))):PE X e (tF G (vH g i a)):=PE.d? h λσ H Q U=>by
 obtain⟨F,m,A,d,ρ',R,e,k⟩:=U;unfold vH at e;cases r:xa m i with
 |none=>simp only[r]at e;cases e
 |some T=>
  simp only[r]at e;rcases vF (f:=a) (ρ:=m)with t|⟨p,l,t⟩<;>simp only[t]at e
  .cases e
  .cases u:xa l i with
   |none=>simp only[u]at e;cases e
   |some C=>
    simp only[u]at e;cases w:g C p with
    |none=>simp only[w]at e;cases e
    |some q=>
     obtain⟨d1,x⟩:=q;simp only[w]at e;cases e;obtain⟨b,xs,y,s2,s3,_⟩:=yy R r;refine⟨.ref b,y,F,m,A,p,l,R,t,λN B P s o rs=>?_⟩;obtain⟨s,c,j⟩:=zq u;obtain⟨b',z,I,W,Y,t4⟩:=(o.sl i s c).bt j;rw[y7 I]at y;cases y;refine⟨b,N,z,B,C,p,d,x,?_,W,Y,o.sub,t4,rs,w,λv zs H2 S M u2 u3 fr w0 w1 w2 w3=>?_⟩
     .show V.ref b::N++[]=_;rw[bR]
     .refine k _ _ _ (ve.t ‹ve A B› M) ?_ w3;unfold putAt;rw[c];exact o.call1 c j I M u2 u3 fr w0 w1 w2
def Walk(G:Bg)(h:It)(j:bp)(l:Hp):Prop:=∀(i:Nat) (e a:Hp),ve l e->ve e a->
 (∀d,j[i]?=Z d->h.go i a/\∀x c,h.yld i a x c->∃f,ve e f/\ve f c/\ve a c/\(∀b o,f b=Z o->e b=Z o\/a b=J)/\cb G f d x)/\(i=j.length->h.N? i a)
def μ(G:Bg)(f:FA):TI:=λj H R=>∃F i e h b,vy G F j i e H/\f i=Z (h,b)/\∀c a d,ve e a->vy G F j b a d->Walk G c h a->R c d
def PI.d?(h:PI X d e t)(w:∀b H R,t' b H R->t b H R):PI X d e t':=λa s b H R I c=>h a s b H R I (w _ _ _ c)
def IL(h:gd G.K l a c)(r:uQ G l w c):Walk G (Itl G.K a) w l:=λi t f s q=>by have j:gd G.K f a c:=(s.t q).seq h;refine⟨λd e=>?_,λC=>⟨c,j,by rw[<-uV r,C];exact aO _⟩⟩;obtain⟨v,m,z⟩:=zF r e;refine⟨⟨c,v,j,m⟩,λx u y=>?_⟩;obtain⟨A,B⟩:=y;have p:=B c j;rw[m]at p;cases p;subst A;exact⟨t,ve.refl _,q,ve.refl _,λb o e=>.inl e,cb.mono s _ _ z⟩
def SW(h:ij G.K l a c)(r:uQ G l w c):Walk G (Itt G.K a) w l:=λi t f s q=>by have j:ij G.K f a c:=ij.mono (s.t q) h;refine⟨λd e=>?_,λC=>⟨c,j,by rw[<-uV r,C];exact aO _⟩⟩;obtain⟨v,m,z⟩:=zF r e;refine⟨⟨c,v,j,m⟩,λx u y=>?_⟩;obtain⟨A,B⟩:=y;have p:=B c j;rw[m]at p;cases p;subst A;exact⟨t,ve.refl _,q,ve.refl _,λb o e=>.inl e,cb.mono s _ _ z⟩
def iL(f:FE):FA:=λc=>match f c with
 |some (.bt b,a)=>Z (b,a)
 |some (.R b,a)=>Z (b,a)
 |_=>J
def iT(f:FE):FA:=λc=>match f c with
 |some (.du b,a)=>Z (b,a)
 |_=>J
def M4(h:PI X w e (R8 G.K (tF G f))):PI X w e (μ G (iL f)):=PI.d? h λz H R u=>by
 obtain⟨F,q,p,y,x,R,e,k⟩:=u;unfold iL at e;split at e
 .rename_i i o j;cases e;refine⟨F,q,p,_,_,R,j,λv t d s b r=>?_⟩;unfold cb at r;obtain⟨a,m,rfl,c,l⟩:=r;exact⟨a,O,⟨m,b.sub.seq (gd.of c)⟩,k _ _ _ s b (IL (gd.of c) l)⟩
 .rename_i i o j;cases e;refine⟨F,q,p,_,_,R,j,λv t d s b r=>?_⟩;unfold cb at r;obtain⟨a,m,rfl,c,l⟩:=r;exact⟨a,O,⟨m,b.sub.seq c⟩,k _ _ _ s b (IL c l)⟩
 .cases e
def Wx(h:PI X p e (YI G.K (tF G f))):PI X p e (μ G (iT f)):=PI.d? h λz H R m=>by
 obtain⟨F,t,d,y,u,R,e,k⟩:=m;unfold iT at e;split at e
 .rename_i j w l;cases e;refine⟨F,t,d,_,_,R,l,λv x i s b r=>?_⟩;unfold cb at r;obtain⟨a,q,rfl,c,o⟩:=r;exact⟨a,O,⟨q,ij.mono b.sub c⟩,k _ _ _ s b (SW c o)⟩
 .cases e
def B2(lo:Int)(n:Nat):bp:=(aU n).map λ(i:Nat)=>D.int (lo+(i:Int))
def M5{lo:Int}:Walk G (Itr lo n) (B2 lo n) p:=λi c f s m=>by
 refine⟨λd e=>?_,λl=>by show n<=i;rw[l];simp[B2]⟩;unfold B2 at e;rw[bA]at e;by_cases a:i<n
 .rw[oX a]at e;cases e;refine⟨a,λx h y=>?_⟩;obtain⟨j,rfl⟩:=y;subst j;exact⟨c,ve.refl _,m,ve.refl _,λb o e=>.inl e,xt _⟩
 .rw[gB (by simpa using a)]at e;cases e
def I'(f:FE):FA:=λb=>match f b with
 |some (.int n,a)=>if -1000000<=n/\n<=1000000 then Z (B2 0 n.toNat,a)else J
 |_=>J
def Oj(h:PI X m e (XI (vo G (ax f vB)))):PI X m e (μ G (I' f)):=PI.d? h λy H R l=>by
 obtain⟨F,o,c,t,p,R,e,k⟩:=l;unfold I' at e;split at e
 .rename_i n q j;split at e
  .rename_i u;cases e;refine⟨F,o,c,[.int n],_,R,by unfold ax;rw[j];rfl,λx r d s i rs=>?_⟩;unfold uQ at rs;obtain⟨v,w,rfl,b,a⟩:=rs;unfold uQ at a;unfold cb at b;subst a b;exact⟨n,O,by omega,by omega,k _ _ _ s i M5⟩
  .cases e
 .cases e
def fl(g:FG)(b:FS):bp->FS
 |[],c=>Z (.nx c)
 |d::r,c=>match g d c with
  |none=>J
  |some e=>match b e with
   |some (.nx a)=>fl g b r a
   |some (.ct a)=>fl g b r a
   |some (.bk a)=>Z (.nx a)
   |some (.rt d a)=>Z (.rt d a)
   |some (.X d a)=>Z (.X d a)
   |none=>J
def yx(s:FA)(g:FG)(b:FS):FS:=λd=>match s d with
 |some (c,a)=>fl g b c a
 |none=>J
def WA{st:Stmt}(h:PS X st (YK (μ G s) (tFG G n g) (mq G b))):PS X st (mq G (yx s g b)):=PS.d? h λE σ H hh=>by
 obtain⟨F,W,H0,o,R,e,k,k2⟩:=hh;unfold yx at e;rcases vF (f:=s) (ρ:=W)with Q|⟨j,C,Q⟩<;>simp only[Q]at e
 .cases e
 .refine⟨F,W,H0,j,C,R,Q,λAt N H1' s1 R1 wk=>?_⟩;refine⟨λi m σ H=>m=j.length - i/\i<=j.length/\∃c r,ve N r/\vy G F σ c r H/\fl g b (j.drop i) c=Z o,⟨_,O,cq _,C,N,ve.refl _,R1,e⟩,?_⟩;rintro i m σi B ⟨rfl,hi,c,r,A,I,a⟩;by_cases hlt:i<j.length
  .have ed:j.drop i=j[i]::j.drop (i+1):=jn hlt;rw[ed]at a;unfold fl at a;obtain⟨go,yl⟩:=(wk i r B A I.sub).1 j[i] (bh hlt);refine .inr ⟨go,λp z=>∃c r,ve N r/\vy G F p c r z/\fl g b (j.drop (i+1)) c=Z o,λp z q=>⟨j.length - (i+1),by omega,O,hlt,q⟩,λx z y=>?_⟩;obtain⟨Y,M,t2,t3,t4,t5⟩:=yl x z y;have R2:=I.i0 t3 M t2 t4;cases S:g j[i] c with
   |none=>simp only[S]at a;cases a
   |some w=>
    simp only[S]at a;refine⟨F,c,Y,_,w,R2,t5,S,λσ3 _ R3=>?_⟩;have T:=k.J? (s1.t (A.t M));cases u:b w with
    |none=>simp only[u]at a;cases a
    |some q=>
     refine⟨F,w,Y,q,R3,u,?_,λ_=>O⟩;cases q with
     |nx l=>simp only[u]at a;exact λp t z U P=>⟨l,t,A.t (M.t U),P,a⟩
     |ct l=>simp only[u]at a;exact λp t z U P=>⟨l,t,A.t (M.t U),P,a⟩
     |bk l=>simp only[u]at a;cases a;exact T
     |rt d l=>simp only[u]at a;cases a;exact T
     |X d l=>simp only[u]at a;cases a;exact T
  .have ez:j.drop i=[]:=ox (by omega);rw[ez]at a;unfold fl at a;cases a;exact .inl ⟨(wk i r B A I.sub).2 (by omega),k _ _ _ (s1.t A) I⟩
def whL(c:FT)(b:FS):Nat->FS
 |0,_=>J
 |n+1,f=>match c f with
  |some (δ,e)=>Z (.nx e)
  |some (γ,e)=>match b e with
   |some (.nx a)=>whL c b n a
   |some (.ct a)=>whL c b n a
   |some (.bk a)=>Z (.nx a)
   |some (.rt d a)=>Z (.rt d a)
   |some (.X d a)=>Z (.X d a)
   |none=>J
  |none=>J
def Q3{st:Stmt}(n:Nat)(h:PS X st (R0 (n9 G c) (mq G b))):PS X st (mq G (whL c b n)):=PS.d? h λE Q H Y=>by
 obtain⟨F,P,B,o,R,e,k,k2⟩:=Y;refine⟨λm Q H=>∃i r,ve B r/\vy G F Q i r H/\whL c b m i=Z o,⟨n,P,B,ve.refl _,R,e⟩,?_⟩;rintro m σi U ⟨i,r,A,W,a⟩;cases m with
 |zero=>cases a
 |succ m=>
  unfold whL at a;rcases vF (f:=c) (ρ:=i)with x|⟨t,w,x⟩
  .simp only[x]at a;cases a
  .refine⟨F,i,r,t,w,W,x,λS T z N=>?_⟩;cases t with
   |false=>simp only[x]at a;cases a;exact LH (k _ _ _ (A.t z) N)
   |true=>
    simp only[x]at a;refine LI ⟨λl y=>∃i r,ve B r/\vy G F l i r y/\whL c b m i=Z o,λl y q=>⟨m,dA m,q⟩,?_⟩;have I:=k.J? (A.t z);cases u:b w with
    |none=>simp only[u]at a;cases a
    |some q=>
     refine⟨F,w,S,q,N,u,?_,λ_=>O⟩;cases q with
     |nx j=>simp only[u]at a;exact λl p y M C=>⟨j,p,A.t (z.t M),C,a⟩
     |ct j=>simp only[u]at a;exact λl p y M C=>⟨j,p,A.t (z.t M),C,a⟩
     |bk j=>simp only[u]at a;cases a;exact I
     |rt d j=>simp only[u]at a;cases a;exact I
     |X d j=>simp only[u]at a;cases a;exact I
end
def Sl.ey:Sl->Sl
 |.z d=>.z d
 |.O a=>.pm a
 |.pm a=>.pm a
 |_=>.un
def E2(k:Nat)(ey:List Nat)(ρ:aQ):aQ:=bU k .un++ey.map λj=>((ρ[j]?).getD .un).ey
def yz:List Nat->aQ->aQ->Option aQ
 |[],_,a=>Z a
 |j::ey,t::b,a=>match xa a j with
  |some _=>match t with
   |.pm c=>yz ey b (putAt a j c)
   |_=>J
  |none=>yz ey b a
 |_::_,[],_=>J
def Ao(k:Nat)(ey:List Nat)(g:FG)(ft:FT)(f:FE):bp->aQ->Option (bp×aQ)
 |[],c=>Z ([],c)
 |d::r,c=>match g d (E2 k ey c)with
  |none=>J
  |some h=>match ft h with
   |some (γ,b)=>match f b with
    |some (x,i)=>match yz ey (i.drop k) c with
     |some a=>match Ao k ey g ft f r a with
      |some (j,e)=>Z (x::j,e)
      |none=>J
     |none=>J
    |none=>J
   |some (δ,b)=>match yz ey (b.drop k) c with
    |some a=>Ao k ey g ft f r a
    |none=>J
   |none=>J
def uX(k:Nat)(ey:List Nat)(s:FA)(g:FG)(ft:FT)(fe:FE):FA:=λc=>match s c with
 |some (b,a)=>if b.length<=1000 then Ao k ey g ft fe b a else J
 |none=>J
def vN:FT:=λa=>Z (γ,a)
theorem B3:∀{ey:List Nat} {A f b:aQ},yz ey A f=Z b->b.length=f.length/\
  (∀(j:Nat) (c:Sl),b[j]?=Z c->∃s,f[j]?=Z s/\((c=s/\(s.L≠J->j∉ey))\/∃(m:Nat) (i a:bp),ey[m]?=Z j/\A[m]?=Z (Sl.pm i)/\s.L=Z a/\c=s.putL i))
 |[],A,f,b,h=>by cases h;exact⟨O,λj c e=>⟨c,e,.inl ⟨O,λ_ z=>by cases z⟩⟩⟩
 |F::ey,[],f,b,h=>by cases h
 |F::ey,t::A,f,b,h=>by
  unfold yz at h;cases l:xa f F with
  |none=>
   simp only[l]at h;obtain⟨B,C⟩:=B3 h;refine⟨B,λj c e=>?_⟩;obtain⟨s,r,q⟩:=C j c e;refine⟨s,r,?_⟩;rcases q with ⟨rfl,q⟩|⟨m,i,a,u,w,q3,x⟩
   .refine .inl ⟨O,λz y=>?_⟩;rcases aL.1 y with y|y
    .subst y;unfold xa at l;rw[r]at l;exact z l
    .exact q z y
   .exact .inr ⟨m+1,i,a,u,w,q3,x⟩
  |some p=>
   simp only[l]at h;cases t with
   |pm i=>
    simp only at h;obtain⟨H,r,G⟩:=zq l;unfold putAt at h;rw[r]at h;simp only at h;obtain⟨B,C⟩:=B3 h;refine⟨by rw[B,eJ],λj c e=>?_⟩;obtain⟨s,o,q⟩:=C j c e;by_cases E:F=j
    .subst E;rw[b8,ak O]at o;split at o
     .cases o;refine⟨H,r,.inr ?_⟩;rcases q with ⟨rfl,q⟩|⟨m,d,a,u,w,q3,x⟩
      .exact⟨0,i,p,O,O,G,O⟩
      .refine⟨m+1,d,p,u,w,G,?_⟩;rw[x];cases H<;>rfl
     .cases o
    .rw[b8,ao E]at o;refine⟨s,o,?_⟩;rcases q with ⟨rfl,q⟩|⟨m,d,a,u,w,q3,x⟩
     .refine .inl ⟨O,λz y=>?_⟩;rcases aL.1 y with y|y
      .exact E y.symm
      .exact q z y
     .exact .inr ⟨m+1,d,a,u,w,q3,x⟩
   |_=>cases h
def J6(ey:List Nat)(b:St)(ρ:aQ):List Addr:=ey.filterMap λj=>match xa ρ j,(b[j]?).join with
 |some _,Z (.ref a)=>Z a
 |_,_=>J
def CZ:a∈J6 ey i h ↔ ∃j∈ey,(∃b,xa h j=Z b)/\(i[j]?).join=Z (.ref a):=by
 unfold J6;rw[iC];constructor
 .rintro⟨j,f,e⟩;refine⟨j,f,?_⟩;split at e
  .rename_i b l c d;cases e;exact⟨⟨b,c⟩,d⟩
  .cases e
 .rintro⟨j,f,⟨b,c⟩,d⟩;refine⟨j,f,?_⟩;rw[c,d]
section
variable{X:Cx}{G:Bg}{F:Fr}{σ:St}{ρ:aQ}{H0 H:Hp}
def IM(h:(E2 k ey ρ)[i]?=Z s):s=.un\/∃m j,i=k+m/\ey[m]?=Z j/\s=((ρ[j]?).getD .un).ey:=by
 unfold E2 at h;by_cases a:i<k
 .rw[fR (by simpa using a),jr,ak a]at h;cases h;exact .inl O
 .rw[fQ (by simpa using pX a),cY,bA]at h;cases e:ey[i - k]? with
  |none=>rw[e]at h;cases h
  |some j=>rw[e]at h;cases h;exact .inr ⟨i - k,j,by omega,e,O⟩
def E3(h:ey[m]?=Z j):((y6 k ey σ)[k+m]?).join=(σ[j]?).join:=by unfold y6;rw[fQ (by simp),cY,show k+m - k=m by omega,bA,h];rfl
theorem vy.ey(R:vy G F σ ρ H0 H)(k:Nat)(ey:List Nat)(nd:ey.Nodup):vy G ⟨H0,H,J6 ey σ ρ⟩ (y6 k ey σ) (E2 k ey ρ) H0 H where
 sub:=R.sub
 g0:=ve.refl _
 keep:=λb o e _=>e
 fr:=λb o e=>.inl e
 am:=λa ha=>by obtain⟨j,x,⟨ds,l⟩,r⟩:=CZ.1 ha;obtain⟨s,E,I⟩:=zq l;obtain⟨T,xs,f,p,_⟩:=(R.sl j s E).bt I;rw[r]at f;cases f;exact⟨_,p⟩
 len:=by unfold y6 E2;rw[aE,aE,cY,cY,ah,ah]
 sl:=λi s e=>by
  rcases IM e with rfl|⟨m,j,rfl,l,rfl⟩
  .trivial
  .rw[E3 l];cases r:ρ[j]? with
   |none=>trivial
   |some s=>
    have ok:=R.sl j s r;have mem:∀{a:Addr} {ds:bp},s.L=Z ds->(σ[j]?).join=Z (.ref a)->a∈J6 ey σ ρ:=λf p=>CZ.2 ⟨j,cn l,⟨_,by unfold xa;rw[r];exact f⟩,p⟩;cases s with
    |un=>trivial
    |z d=>exact ok
    |O ds=>obtain⟨a,xs,f,p,u,M,w⟩:=ok;exact⟨a,xs,f,p,u,mem O f,w⟩
    |pm ds=>obtain⟨a,xs,f,p,u,M,w⟩:=ok;exact⟨a,xs,f,p,u,mem O f,w⟩
    |dk ks ds=>trivial
    |ob c ns ds=>trivial
 ap:=λi U s t a hii e C so to v B=>by
  rcases IM e with rfl|⟨m,j,rfl,l,rfl⟩
  .cases so
  rcases IM C with rfl|⟨N,A,rfl,q,rfl⟩
  .cases to
  rw[E3 l]at v;rw[E3 q]at B;have jj:∀{j:Nat},(((ρ[j]?).getD Sl.un).ey).jj=γ->∃s,ρ[j]?=Z s/\s.jj=γ:=λ{j} h=>by
   cases z:ρ[j]? with
   |none=>rw[z]at h;cases h
   |some s=>rw[z]at h;refine⟨s,O,?_⟩;cases s<;>first|rfl|cases h
  obtain⟨s,z,S⟩:=jj so;obtain⟨P,Q,y⟩:=jj to;by_cases x:j=A
  .subst x;have:m=N:=(List.getElem?_inj (cj.1 l).1 nd).1 (l.t q.symm);exact hii (by rw[this])
  .exact R.ap j A s P a x z Q S y v B
theorem vy.uncap(R:vy G F σ ρ H0 H){k:Nat}{ey:List Nat}{f:St}{C ρ':aQ}{H1 p:Hp}(c:vy G ⟨H0,H,J6 ey σ ρ⟩ f C H1 p)(hd:f.drop k=(y6 k ey σ).drop k)(hu:yz ey (C.drop k) ρ=Z ρ'):vy G F σ ρ' H1 p:=by
 obtain⟨hl,hc⟩:=B3 hu;have I:∀{m j:Nat},ey[m]?=Z j->(f[k+m]?).join=(σ[j]?).join:=λ{m j} e=>by
  have q:(f.drop k)[m]?=((y6 k ey σ).drop k)[m]?:=by rw[hd]
  rw[fj,fj]at q;rw[q];exact E3 e
 have nA:∀{j:Nat} {s:Sl} {a:Addr},ρ[j]?=Z s->s.jj=γ->(σ[j]?).join=Z (.ref a)->(s.L≠J->j∉ey)->a∉J6 ey σ ρ:=λ{j s a} e so z hn ha=>by
  obtain⟨i,hi,⟨ds,d⟩,P⟩:=CZ.1 ha;obtain⟨t,r,E⟩:=zq d;by_cases hij:i=j
  .subst hij;rw[e]at r;cases r;exact hn (by rw[E];simp) hi
  .exact R.ap i j t s a hij r e (Sl.vu E) so P z
 have hA:∀a∈J6 ey σ ρ,F.B a=J\/a∈F.A:=λa ha=>by obtain⟨i,hi,⟨ds,d⟩,P⟩:=CZ.1 ha;obtain⟨t,r,E⟩:=zq d;obtain⟨Y,u,h,Q,S,h4⟩:=(R.sl i t r).at (Sl.vu E);rw[P]at h;cases h;exact h4
 have own':∀{j:Nat} {l:Sl},ρ'[j]?=Z l->l.jj=γ->∃s,ρ[j]?=Z s/\s.jj=γ:=λ{j l} e so=>by
  obtain⟨s,d,q⟩:=hc j l e;rcases q with ⟨rfl,q⟩|⟨m,ds,M,q1,T,q3,q4⟩
  .exact⟨l,d,so⟩
  .exact⟨s,d,Sl.vu q3⟩
 exact {
  sub:=c.sub
  g0:=R.g0.t c.g0
  keep:=λb o e n=>by
   refine c.keep b o (R.keep b o e n) λha=>?_;rcases hA b ha with q|q
   .rw[q]at e;cases e
   .exact n q
  fr:=λb o e=>by
   rcases c.fr b o e with q|q
   .exact R.fr b o q
   .exact .inr (R.i1 q)
  am:=λa ha=>by
   obtain⟨o,q⟩:=R.am a ha;by_cases z:a∈J6 ey σ ρ
   .exact c.am a z
   .exact⟨o,c.keep a o q z⟩
  len:=by rw[hl];exact R.len
  sl:=λj l e=>by
   obtain⟨s,d,q⟩:=hc j l e;rcases q with ⟨rfl,q⟩|⟨m,ds,M,q1,T,q3,q4⟩
   .refine(R.sl j l d).i0 c.g0 (λa u z so y=>c.keep a u y (nA d so z q)) λa u z so y y0=>?_;cases w:H1 a with
    |none=>rfl
    |some o=>
     rcases c.fr a o w with x|x
     .have U:H0 a=Z o:=x;rw[U]at y0;cases y0
     .have U:H a=J:=x;rw[U]at y;cases y
   .rw[fj]at T;obtain⟨a,xs,h,Q,S,h4,h5⟩:=c.sl _ _ T;rw[I q1]at h;have ok:=R.sl j s d;subst q4;cases s with
    |O N=>obtain⟨Y,W,g1,g2,g3,g4,g5⟩:=ok;rw[h]at g1;cases g1;exact⟨a,xs,h,Q,S,g4,h5⟩
    |pm N=>obtain⟨Y,W,g1,g2,g3,g4,g5⟩:=ok;rw[h]at g1;cases g1;exact⟨a,xs,h,Q,S,g4,h5⟩
    |_=>cases q3
  ap:=λi j s t a hij ei ej so to v v'=>by
   obtain⟨s0,z,zo⟩:=own' ei so;obtain⟨t0,y,yo⟩:=own' ej to;exact R.ap i j s0 t0 a hij z y zo yo v v' }
def Da{k:Nat}(h:rf σ ρ p)(f:yz ey t ρ=Z a):rf σ a p:=λi c e so=>by
 obtain⟨s,b,q⟩:=(B3 f).2 i c e;rcases q with ⟨rfl,q⟩|⟨m,j,d,l,o,q3,r⟩
 .exact h i c b so
 .exact h i s b (Sl.vu q3)
inductive CI(G:Bg) (F:Fr) (σ:St) (H1:Hp) (p:Addr) (k:Nat) (ey:List Nat) (g:FG) (ft:FT) (fe:FE) (ds es:bp) (ρ':aQ) (i m:Nat) (acc:bN) (H2:Hp):Prop
 |mk (ρi:aQ) (Hi:Hp) (dn er:bp):m=ds.length - i->i<=ds.length->ve H1 Hi->vy G F σ ρi Hi H2->H2 p=Z (.bt acc)->Hi p=J->rf σ ρi p->uQ G Hi dn acc->dn.length<=i->Ao k ey g ft fe (ds.drop i) ρi=Z (er,ρ')->es=dn++er->CI G F σ H1 p k ey g ft fe ds es ρ' i m acc H2
def LK{ey:List Nat}(nd:ey.Nodup):∀σ H Q,z3 G (uX k ey s g ft fe) σ H Q->GQ (μ G s) (tFG G k g) (n9 G ft) (tF G fe) k ey σ H Q:=λσ H Q hh=>by
 obtain⟨F,ρ,H0,es,ρ',R,e,kk⟩:=hh;unfold uX at e;rcases vF (f:=s) (ρ:=ρ)with e1|⟨c,ρ1,e1⟩<;>simp only[e1]at e
 .cases e
 .split at e
  .rename_i hlen;refine⟨F,ρ,H0,c,ρ1,R,e1,λAt H1 H1' s1 P wk p T=>?_⟩;refine⟨CI G F σ H1 p k ey g ft fe c es ρ',
    ⟨_,ρ1,H1,[],es,O,cq _,ve.refl _,P.l7 T _,vb,P.f5 T,P.apart T,vM,aO _,e,O⟩,?_⟩
   rintro i m acc H2 ⟨d,Hi,dn,er,rfl,hi,Y,Ri,C,U,apt,rs,hdn,a,rfl⟩;by_cases hlt:i<c.length
   .have ed:c.drop i=c[i]::c.drop (i+1):=jn hlt;rw[ed]at a;unfold Ao at a;obtain⟨go,yl⟩:=(wk i Hi H2 Y Ri.sub).1 c[i] (bh hlt);refine .inr ⟨go,λx H3 y=>?_⟩;obtain⟨I,t1,t2,t3,t4,t5⟩:=yl x H3 y;have R2:=Ri.i0 t3 t1 t2 t4;have W:H3 p=Z (.bt acc):=t3 _ _ C;have hpj:I p=J:=by
     cases w:I p with
     |none=>rfl
     |some o=>
      rcases t4 p o w with z|z
      .rw[U]at z;cases z
      .rw[C]at z;cases z
    have RC:=R2.ey k ey nd;have npA:p∉J6 ey σ d:=λz=>by obtain⟨j,_,⟨ds',q1⟩,q2⟩:=CZ.1 z;obtain⟨t,q3,q4⟩:=zq q1;exact apt j t q3 (Sl.vu q4) q2
    cases e2:g c[i] (E2 k ey d)with
    |none=>simp only[e2]at a;cases a
    |some E=>
     simp only[e2]at a;refine⟨_,_,I,c[i],E,RC,t5,e2,λσ4 B R4=>⟨B,?_⟩⟩;rcases vF (f:=ft) (ρ:=E)with S|⟨b,l,S⟩
     .simp only[S]at a;cases a
     .refine⟨_,E,I,b,l,R4,S,λH5 H5' s5 R5=>?_⟩;have keepP:∀{σ':St} {ρ'':aQ} {Ha N:Hp},vy G ⟨I,H3,J6 ey σ d⟩ σ' ρ'' Ha N->N p=Z (.bt acc)/\Ha p=J:=λRz=>by
       refine⟨Rz.keep p _ W npA,?_⟩;refine Option.eq_none_iff_forall_ne_some.2 λo M=>?_;rcases Rz.fr p o M with z|z
       .have z':I p=Z o:=z;rw[hpj]at z';cases z'
       .have z':H3 p=J:=z;rw[W]at z';cases z'
      cases b with
      |false=>
       simp only[S]at a;refine LH ?_;cases h:yz ey (l.drop k) d with
       |none=>simp only[h]at a;cases a
       |some r=>simp only[h]at a;obtain⟨w1,M⟩:=keepP R5;exact⟨c.length - (i+1),by omega,r,H5,dn,er,O,hlt,Y.t (t1.t s5),R2.uncap R5 B h,w1,M,Da (k:=k) apt h,uQ.mono (t1.t s5) _ _ rs,by omega,a,O⟩
      |true=>
       simp only[S]at a;refine LI ?_;rcases vF (f:=fe) (ρ:=l)with e5|⟨x5,ρ5,e5⟩
       .simp only[e5]at a;cases a
       .simp only[e5]at a;refine⟨_,l,H5,x5,ρ5,R5,e5,λv H6 H6' s6 R6 rv=>?_⟩;obtain⟨w1,M⟩:=keepP R6;cases h:yz ey (ρ5.drop k) d with
        |none=>simp only[h]at a;cases a
        |some r=>
         simp only[h]at a;cases e6:Ao k ey g ft fe (c.drop (i+1)) r with
         |none=>simp only[e6]at a;cases a
         |some q=>
          obtain⟨rest',ρz⟩:=q;simp only[e6]at a;cases a;have A:=R2.uncap R6 B h;have lacc:acc.length=dn.length:=(uV rs).symm;refine⟨acc,w1,DO (by omega),c.length - (i+1),by omega,r,H6,dn++[x5],rest',O,hlt,Y.t (t1.t (s5.t s6)),?_,vb,M,Da (k:=k) apt h,xj (uQ.mono (t1.t (s5.t s6)) _ _ rs) (vR rv vM),by rw[aE,cF];omega,e6,by rw[bX];rfl⟩;exact {
           sub:=λb o e=>by rw[vn (λz=>by rw[z,M]at e;cases e)];exact A.sub b o e
           g0:=A.g0
           keep:=λb o e n=>by rw[vn (λz=>by subst z;rw[P.i1 T]at e;cases e)];exact A.keep b o e n
           fr:=A.fr
           am:=λb hb=>by
            by_cases z:b=p
            .subst z;exact⟨_,vb⟩
            .rw[vn z];exact A.am b hb
           len:=A.len
           sl:=λj t ej=>(A.sl j t ej).i0 (ve.refl _) (λb u z to q=>by rw[vn (λy=>Da (k:=k) apt h j t ej to (by rw[z,y]))];exact q) λb u _ _ _ q=>q
           ap:=A.ap }
   .have ez:c.drop i=[]:=ox (by omega);rw[ez]at a;unfold Ao at a;cases a;rw[bR]at kk;exact .inl ⟨(wk i Hi H2 Y Ri.sub).2 (by omega),kk p acc Hi H2 (s1.t Y) Ri C U (P.i1 T) apt rs⟩
  .cases e
def SX{ey:List Nat}(c:ey.Nodup)(h:PE X e (GQ (μ G s) (tFG G k g) (n9 G b) (tF G a) k ey)):PE X e (z3 G (uX k ey s g b a)):=PE.d? h (LK c)
def SY:PIf X [] (n9 G vN):=λa s σ H Q I h=>by obtain⟨F,ρ,H0,b,c,R,e,k⟩:=h;cases e;exact V0 a s σ H Q I (k _ _ (ve.refl _) R)
end
def yb:D->Bool
 |.E=>γ|.I _=>γ|.int _=>γ|.str _=>γ|_=>δ
def vD:D->V
 |.E=>.E|.I b=>.I b|.int i=>.int i|.str x=>.str x|_=>.E
section
variable{X:Cx}{G:Bg}{H:Hp}
def zG(h:cb G H d v)(f:yb d=γ):v=vD d:=by cases d<;>first|(unfold cb at h;exact h)|cases f
def E4(f:yb d=γ):∀H,cb G H d (vD d):=λH=>by cases d<;>first|(unfold cb;rfl)|cases f
theorem Ga:∀{a:bp} {b:bN},uQ G H a b->a.all yb=γ->b=a.map vD
 |[],b,h,f=>by unfold uQ at h;exact h
 |d::a,b,h,f=>by unfold uQ at h;obtain⟨v,r,rfl,c,e⟩:=h;rw[gW,aW]at f;rw[aJ,zG c f.1,Ga e f.2]
def M6(f:yb d=γ):D7 (vD d)=γ:=by cases d<;>first|rfl|cases f
theorem KC:∀{a:bp},a.all yb=γ->(a.map vD).all D7=γ
 |[],_=>rfl
 |d::a,f=>by rw[gW,aW]at f;rw[aJ,gW,M6 f.1,KC f.2];rfl
def ki.or(h:ki X f r)(e:ki X f i):ki X f (λx y H Q=>r x y H Q\/i x y H Q):=λa s d H x y v u Q I b c q=>q.elim (h a s d H x y v u Q I b c) (e a s d H x y v u Q I b c)
def mn.or(h:mn G r g)(i:mn G j f):mn G (λx y H Q=>r x y H Q\/j x y H Q) (λx y=>match g x y with|some z=>Z z|none=>f x y):=λx y z b H v u Q e s c d k=>by
 cases a:g x y with
 |some w=>simp only[a]at e;cases e;exact .inl (h x y _ b H v u Q a s c d k)
 |none=>simp only[a]at e;exact .inr (i x y z b H v u Q e s c d k)
def dI(C:Int->Int->Bool)(g:Int->Int->D):D->D->Option D
 |.int a,.int b=>if C a b=γ then Z (g a b)else J
 |_,_=>J
def Po(hC:∀a b,C a b=γ->i a b)(d:∀a b,yb (g a b)=γ/\vD (g a b)=j a b):mn G (rI i j) (dI C g):=λx y z m H v u Q e s f h k=>by
 unfold dI at e;split at e
 .rename_i a b;split at e
  .rename_i l;cases e;unfold cb at f h;exact⟨a,b,f,h,hC _ _ l,by rw[<-(d a b).2];exact k _ λc _=>E4 (d a b).1 c⟩
  .cases e
 .cases e
def Gb(d:∀a b,yb (g a b)=γ/\vD (g a b)=i a b):mn G (T' i) (dI (λ_ _=>γ) g):=λx y z j H v u Q e s f h k=>by
 unfold dI at e;split at e
 .rename_i a b;split at e
  .cases e;unfold cb at f h;exact⟨a,b,f,h,by rw[<-(d a b).2];exact k _ λc _=>E4 (d a b).1 c⟩
  .cases e
 .cases e
def wR:=dI (λ_ _=>γ) λa b=>.int (a+b)
def IP:=dI (λ_ _=>γ) λa b=>.int (a - b)
def Ap(a:Int):Bool:=decide (-(2 ^ 64)<a)&&decide (a<2 ^ 64)
def xB:=dI (λa b=>Ap a||Ap b) λa b=>.int (a * b)
def xU:=dI (λ_ b=>decide (0<b)) λa b=>.int (a % b)
def D8:=dI (λ_ b=>decide (0<b)&&decide (b<1073741824)) λa b=>.int (a / b)
def SZ:=dI (λa b=>decide (0<=b)&&decide (b<=1000000)&&decide (a.natAbs<2 ^ 64)) λa b=>.int (a ^ b.toNat)
def HQ:=dI (λ_ _=>γ) λa b=>.I (decide (a<b))
def z7:=dI (λ_ _=>γ) λa b=>.I (decide (a<=b))
def LL:=dI (λ_ _=>γ) λa b=>.I (decide (b<a))
def Zs:=dI (λ_ _=>γ) λa b=>.I (decide (b<=a))
def Zt:mn G (T' λi j=>.int (i+j)) wR:=Gb λ_ _=>⟨O,O⟩
def Zu:mn G (T' λi j=>.int (i - j)) IP:=Gb λ_ _=>⟨O,O⟩
def Zv:mn G (rI VG λi j=>.int (i * j)) xB:=Po (λa b h=>by
 unfold Ap at h;simp only[jL,aW,bQ]at h;exact h) λ_ _=>⟨O,O⟩
def Zw:mn G (rI (λ_ j=>0<j) λi j=>.int (i % j)) xU:=Po (λa b h=>by simpa using h) λ_ _=>⟨O,O⟩
def Zx:mn G (rI YM λi j=>.int (i / j)) D8:=Po (λa b h=>by unfold YM;simpa using h) λ_ _=>⟨O,O⟩
def Zy:mn G (rI CPow λi j=>.int (i ^ j.toNat)) SZ:=Po (λa b h=>by
 simp only[aW,bQ]at h;exact⟨h.1.1,h.1.2,h.2⟩) λ_ _=>⟨O,O⟩
def acZ:mn G (T' λi j=>.I (decide (i<j))) HQ:=Gb λ_ _=>⟨O,O⟩
def ac0:mn G (T' λi j=>.I (decide (i<=j))) z7:=Gb λ_ _=>⟨O,O⟩
def ac1:mn G (T' λi j=>.I (decide (j<i))) LL:=Gb λ_ _=>⟨O,O⟩
def ac2:mn G (T' λi j=>.I (decide (j<=i))) Zs:=Gb λ_ _=>⟨O,O⟩
def E5:D->D->Option D
 |.str a,.str b=>if a.length+b.length<=100000 then Z (.str (a++b))else J
 |_,_=>J
def IQ(h:n<=100000):n<=aG:=bD h (by rw[bS];decide)
def WB:mn G (λx y H Q=>∃i j,x=.str i/\y=.str j/\i.length+j.length<=aG/\Q (.str (i++j)) H) E5:=λx y z h H v u Q e s c d k=>by
 unfold E5 at e;split at e
 .rename_i a b;split at e
  .rename_i f;cases e;unfold cb at c d;exact⟨a,b,c,d,IQ f,k _ λ_ _=>zB _⟩
  .cases e
 .cases e
def S0:D->D->Option D
 |.str a,.str b=>Z (.I (!decide (b.cps.toList<a.cps.toList)))
 |_,_=>J
def Zz:mn G (λx y H Q=>∃i j,x=.str i/\y=.str j/\Q (.I (!decide (j.cps.toList<i.cps.toList))) H) S0:=λx y z f H v u Q e s c d k=>by
 unfold S0 at e;split at e
 .rename_i a b;cases e;unfold cb at c d;exact⟨a,b,c,d,k _ λ_ _=>x9 _⟩
 .cases e
def y8:D->D->Option D
 |.E,.E=>Z (.I γ)
 |_,.E=>Z (.I δ)
 |_,_=>J
def wz:D->D->Option D
 |.E,.E=>Z (.I δ)
 |_,.E=>Z (.I γ)
 |_,_=>J
def Pp(h:cb G H d v):decide (v=.E)=(match d with|.E=>γ|_=>δ):=by
 cases d<;>unfold cb at h
 .subst h;rfl
 .subst h;rfl
 .subst h;rfl
 .subst h;rfl
 .obtain⟨a,b,rfl,_⟩:=h;rfl
 .obtain⟨a,b,rfl,_⟩:=h;rfl
 .obtain⟨a,b,rfl,_⟩:=h;rfl
 .obtain⟨a,c,b,rfl,_⟩:=h;rfl
 .obtain⟨a,e,b,rfl,_⟩:=h;rfl
def ZC:mn G (λx y H Q=>y=.E/\Q (.I (decide (x=.E))) H) y8:=λx y z d H v u Q e s c a k=>by
 have b:=Pp c;cases y<;>first|(cases x<;>cases e)|skip
 all_goals (unfold cb at a;refine⟨a,?_⟩;rw[b];exact k _ λ_ _=>x9 _)
def WC:mn G (λx y H Q=>y=.E/\Q (.I (!decide (x=.E))) H) wz:=λx y z d H v u Q e s c a k=>by
 have b:=Pp c;cases y<;>first|(cases x<;>cases e)|skip
 all_goals (unfold cb at a;refine⟨a,?_⟩;rw[b];exact k _ λ_ _=>x9 _)
def ad3:D->D->Option D
 |.I a,.I b=>Z (.I (a != b))
 |_,_=>J
mutual
def rh:D->Option L3.Dq
 |.E=>Z .E
 |.I b=>Z (.I b)
 |.int i=>Z (.int i)
 |.str x=>Z (.str x)
 |.du a=>match zr a with
  |some l=>Z (.du l)
  |none=>J
 |.bt a=>match zr a with
  |some l=>Z (.bt l)
  |none=>J
 |.R _=>J
 |.obj _ _ _=>J
 |.Q _ _=>J
def zr:bp->Option (List L3.Dq)
 |[]=>Z []
 |d::a=>match rh d with
  |some x=>match zr a with
   |some l=>Z (x::l)
   |none=>J
  |none=>J
end
mutual
theorem Ib:∀(d:D) (v:V) (x:L3.Dq),cb G H d v->rh d=Z x->L3.cb G.K H x v
 |.E,v,x,h,e=>by unfold rh at e;cases e;unfold cb at h;unfold L3.cb;exact h
 |.I b,v,x,h,e=>by unfold rh at e;cases e;unfold cb at h;unfold L3.cb;exact h
 |.int b,v,x,h,e=>by unfold rh at e;cases e;unfold cb at h;unfold L3.cb;exact h
 |.str b,v,x,h,e=>by unfold rh at e;cases e;unfold cb at h;unfold L3.cb;exact h
 |.du f,v,x,h,e=>by
  unfold rh at e;cases c:zr f with
  |none=>simp only[c]at e;cases e
  |some l=>simp only[c]at e;cases e;unfold cb at h;obtain⟨a,i,rfl,j,m⟩:=h;unfold L3.cb;exact⟨a,i,O,j,E6 f i l m c⟩
 |.bt f,v,x,h,e=>by
  unfold rh at e;cases c:zr f with
  |none=>simp only[c]at e;cases e
  |some l=>simp only[c]at e;cases e;unfold cb at h;obtain⟨a,i,rfl,j,m⟩:=h;unfold L3.cb;exact⟨a,i,O,gd.of j,E6 f i l m c⟩
 |.R _,v,x,h,e=>by unfold rh at e;cases e
 |.obj _ _ _,v,x,h,e=>by unfold rh at e;cases e
 |.Q _ _,v,x,h,e=>by unfold rh at e;cases e
theorem E6:∀(a:bp) (b:bN) (l:List L3.Dq),uQ G H a b->zr a=Z l->L3.uQ G.K H l b
 |[],b,l,h,e=>by unfold zr at e;cases e;unfold uQ at h;unfold L3.uQ;exact h
 |d::a,b,l,h,e=>by
  unfold zr at e;cases c:rh d with
  |none=>simp only[c]at e;cases e
  |some x=>
   simp only[c]at e;cases f:zr a with
   |none=>simp only[f]at e;cases e
   |some m=>simp only[f]at e;cases e;unfold uQ at h;obtain⟨v,r,rfl,i,j⟩:=h;unfold L3.uQ;exact⟨v,r,O,Ib d v x i c,E6 a r m j f⟩
end
def J7(neg:Bool):D->D->Option D:=λx y=>match yb x&&yb y&&Sa (vD x) (vD y)with
 |true=>Z (.I (if neg then !decide (vD x=vD y)else decide (vD x=vD y)))
 |false=>J
def Ol(neg:Bool):D->D->Option D:=λx y=>match rh x,rh y with
 |some a,Z b=>if Ph a b&&decide (lb a<=20)&&decide (lb b<=20)then Z (.I (if neg then !nr a b else nr a b))else J
 |_,_=>J
def e?(neg:Bool):D->D->Option D:=λx y=>match J7 neg x y with
 |some z=>Z z
 |none=>Ol neg x y
def ZD:mn G rEq (J7 δ):=λx y z d H v u Q e s b c k=>by
 unfold J7 at e;cases a:yb x&&yb y&&Sa (vD x) (vD y)with
 |false=>simp only[a]at e;cases e
 |true=>simp only[a]at e;cases e;simp only[aW]at a;rw[zG b a.1.1,zG c a.1.2];exact⟨a.2,k _ λ_ _=>x9 _⟩
def ZJ:mn G rNe (J7 γ):=λx y z d H v u Q e s b c k=>by
 unfold J7 at e;cases a:yb x&&yb y&&Sa (vD x) (vD y)with
 |false=>simp only[a]at e;cases e
 |true=>simp only[a]at e;cases e;simp only[aW]at a;rw[zG b a.1.1,zG c a.1.2];exact⟨a.2,k _ λ_ _=>x9 _⟩
def S4:mn G (Of G.K neg) (Ol neg):=λx y z j H v u Q e s h i k=>by
 unfold Ol at e;cases c:rh x with
 |none=>simp only[c]at e;cases e
 |some a=>
  cases f:rh y with
  |none=>simp only[c,f]at e;cases e
  |some b=>
   simp only[c,f]at e;split at e
   .rename_i d;cases e;simp only[aW,bQ]at d;exact⟨a,b,Ib x v a (cb.mono s _ _ h) c,Ib y u b (cb.mono s _ _ i) f,d.1.1,d.1.2,d.2,k _ λ_ _=>x9 _⟩
   .cases e
def ZL(a:X.A.units+64<cLine)(hK:X.K=G.K:=by rfl):ki X (bz .Eq) (λx y H Q=>rEq x y H Q\/Of G.K δ x y H Q):=by rw[<-hK];exact ki.or acw (Zc a)
def ZM(a:X.A.units+64<cLine)(hK:X.K=G.K:=by rfl):ki X (bz .NotEq) (λx y H Q=>rNe x y H Q\/Of G.K γ x y H Q):=by rw[<-hK];exact ki.or acx (Zd a)
def ac3:mn G (λx y H Q=>rEq x y H Q\/Of G.K δ x y H Q) (e? δ):=mn.or ZD S4
def ac4:mn G (λx y H Q=>rNe x y H Q\/Of G.K γ x y H Q) (e? γ):=mn.or ZJ S4
def S5:D->Option bp
 |.du a=>Z a
 |.bt a=>Z a
 |.R a=>Z a
 |_=>J
def Pq(h:cb G H d v)(e:S5 d=Z i):∃p b,v=.ref p/\(gd G.K H p b\/ij G.K H p b)/\uQ G H i b:=by
 cases d with
 |du l=>cases e;unfold cb at h;obtain⟨a,b,rfl,c,f⟩:=h;exact⟨a,b,O,.inr c,f⟩
 |bt l=>cases e;unfold cb at h;obtain⟨a,b,rfl,c,f⟩:=h;exact⟨a,b,O,.inl (gd.of c),f⟩
 |R l=>cases e;unfold cb at h;obtain⟨a,b,rfl,c,f⟩:=h;exact⟨a,b,O,.inl c,f⟩
 |_=>cases e
def n6(neg:Bool):D->D->Option D:=λx y=>match S5 y with
 |some a=>if yb x&&a.all yb then Z (.I (if neg then !inV (vD x) (a.map vD)else inV (vD x) (a.map vD)))else J
 |none=>J
def Pr{K:av}(s:ve H b)(h:gd K H p a\/ij K H p a):gd K b p a\/ij K b p a:=h.imp s.seq (ij.mono s)
def XW:mn G (rIn G.K neg) (n6 neg):=λx y z j H v u Q e s d h k=>by
 unfold n6 at e;cases b:S5 y with
 |none=>simp only[b]at e;cases e
 |some l=>
  simp only[b]at e;split at e
  .rename_i a;cases e;simp only[aW]at a;obtain⟨p,i,rfl,f,c⟩:=Pq h b;refine⟨p,i,O,Pr s f,?_,?_,?_⟩
   .rw[zG d a.1];exact M6 a.1
   .rw[Ga c a.2];exact KC a.2
   .rw[zG d a.1,Ga c a.2];exact k _ λ_ _=>x9 _
  .cases e
def ZP(hK:X.K=G.K:=by rfl):ki X (bz .In) (rIn G.K δ):=by rw[<-hK];exact QN
def Q4(hK:X.K=G.K:=by rfl):ki X (bz .NotIn) (rIn G.K γ):=by rw[<-hK];exact Ly
def f3:D->D->Option D
 |.du a,.int i=>A' a i
 |.bt a,.int i=>A' a i
 |.R a,.int i=>A' a i
 |.str x,.int i=>if x.length<=100000 then (A' x.cps.toList i).map λc=>.str ⟨#[c]⟩else J
 |_,_=>J
def ac5:mn G (rIx G.K) f3:=λx y z B H v u Q e s b r k=>by
 cases y with
 |int i=>
  unfold cb at r;subst r;cases x with
  |du f=>unfold cb at b;obtain⟨a,p,rfl,h,j⟩:=b;obtain⟨w,m,o⟩:=EZ j (show A' f i=Z z from e);exact .inr (.inl ⟨a,p,i,w,O,O,ij.mono s h,m,k _ λd l=>cb.mono l _ _ o⟩)
  |bt f=>unfold cb at b;obtain⟨a,p,rfl,h,j⟩:=b;obtain⟨w,m,o⟩:=EZ j (show A' f i=Z z from e);exact .inl ⟨a,p,i,w,O,O,s.seq (gd.of h),m,k _ λd l=>cb.mono l _ _ o⟩
  |R f=>unfold cb at b;obtain⟨a,p,rfl,h,j⟩:=b;obtain⟨w,m,o⟩:=EZ j (show A' f i=Z z from e);exact .inl ⟨a,p,i,w,O,O,s.seq h,m,k _ λd l=>cb.mono l _ _ o⟩
  |str t=>
   unfold cb at b;subst b;unfold f3 at e;simp only at e;split at e
   .rename_i A;cases q:A' t.cps.toList i with
    |none=>rw[q]at e;cases e
    |some c=>rw[q]at e;cases e;exact .inr (.inr ⟨t,i,c,O,O,IQ A,q,k _ λ_ _=>zB _⟩)
   .cases e
  |_=>cases e
 |_=>cases x<;>cases e
def ix_X(hK:X.K=G.K:=by rfl):IxR X (rIx G.K):=by rw[<-hK];exact Y1
def IR(G:Bg)(r:bN->Hp->VK->Prop)(g:D->Option D):Prop:=∀x z b H v (Q:VK),g x=Z z->ve b H->cb G b x v->(∀w,(∀a,ve b a->cb G a z w)->Q w H)->r [v] H Q
def S6(q:IR G r g)(h:PE X e (tCB r (vo G (ax f vB)))):PE X e (tF G (c1 g f)):=PE.d? h λB H Q p=>by obtain⟨F,y,j,d,b,R,e,k⟩:=p;obtain⟨x,m,o⟩:=EW e;refine⟨F,y,j,[x],b,R,by unfold ax;rw[m];rfl,λA l a s c rs=>?_⟩;unfold uQ at rs;obtain⟨v,z,rfl,u,i⟩:=rs;unfold uQ at i;subst i;exact q x d l a v Q o c.sub u λw t=>k _ _ _ s c (t _ (ve.refl _))
def wY.or(h:wY X f r)(i:wY X f j):wY X f (λx H Q=>r x H Q\/j x H Q):=λa s e H d c Q I b q=>q.elim (h a s e H d c Q I b) (i a s e H d c Q I b)
def wU:D->Option D
 |.du a=>Z (.int a.length)
 |.bt a=>Z (.int a.length)
 |.R a=>Z (.int a.length)
 |.str x=>if x.length<=100000 then Z (.int x.length)else J
 |.Q b a=>Z (.int b.length)
 |_=>J
def Q5:wY X (.builtin "len") (λc H Q=>∃a kvs,c=[V.ref a]/\Rd H a (.dK kvs)/\Q (.int kvs.length) H):=by intro b s l H c j Q I r h;obtain⟨a,kvs,rfl,e,q⟩:=h;obtain⟨u,rfl,f⟩:=m1 r;cases f;exact acL I e λt i d=>⟨.int kvs.length,H,d,⟨t,O⟩,q⟩
def XX(K:av):bN->Hp->VK->Prop:=λb H Q=>(∃p c,b=[.ref p]/\(gd K H p c\/ij K H p c)/\Q (.int c.length) H)\/((∃z,b=[.str z]/\z.length<=aG/\Q (.int z.length) H)\/(∃a kvs,b=[V.ref a]/\Rd H a (.dK kvs)/\Q (.int kvs.length) H))
def Q6(hK:X.K=G.K:=by rfl):wY X (.builtin "len") (XX G.K):=by rw[<-hK];exact wY.or LA (wY.or LB Q5)
def ZQ:IR G (XX G.K) wU:=λx z j H v Q e s b k=>by
 cases x with
 |du h=>cases e;unfold cb at b;obtain⟨a,f,rfl,c,d⟩:=b;refine .inl ⟨a,f,O,.inr (ij.mono s c),?_⟩;rw[<-uV d];exact k _ λ_ _=>xt _
 |bt h=>cases e;unfold cb at b;obtain⟨a,f,rfl,c,d⟩:=b;refine .inl ⟨a,f,O,.inl (s.seq (gd.of c)),?_⟩;rw[<-uV d];exact k _ λ_ _=>xt _
 |R h=>cases e;unfold cb at b;obtain⟨a,f,rfl,c,d⟩:=b;refine .inl ⟨a,f,O,.inl (s.seq c),?_⟩;rw[<-uV d];exact k _ λ_ _=>xt _
 |str t=>
  unfold wU at e;simp only at e;split at e
  .rename_i i;cases e;unfold cb at b;exact .inr (.inl ⟨t,by rw[b],IQ i,k _ λ_ _=>xt _⟩)
  .cases e
 |Q m h=>cases e;unfold cb at b;obtain⟨a,o,f,rfl,c,d,l⟩:=b;refine .inr (.inr ⟨a,_,O,.inr ⟨o,s _ _ c⟩,?_⟩);rw[iM,<- d,iR];exact k _ λ_ _=>xt _
 |_=>cases e
def IS:D->Option D
 |.int i=>Z (.int i)
 |.I b=>Z (.int (if b then 1 else 0))
 |_=>J
def ZR:IR G (λc H Q=>(∃i,c=[.int i]/\Q (.int i) H)\/∃k,c=[.I k]/\Q (.int (if k then 1 else 0)) H) IS:=λx z d H v Q e s a k=>by
 cases x with
 |int i=>cases e;unfold cb at a;subst a;exact .inl ⟨i,O,k _ λ_ _=>xt _⟩
 |I b=>cases e;unfold cb at a;subst a;exact .inr ⟨b,O,k _ λ_ _=>xt _⟩
 |_=>cases e
def J8:bp->Option (List Bool)
 |[]=>Z []
 |.I b::r=>(J8 r).map (b::·)
 |_=>J
theorem IT:∀{d:bp} {a:bN} {bs:List Bool},uQ G H d a->J8 d=Z bs->a=bs.map V.I
 |[],a,bs,h,e=>by cases e;unfold uQ at h;exact h
 |.I b::r,a,bs,h,e=>by
  unfold uQ at h;obtain⟨v,q,rfl,f,i⟩:=h;unfold J8 at e;cases c:J8 r with
  |none=>rw[c]at e;cases e
  |some l=>rw[c]at e;cases e;unfold cb at f;subst f;rw[IT i c];rfl
 |.E::r,a,bs,h,e=>by cases e
 |.int _::r,a,bs,h,e=>by cases e
 |.str _::r,a,bs,h,e=>by cases e
 |.du _::r,a,bs,h,e=>by cases e
 |.bt _::r,a,bs,h,e=>by cases e
 |.R _::r,a,bs,h,e=>by cases e
 |.obj _ _ _::r,a,bs,h,e=>by cases e
 |.Q _ _::r,a,bs,h,e=>by cases e
def zR:D->Option D
 |.bt a=>(J8 a).map λbs=>.I (bs.all id)
 |_=>J
def ZU:IR G (λf H Q=>∃(p:Addr) (bs:List Bool),f=[.ref p]/\gd G.K H p (bs.map V.I)/\Q (.I (bs.all id)) H) zR:=λx z j H v Q e s d k=>by
 cases x with
 |bt h=>
  unfold zR at e;simp only at e;cases b:J8 h with
  |none=>rw[b]at e;cases e
  |some bs=>rw[b]at e;cases e;unfold cb at d;obtain⟨a,f,rfl,c,i⟩:=d;rw[IT i b]at c;exact⟨a,bs,O,s.seq (gd.of c),k _ λ_ _=>x9 _⟩
 |_=>cases e
def Q7(a:X.nq=γ)(hK:X.K=G.K:=by rfl):wY X (.builtin "all") (λb H Q=>∃(p:Addr) (bs:List Bool),b=[.ref p]/\gd G.K H p (bs.map V.I)/\Q (.I (bs.all id)) H):=by rw[<-hK];exact SA a
inductive Ty where
 |b (n:String)|c (k:Nat)
def Ty.val(G:Bg):Ty->ab
 |.b n=>.type n
 |.c k=>.ref (G.ca k)
def Ty.v(G:Bg):Ty->V
 |.b n=>.ty n
 |.c k=>.ref (G.ca k)
def tyD:D->Ty
 |.E=>.b "NoneType" |.I _=>.b "bool" |.int _=>.b "int" |.str _=>.b "str" |.du _=>.b "tuple" |.bt _=>.b "list" |.R _=>.b "list" |.Q _ _=>.b "dict" |.obj c _ _=>.c c
structure M7(K:av)(C:Addr):Prop where
 cl:W1 K C
 ha:cP K (.ref C) "__class__" = Z (Z (.builtin "object.__class__"))
 hn:qW K (.builtin "object.__class__") "__get__" = Z (Z (.builtin "getset_descriptor.__get__"))
 htk:W.takesIn K (.builtin "object.__class__")=Z γ
 hm:W.mroIn K C (.type "object")=Z γ
def S7(I:c3 X pins σ H s)(hK:X.K=G.K)(hd:cb G H d v)(i:et v u)(t:∀k ns ds,d=.obj k ns ds->M7 X.K (G.ca k))
  (e:di X.K ((tyD d).val G) c=Z b) (h:∀tk,Q (.bool b) { s with toks:=tk }):ai (model X.prog X.w) A (call (.builtin "isinstance") [u,c]) Q E s:=by
 cases d with
 |E=>unfold cb at hd;subst hd;exact Ae I i .E e h
 |I x=>unfold cb at hd;subst hd;exact Ae I i (.I x) e h
 |int x=>unfold cb at hd;subst hd;exact Ae I i (.int x) e h
 |str x=>unfold cb at hd;subst hd;exact Ae I i (.str x) e h
 |du ds=>unfold cb at hd;obtain⟨a,xs,rfl,f,m⟩:=hd;cases i;rw[<-hK]at f;obtain⟨q,_,p,_⟩:=I.tuple f;obtain⟨o,j,l,_⟩:=p;exact cO mF I.qi ⟨o,j,l⟩ e (λz=>nomatch z) h
 |bt ds=>unfold cb at hd;obtain⟨a,xs,rfl,f,m⟩:=hd;exact Ae I i (.bt f) e h
 |R ds=>unfold cb at hd;obtain⟨a,xs,rfl,f,m⟩:=hd;cases i;rw[<-hK]at f;obtain⟨q,_,p,_⟩:=I.list f;obtain⟨o,n,j,l,_⟩:=p;exact cO iV I.qi ⟨o,j,l⟩ e (λz=>nomatch z) h
 |Q ks ds=>unfold cb at hd;obtain⟨a,o,xs,rfl,f,m,r⟩:=hd;cases i;obtain⟨y,_,_,vs,_,ob,es,ep,j,l,_⟩:=(show wI X.prog X.w H s.heap a (.n? o (.dK (ks.zip xs))) from I.fx a _ f);exact cO jS I.qi ⟨ob,j,l.1⟩ e (λz=>nomatch z) h
 |obj k ns ds=>have ci:=t k ns ds O;unfold cb at hd;obtain⟨a,dx,xs,rfl,f,m,r⟩:=hd;exact Ae I i (.nj f ci.cl ci.ha ci.hn ci.htk ci.hm) e h
def v5(t:Ty->Option Bool):D->Option D:=λd=>(t (tyD d)).map .I
def KD(c:Ty){t:Ty->Option Bool}(m:∀y b,t y=Z b->di X.K (y.val G) (c.val G)=Z b)(l:∀k b,t (.c k)=Z b->M7 X.K (G.ca k))(hK:X.K=G.K:=by rfl):
  wY X (.builtin "isinstance") (λi H Q=>∃d x b,i=[x,c.v G]/\cb G H d x/\t (tyD d)=Z b/\Q (.I b) H):=by
 intro f s E H i C Q I r h;obtain⟨d,x,b,rfl,hd,e,q⟩:=h;obtain⟨u,p,rfl,o,a⟩:=Y' r;have j:p=c.val G:=by cases c<;>exact a
 subst j;exact S7 I hK hd o (λk A w z=>by subst z;exact l k b e) (m _ _ e) λB=>⟨.I b,H,I.xr _,O,q⟩
def Pt{c:Ty}(h:PE X e (tCB (λu H Q=>∃d x b,u=[x,c.v G]/\cb G H d x/\t (tyD d)=Z b/\Q (.I b) H) (D6 (tF G f) (D6 (tC (c.v G)) JZ)))):PE X e (tF G (c1 (v5 t) f)):=PE.d? h λz H Q q=>by
 obtain⟨F,w,m,d,j,R,e,k⟩:=q;obtain⟨x,p,a⟩:=EW e;unfold v5 at a;cases i:t (tyD x)with
 |none=>rw[i]at a;cases a
 |some b=>rw[i]at a;cases a;exact⟨F,w,m,x,j,R,p,λv y o s l r=>⟨x,v,b,O,cb.mono l.sub _ _ r,i,k _ _ _ s l (x9 b)⟩⟩
def xq(f g:FE):FA:=λe=>match f e with
 |some (.bt c,a)=>match g a with
  |some (.bt d,b)=>if c.length+d.length<=1000 then Z (c++d,b)else J
  |_=>J
 |_=>J
def WE(N:PE X a (tF G f))(P:PE X b (tF G g)):PE X (.BinOp a .Add b pos) (z3 G (xq f g)):=PE.d? (O5 Y3 N P) λσ H Q S=>by
 obtain⟨F,U,w,d,W,R,e,k⟩:=S;unfold xq at e;split at e
 .rename_i xs c C;split at e
  .rename_i ys Y E;split at e
   .rename_i T;cases e;refine⟨F,U,w,_,c,R,C,λv x y s A r=>⟨F,c,x,_,_,A,E,λu H2 z t R2 q=>?_⟩⟩;have o:=cb.mono t _ _ r;unfold cb at o q;obtain⟨a1,i,rfl,I,l⟩:=o;obtain⟨B,j,rfl,M,m⟩:=q;refine⟨a1,B,i,j,O,O,R2.sub _ _ I,R2.sub _ _ M,by rw[<-uV l,<- uV m];exact x8 T,λp h=>?_⟩;exact k p _ _ _ (s.t t) (R2.l7 h _) vb (R2.f5 h) (R2.i1 h) (R2.apart h) (xj l m)
   .cases e
  .cases e
 .cases e
def AX(f:FE):FA:=λc=>match f c with
 |some (d,a)=>match S5 d with
  |some b=>Z (b,a)
  |none=>J
 |none=>J
def S8(h:PE X e (tCB (λm H Q=>∃p c,m=[.ref p]/\(gd G.K H p c\/ij G.K H p c)/\∀l,H l=J->Q (.ref l) (ff H l (.bt c))) (vo G (ax f vB)))):PE X e (z3 G (AX f)):=PE.d? h λM H Q y=>by
 obtain⟨F,o,r,E,A,R,e,k⟩:=y;unfold AX at e;rcases vF (f:=f) (ρ:=o)with i|⟨d,B,i⟩<;>simp only[i]at e
 .cases e
 .cases j:S5 d with
  |none=>simp only[j]at e;cases e
  |some u=>simp only[j]at e;cases e;refine⟨F,o,r,[d],_,R,by unfold ax;rw[i];rfl,λc C t s a rs=>?_⟩;unfold uQ at rs;obtain⟨v,I,rfl,z,q⟩:=rs;unfold uQ at q;subst q;obtain⟨p,m,rfl,w,x⟩:=Pq z j;exact⟨p,m,O,Pr a.sub w,λl b=>k l _ _ _ s (a.l7 b _) vb (a.f5 b) (a.i1 b) (a.apart b) x⟩
def Om(hK:X.K=G.K:=by rfl):wY X (.type "list") (λb H Q=>∃p a,b=[.ref p]/\(gd G.K H p a\/ij G.K H p a)/\∀l,H l=J->Q (.ref l) (ff H l (.bt a))):=by rw[<-hK];exact LC
def E7(f:FE):FE:=λc=>match f c with
 |some (.bt b,a)=>Z (.du b,a)
 |some (.du b,a)=>Z (.du b,a)
 |_=>J
def S9(h:PE X e (tCB (λr H Q=>∃p d,r=[.ref p]/\((gd G.K H p d/\∀l,H l=J->Q (.ref l) (ff H l (.du d)))\/(ij G.K H p d/\Q (.ref p) H))) (vo G (ax f vB)))):PE X e (tF G (E7 f)):=PE.d? h λI H Q A=>by
 obtain⟨F,y,w,E,C,R,e,k⟩:=A;unfold E7 at e;split at e
 .rename_i r u j;cases e;refine⟨F,y,w,[_],_,R,by unfold ax;rw[j];rfl,λd z i s a rs=>?_⟩;unfold uQ at rs;obtain⟨v,B,rfl,b,c⟩:=rs;unfold uQ at c;subst c;unfold cb at b;obtain⟨p,t,rfl,m,x⟩:=b;refine⟨p,t,O,.inl ⟨gd.of (a.sub _ _ m),λl o=>?_⟩⟩;exact k _ _ _ (s.t (vw (a.f5 o) _)) (a.P? o _) (EV (ij.of vb) (uQ.mono (vw (a.f5 o) _) _ _ x))
 .rename_i r u j;cases e;refine⟨F,y,w,[_],_,R,by unfold ax;rw[j];rfl,λd z i s a rs=>?_⟩;unfold uQ at rs;obtain⟨v,B,rfl,b,c⟩:=rs;unfold uQ at c;subst c;have q:=b;unfold cb at b;obtain⟨p,t,rfl,m,x⟩:=b;exact⟨p,t,O,.inr ⟨ij.mono a.sub m,k _ _ _ s a q⟩⟩
 .cases e
def Q8(hK:X.K=G.K:=by rfl):wY X (.type "tuple") (λb H Q=>∃p a,b=[.ref p]/\((gd G.K H p a/\∀l,H l=J->Q (.ref l) (ff H l (.du a)))\/(ij G.K H p a/\Q (.ref p) H))):=by rw[<-hK];exact J1
def rl(xs:bp)(lo a:Option Int):bp:=(xs.drop (HT.j0 xs.length 0 lo)).take (HT.j0 xs.length xs.length a - HT.j0 xs.length 0 lo)
def M8{lo:Option Int}(r:uQ G a b d):uQ G a (rl b lo c) (MJ d lo c):=by unfold rl MJ;rw[<-uV r];exact Kx _ (Kw _ r)
def tO(o:Option Int):TO:=λ_ H Q=>Q o H
def Ta{j pos}:PO X (Z (.Constant (.int n) j pos)) (tO (Z n)):=λa s b H Q I h=>Pc Lq a s b H Q I ⟨n,O,h⟩
def ac6:PO X J (tO J):=Pb
def sl_X(hK:X.K=G.K:=by rfl):SlR X (VU G.K):=by rw[<-hK];exact VV
end
def Sl.W2:Sl->Sl
 |.un=>.un
 |.z d=>.z d
 |.O a=>.z (.bt a)
 |.pm a=>.z (.bt a)
 |.dk _ _=>.un
 |.ob c b a=>.z (.obj c b a)
section
variable{X:Cx}{G:Bg}
theorem vy.W2(R:vy G F σ ρ H0 H):vy G ⟨H,H,[]⟩ σ (ρ.map Sl.W2) H H where
 sub:=ve.refl _
 g0:=ve.refl _
 keep:=λb o e _=>e
 fr:=λb o e=>.inl e
 am:=λa h=>by cases h
 len:=by rw[ah];exact R.len
 sl:=λi s e=>by
  rw[bA]at e;cases m:ρ[i]? with
  |none=>rw[m]at e;cases e
  |some t=>
   rw[m]at e;cases e;have ok:=R.sl i t m;cases t with
   |un=>trivial
   |z d=>obtain⟨v,f,l⟩:=ok;exact⟨v,f,cb.mono R.sub _ _ l⟩
   |O ds=>obtain⟨a,xs,f,l,q,r,p⟩:=ok;exact⟨_,f,BZ l (uQ.mono R.sub _ _ p)⟩
   |pm ds=>obtain⟨a,xs,f,l,q,r,p⟩:=ok;exact⟨_,f,BZ l (uQ.mono R.sub _ _ p)⟩
   |dk ks ds=>trivial
   |ob c ns ds=>obtain⟨a,dx,xs,f,l,q,r,p,u⟩:=ok;exact⟨_,f,by unfold cb;exact⟨a,dx,xs,O,l,p,uQ.mono R.sub _ _ u⟩⟩
 ap:=λi j s t a _ e _ so=>by
  rw[bA]at e;cases m:ρ[i]? with
  |none=>rw[m]at e;cases e
  |some t=>rw[m]at e;cases e;cases t<;>cases so
def vy.unbor(R:vy G F h ρ d H)(c:vy G ⟨H,H,[]⟩ i f j a):vy G F h ρ d a:=
 R.i0 (λb o e=>c.keep b o e (by simp)) (ve.refl _) (λb o e=>c.keep b o (R.sub _ _ e) (by simp)) λb o e=>.inl e
def AR(f:FE):FE:=λa=>match f (a.map Sl.W2)with
 |some (d,_)=>if yb d=γ then Z (d,a)else J
 |none=>J
def z5(f:FT):FT:=λa=>match f (a.map Sl.W2)with
 |some (d,_)=>Z (d,a)
 |none=>J
def ZX(h:PE X e (tF G f)):PE X e (tF G (AR f)):=PE.d? h λt H Q m=>by
 obtain⟨F,i,p,d,o,R,e,k⟩:=m;unfold AR at e;rcases vF (f:=f) (ρ:=i.map Sl.W2)with a|⟨x,b,a⟩<;>simp only[a]at e
 .cases e
 .split at e
  .rename_i c;cases e;refine⟨_,_,H,d,b,R.W2,a,λv q j s l r=>?_⟩;rw[zG r c];exact k _ _ _ (ve.refl _) (R.unbor l) (E4 c _)
  .cases e
def WG(h:PT X e (n9 G f)):PT X e (n9 G (z5 f)):=PT.d? h λq H Q l=>by
 obtain⟨F,c,o,d,m,R,e,k⟩:=l;unfold z5 at e;rcases vF (f:=f) (ρ:=c.map Sl.W2)with a|⟨x,b,a⟩<;>simp only[a]at e
 .cases e
 .cases e;exact⟨_,_,H,d,b,R.W2,a,λp i s j=>k _ _ (ve.refl _) (R.unbor j)⟩
def yK(g h:D->D->Option D)(d e f:FE):FE:=λi=>match d i with
 |some (x,b)=>match e b with
  |some (y,a)=>match g x y with
   |some (.I γ)=>match f a with
    |some (z,c)=>match h y z with
     |some w=>Z (w,c)
     |none=>J
    |none=>J
   |some (.I δ)=>Z (.I δ,a)
   |_=>J
  |none=>J
 |none=>J
def M9(ho:mn G r g)(I:mn G r' Y):∀N H Q,tF G (yK g Y T U W) N H Q->N2 r r' (tF G T) (tF G U) (tF G W) N H Q:=λN H Q hh=>by
 obtain⟨F,m,H0,d,ρ',R,e,k⟩:=hh;unfold yK at e;rcases vF (f:=T) (ρ:=m)with p|⟨x,b,p⟩<;>simp only[p]at e
 .cases e
 rcases vF (f:=U) (ρ:=b)with A|⟨y,c,A⟩<;>simp only[A]at e
 .cases e
 refine⟨F,m,H0,x,b,R,p,λv H1 H1' s1 R1 r1=>⟨F,b,H1,y,c,R1,A,λu h i o R2 M=>?_⟩⟩;split at e
 .rename_i B;refine ho x y _ h i v u _ B R2.sub (cb.mono o _ _ r1) M λw l=>?_;have a:=l h (ve.refl _);unfold cb at a;refine⟨γ,a,LI ?_⟩;rcases vF (f:=W) (ρ:=c)with C|⟨z,ρ3,C⟩<;>simp only[C]at e
  .cases e
  cases E:Y y z with
  |none=>simp only[E]at e;cases e
  |some q=>simp only[E]at e;cases e;refine⟨F,c,h,z,_,R2,C,λt P j s3 S r3=>?_⟩;exact I y z _ P j u t Q E S.sub (cb.mono s3 _ _ M) r3 λw l=>k w P j (s1.t (o.t s3)) S (l _ (ve.refl _))
 .rename_i B;cases e;refine ho x y _ h i v u _ B R2.sub (cb.mono o _ _ r1) M λw l=>?_;have a:=l h (ve.refl _);unfold cb at a;exact⟨δ,a,LH (k _ _ _ (s1.t o) R2 (x9 δ))⟩
 .cases e
def Tc(w:ki X (bz h) r)(f:ki X (bz d) x)(u:mn G r g)(e:mn G x m)(o:PE X a (tF G i))(p:PE X b (tF G j))(q:PE X c (tF G l))
  (t:lastMarks [h,d] [b,c]=δ:=by with_unfolding_all rfl):PE X (.Compare a [h,d] [b,c] pos) (tF G (yK g m i j l)):=PE.d? (Se w f o p q t) (M9 u e)
def Q9(C:ki X (bz l) r)(i:ki X (bz f) E)(B:mn G r g)(h:mn G E u)(w:PE X a (tF G p))(x:PE X b (tF G q))(y:PE X c (tF G t))
  (A:lastMarks [l,f] [b,c]=δ:=by with_unfolding_all rfl):PT X (.Compare a [l,f] [b,c] pos) (n9 G (cT (yK g u p q t))):=PT.d? (Sf C i w x y A) λm H Q z=>by
 obtain⟨F,I,o,d,j,R,e,k⟩:=Pk m H Q z;exact M9 B h m H _ ⟨F,I,o,d,j,R,e,k⟩
end
def D9(P:aH)(w:az)(K:av)(b:Str->Option ab)(b?:Heap)(k:Nat)(x:Str)(c:aF)(d:Sp):Prop:=
 ∃(f:Addr) (a:bV),b x=Z (.ref f)/\d9 K (.ref f)=γ/\l? K a c []/\zm P w K b b? H? k f a c d
def LM(G:Bg)(P:aH)(w:az)(d:Str->Option ab)(b?:Heap)(k:Nat)(x:Str)(c:Nat)(e:aF)(dvs:bN)(g:bp->Option (aF×bp)):Prop:=
 ∃(f:Addr) (b:bV) (a:List ab),Mk G.K (G.ca c) f/\d x=Z (.ref (G.ca c))/\l? G.K b e a/\ef dvs a/\zm P w G.K d b? H? k f b e (spI G c g)
def B4(G:Bg)(P:aH)(w:az)(d:Str->Option ab)(b?:Heap)(k:Nat)(m:Str)(c:Nat)(h:bp->Option D):Prop:=
 ∃(f:Addr) (a:bV) (b:aF),W1 G.K (G.ca c)/\Meth G.K (G.ca c) m f/\l? G.K a b []/\zm P w G.K d b? H? k f a b (fu G h)
section
variable{X:Cx}{G:Bg}{k:Nat}{x m:Str}{p pos apos:Pos}{e o:Expr}{es:List Expr}{a:FA}{ps:aF}
def GR{c:Type}(g:bp->c):(λb=>g (b++[]))=g:=funext λb=>by rw[bR]
def ZY(D:D9 X.prog X.w X.K X.mg X.b? k x ps (fu G g))(t:xA k X.A)(j:PA X (e::es) (vo G a))(r:Gl X x:=by rfl)(b:(x==("__debug__" : Str))=δ:=by decide)(l:aC (e::es) X.b1=(δ,eval e X.b1)::aC es X.b1:=by rfl)(hpl:(bE pos (aC es X.b1)).any (·.1)=δ:=by rfl):
  PE X (.Call (.Name x p) (e::es) [] pos) (tF G (uM g a)):=by
 obtain⟨f,u,c,d,h,i⟩:=D;have q:=Wq (dvs:=[]) (dds:=[]) (λ_=>vM) (HZ (p:=p) (pos:=pos) i t r c d h .nil IC j b l hpl);rw[GR]at q;exact q
def WH(D:D9 X.prog X.w X.K X.mg X.b? k x ps (ub G g))(t:xA k X.A)(j:PA X (e::es) (vo G a))(r:Gl X x:=by rfl)(b:(x==("__debug__" : Str))=δ:=by decide)(l:aC (e::es) X.b1=(δ,eval e X.b1)::aC es X.b1:=by rfl)(hpl:(bE pos (aC es X.b1)).any (·.1)=δ:=by rfl):
  PE X (.Call (.Name x p) (e::es) [] pos) (z3 G (vK g a)):=by
 obtain⟨f,u,c,d,h,i⟩:=D;have q:=SQ (dvs:=[]) (dds:=[]) (λ_=>vM) (HZ (p:=p) (pos:=pos) i t r c d h .nil IC j b l hpl);rw[GR]at q;exact q
def Td(D:D9 X.prog X.w X.K X.mg X.b? k x ps (ub G g))(l:xA k X.A)(j:Gl X x:=by rfl)(b:(x==("__debug__" : Str))=δ:=by decide):PE X (.Call (.Name x p) [] [] pos) (z3 G (vK g vB)):=by obtain⟨f,q,c,d,h,i⟩:=D;exact QY (Sk i l j c d h .nil IC b)
def WI(D:D9 X.prog X.w X.K X.mg X.b? k x ps (u7 G g))(t:xA k X.A)(u:PE X e (BU i))(q:PA X es (vo G a))(r:Gl X x:=by rfl)(b:(x==("__debug__" : Str))=δ:=by decide)(c:aC (e::es) X.b1=(δ,eval e X.b1)::aC es X.b1:=by rfl)(hpl:(bE pos (aC es X.b1)).any (·.1)=δ:=by rfl):
  PE X (.Call (.Name x p) (e::es) [] pos) (tF G (vH g i a)):=by
 obtain⟨f,y,d,h,j,l⟩:=D;exact Zr (HZ (p:=p) (pos:=pos) l t r d h j .nil IC (xi u q c) b c hpl)
def WJ(M:LM G X.prog X.w X.mg X.b? k x c ps dvs g)(hd:∀H,uQ G H dds dvs)(y:xA (k+1) X.A)(r:PA X (e::es) (vo G a))(hK:X.K=G.K:=by rfl)(u:Gl X x:=by rfl)(b:(x==("__debug__" : Str))=δ:=by decide)
  (t:aC (e::es) X.b1=(δ,eval e X.b1)::aC es X.b1:=by rfl) (hpl:(bE pos (aC es X.b1)).any (·.1)=δ:=by rfl):
  PE X (.Call (.Name x p) (e::es) [] pos) (tF G (vE c (λd=>g (d++dds)) a)):=by
 obtain⟨f,z,d,h,l,i,q,j⟩:=M;rw[<-hK]at h i j;exact Ws hd (VO (p:=p) (pos:=pos) h j y u l i q IC r b t hpl)
def XY(M:∀c h,g c=Z h->B4 G X.prog X.w X.mg X.b? k m c h)(q:xA k X.A)(hK:X.K=G.K):∀C b,MT G g C b->MOk X C m b [] E0:=λC b h=>by obtain⟨c,h,e,rfl,rfl⟩:=h;obtain⟨f,l,ps,d,i,q3,j⟩:=M c h e;rw[<-hK]at d i q3 j;exact⟨k,f,l,ps,[],d,i,j,q,q3,.nil,IC⟩
def Rb(M:∀c h,g c=Z h->B4 G X.prog X.w X.mg X.b? k m c h)(j:xA k X.A)(i:PE X o (tF G f))(d:PA X (e::es) (vo G a))(hK:X.K=G.K:=by rfl)
  (hst:aC (e::es) X.b1=(δ,eval e X.b1)::aC es X.b1:=by rfl) (hpl:(bE pos (aC es X.b1)).any (·.1)=δ:=by rfl)
  (l:eval (.Call (.Attribute o m apos) (e::es) [] pos) X.b1=(do
   let b<-eval o X.b1
   standAt apos.atName
   let (f,first)<-holding [b] (getMethod b m pl)
   callWith pos f first (bE pos (aC (e::es) X.b1)) (backToKw pos (d8 [] X.b1))):=by rfl):
  PE X (.Call (.Attribute o m apos) (e::es) [] pos) (tF G (vh g m f a)):=Wr (E:=E0) (SU (dvs:=[]) (MT G g) (XY M j hK) i d hst hpl l)
def On(M:∀c h,g c=Z h->B4 G X.prog X.w X.mg X.b? k m c h)(i:xA k X.A)(d:PE X o (tF G f))(hK:X.K=G.K:=by rfl)
  (j:eval (.Call (.Attribute o m apos) [] [] pos) X.b1=(do
   let b<-eval o X.b1
   standAt apos.atName
   let (f,first)<-holding [b] (getMethod b m pl)
   callWith pos f first (bE pos (aC [] X.b1)) (backToKw pos (d8 [] X.b1))):=by rfl):
  PE X (.Call (.Attribute o m apos) [] [] pos) (tF G (vh g m f vB)):=SV (E:=E0) (Q0 (dvs:=[]) (MT G g) (XY M i hK) d j)
end
section
variable{P:aH}{w:az}{K:av}{mg:Str->Option ab}{b?:Heap}{x qual:Str}{st:Stmt}{f T:Addr}{fd:bV}{N ps:aF}{k:Nat}{G:Bg}
abbrev GT(P:aH)(w:az)(K:av)(mg:Str->Option ab)(b?:Heap)(N:aF)(qual:Str)(st:Stmt)(f:Addr)(cdv:ab)(A:aI)(da:List Env)(s:ae)(H:Hp)(E:XK):Cx:=(MF H? P w K mg b? N qual (vt st) f cdv A da s H E).nox
theorem Te(a:g=fb np n b)(c:ps.length=np)(hN:N.length=n)(F:Fun K x qual st f fd)(S:xJ N ps (vt st))(body:∀(cdv:ab) (A:aI) (da:List Env) (s:ae) (H:Hp) (E:XK),xA k (A.deeper (envOfC qual (vt st) s.heap.objs.size f cdv))->p5 (GT P w K mg b? N qual st f cdv A da s H E) (vV st) (mq G b)):
  zm P w K mg b? H? (k+1) f fd ps (fu G g):=by
 subst a c hN;exact F.ok S (acV Wm) λcdv A da s H e Q E d h=>⟨_,body cdv A da s H E d,Wk (by have:=bG dh S.pre;rw[bY]at this;omega) h⟩
theorem ac7(a:g=yq e n b)(c:ps.length=e)(hN:N.length=n)(F:Fun K x qual st f fd)(S:xJ N ps (vt st))(body:∀(cdv:ab) (A:aI) (da:List Env) (s:ae) (H:Hp) (E:XK),xA k (A.deeper (envOfC qual (vt st) s.heap.objs.size f cdv))->p5 (GT P w K mg b? N qual st f cdv A da s H E) (vV st) (mq G b)):
  zm P w K mg b? H? (k+1) f fd ps (ub G g):=by
 subst a c hN;exact F.ok S (acW Wn) λcdv A da s H i Q E d h=>⟨_,body cdv A da s H E d,Wl (by have:=bG dh S.pre;rw[bY]at this;omega) h⟩
theorem ac8{ps:aF}(a:g=t? e n b)(c:ps.length=e)(hN:N.length=n)(F:Fun K x qual st f fd)(S:xJ N (p::ps) (vt st))(body:∀(cdv:ab) (A:aI) (da:List Env) (s:ae) (H:Hp) (E:XK),xA k (A.deeper (envOfC qual (vt st) s.heap.objs.size f cdv))->p5 (GT P w K mg b? N qual st f cdv A da s H E) (vV st) (mq G b)):
  zm P w K mg b? H? (k+1) f fd (p::ps) (u7 G g):=by
 subst a c hN;exact F.ok S (acY Ww) λcdv A da s H i Q E d h=>⟨_,body cdv A da s H E d,Wv (by have:=bG dh S.pre;rw[bY,aN]at this;omega) h⟩
def XZ(d:∀a q,g a=Z q->a.length=i):∀b H Q E,spI G c g b H Q E->b.length=i+1:=λb H Q E h=>by obtain⟨p,l,t,j,a,o,m,rfl,_,_,_,r,e,_⟩:=h;rw[aN,<- uV r,d _ _ e]
theorem ac9{ps:aF}(a:g=v? c i n b)(d:ps.length=i)(hN:N.length=n)(F:Fun K x qual st f fd)(S:xJ N (p::ps) (vt st))(body:∀(cdv:ab) (A:aI) (da:List Env) (s:ae) (H:Hp) (E:XK),xA k (A.deeper (envOfC qual (vt st) s.heap.objs.size f cdv))->p5 (GT P w K mg b? N qual st f cdv A da s H E) (vV st) (mq G b)):
  zm P w K mg b? H? (k+1) f fd (p::ps) (spI G c g):=by
 subst a d hN;exact F.ok S (XZ λj q h=>(IJ h).1) λcdv A da s H l Q E e h=>⟨_,body cdv A da s H E e,Pn (by have:=bG dh S.pre;rw[bY,aN]at this;omega) h⟩
theorem ZZ{ps:aF}(a:g=v? c i n b)(d:ps.length=i)(hN:N.length=n)(F:QV K x qual st f fd T)(S:xJ N (p::ps) (vt st))(body:∀(cdv:ab) (A:aI) (da:List Env) (s:ae) (H:Hp) (E:XK),xA k (A.deeper (envOfC qual (vt st) s.heap.objs.size f cdv))->p5 (GT P w K mg b? N qual st f cdv A da s H E) (vV st) (mq G b)):
  zm P w K mg b? H? (k+1) f fd (p::ps) (spI G c g):=by
 subst a d hN;exact F.ok S (XZ λj q h=>(IJ h).1) λcdv A da s H l Q E e h=>⟨_,body cdv A da s H E e,Pn (by have:=bG dh S.pre;rw[bY,aN]at this;omega) h⟩
end
section
variable{X:Cx}{G:Bg}
def AY(G:Bg)(a:Str->Option ab)(x:Str)(d:D):Prop:=∃(v:V) (u:ab),a x=Z u/\et v u/\∀H,cb G H d v
def Tf(h:AY G X.mg x d)(e:Gl X x:=by rfl)(hd:(x==("__debug__" : Str))=δ:=by decide):PE X (.Name x pos) (tF G (cC d)):=by obtain⟨v,u,a,b,c⟩:=h;exact V6 (HY e a b hd) c
def Tg:FS:=λ_=>J
def Bd(i:Nat)(j:Int)(f:FE):FS:=λc=>match f c with
 |some (d,a)=>match xa a i with
  |some b=>match ixN b.length j with
   |some k=>Z (.nx (putAt a i (b.set k d)))
   |none=>J
  |none=>J
 |none=>J
def Re{st:Stmt}(h:PS X st (Ep (tF G f) (gSub (BU i) (tC (.int j)) XQ))):PS X st (mq G (Bd i j f)):=PS.d? h λE P H z=>by
 obtain⟨F,q,u,o,R,e,k,N⟩:=z;unfold Bd at e;rcases vF (f:=f) (ρ:=q)with c|⟨d,b,c⟩<;>simp only[c]at e
 .cases e
 cases l:xa b i with
 |none=>simp only[l]at e;cases e
 |some y=>
  simp only[l]at e;cases p:ixN y.length j with
  |none=>simp only[p]at e;cases e
  |some m=>simp only[p]at e;cases e;refine⟨F,q,u,d,b,R,c,λv M w s x r=>?_⟩;obtain⟨a,I,A,B,t,C⟩:=yy x l;exact⟨.ref a,A,a,I,j,m,O,O,B,by rw[<-uV t];exact p,k _ _ _ s (C _ _ (MR m t r))⟩
def wL(T:String):Ty->Option Bool
 |.b n=>if n="NoneType" then Z δ else if n="bool" then Z (T=="bool" ||T=="int")else if n="int" then Z (T=="int")else if n="str" then Z (T=="str")else if n="tuple" then Z (T=="tuple")else if n="list" then Z (T=="list")else if n="dict" then Z (T=="dict")else J
 |.c _=>J
def Ti:∀k b,wL T (.c k)=Z b->M7 X.K (G.ca k):=λk b h=>by cases h
def Tj:∀y b,wL "list" y=Z b->di X.K (y.val G) (.type "list")=Z b:=λy b h=>by
 cases y with
 |c k=>cases h
 |b n=>
  unfold wL at h;simp only at h
  iterate 7 (split at h;· rename_i e;subst e;cases h;first|rfl|kernel_rfl)
  cases h
def WK:∀y b,wL "str" y=Z b->di X.K (y.val G) (.type "str")=Z b:=λy b h=>by
 cases y with
 |c k=>cases h
 |b n=>
  unfold wL at h;simp only at h
  iterate 7 (split at h;· rename_i e;subst e;cases h;first|rfl|kernel_rfl)
  cases h
end
end L4
namespace L3
open PySem PySem.Spec PyProof.Rows L2
def WL{X:Cx}{spos:Pos}{ey:List Nat}
  (S:X.nq=γ) (hN:X.N.Nodup) (hy:X.N[i]?=Z y) (hyl:Loc X.b1.scope y) (T:PI X p iter wi)
  (body:∀(q:List (Str×Addr)) (C:Addr) (fp:List Addr) (s:ae) (H:Hp),PG (w9 X N' scope q C fp s H) p g/\PIf (w9 X N' scope q C fp s H) ifs tt/\PE (w9 X N' scope q C fp s H) elt te)
  (hkind:scope.kind=.function:=by rfl) (hcell:(scope.names.all λy=>y.2 != .cell)=γ:=by rfl)
  (hloc:(scope.names.all λy=>y.2 != .local||scope.names.lookup y.1==Z .local)=γ:=by rfl)
  (hfree:(scope.names.all λy=>y.2 != .free||(X.b1.kindOf y.1==Z .cell||X.b1.kindOf y.1==Z .free))=γ:=by rfl)
  (d:N'.length=k+ey.length:=by rfl) (hcap:(N'.drop k).map Z=ey.map λj=>X.N[j]?:=by rfl)
  (hcf:((N'.drop k).all λx=>scope.names.lookup x==Z .free)=γ:=by rfl)
  (Y:∀x,iF iter X.b1 x=pure x:=by intro _;rfl)
  (hsw:dG (.ListComp elt [⟨p,iter,ifs,0⟩] scope pos) (Z (.Name y l)) spos.line X.b1=pure γ:=by rfl)
  (hfy:X.fn y=γ\/X.b1.scope.names.lookup y=Z .local:=by first|exact .inl O|exact .inr O|assumption):
  PS X (.Assign [.Name y l] (.ListComp elt [⟨p,iter,ifs,0⟩] scope pos) spos) (Ep (GQ wi g tt te k ey) (AU i)):=by
 intro f s σ H D I h;rw[exec_Assign_Name_used _ _ _ _ hsw];refine af (jN (af ?_));show ai _ X.A (do let _<-comprehension (.ListComp elt [⟨p,iter,ifs,0⟩] scope pos) scope X.b1 _ (newList []) δ (eval iter X.b1) (Z (assign (.Name y l) X.b1))) _ _ s;refine af (b9 (Kv (P:=λ_ E=>SP X f D .next E) S T body hkind hcell hloc hfree d hcap hcf Y I h λa C m u F M U J? fpC qn=>?_) (λ_ E W=>ar (ar W)) λ_ _ e=>e);obtain⟨oC,esC,nC,gC,dC,rC⟩:=id U;have R:=J?.X' (fp:=[C]) (λb c=>bj.1 c▸fpC) (λb c=>bj.1 c▸⟨oC,gC,λv z=>by rw[dC]at z;cases z⟩);show ai _ X.A (assign (.Name y l) X.b1 (.ref a)) _ _ F;refine fy (O3 (pos:=l) hN hy hyl hfy _ F σ M (.ref a) (.ref a) (λt G=>D.nx t G) R O qn) λ_ s6 zz=>?_;obtain⟨w,Q,B,q6⟩:=zz;obtain⟨p1,p2,_⟩:=B.O? (C,oC) (bx _ (bx _ (Am (by simp) gC)));exact⟨m,⟨oC,esC,nC,p1,dC,rC⟩,λh' r=>⟨w,Q,B.pa.k? (t':=s6.toks) (λb o c e=>(r.2 b c).t e) p2 fpC.2.1 fpC.2.2.2.1 fpC.2.2.2.2.1 fpC.2.2.2.2.2,q6⟩⟩
end L3
namespace L4
open PySem PySem.Spec PyProof.Rows L2 L3
section
variable{X:Cx}{G:Bg}
def IU{st:Stmt}(h:PS X st (Ep d g))(w:∀b H Q,a b H Q->d b H Q):PS X st (Ep a g):=PS.d? h λE b H c=>w _ _ _ c
def Rf{st:Stmt}{ey:List Nat}(c:ey.Nodup)(h:PS X st (Ep (GQ (μ G s) (tFG G k g) (n9 G b) (tF G a) k ey) (AU i))):PS X st (mq G (yw i (uX k ey s g b a))):=MW (IU h (LK c))
def Tn{st:Stmt}{ey:List Nat}(c:ey.Nodup)(h:PS X st (Ep (GQ (μ G s) (tFG G k g) (n9 G b) (tF G a) k ey) (AU i))):PS X st (mq G (vc i (cL (uX k ey s g b a)))):=Pm (IU (IU h (LK c)) tN_F)
end
section
variable{f g h:FS}{c:FT}{e e' e2:FE}{a a':FA}{ρ ρ' ρ1 ρ2 ρ3:aQ}{d x y z:D}{o:tf}{ds xs ys:bp}
def uK(h:f ρ=Z (.nx ρ')):uO f g ρ=g ρ':=by unfold uO;rw[h]
def uU(h:f ρ=Z (.rt d ρ')):uO f g ρ=Z (.rt d ρ'):=by unfold uO;rw[h]
def u4(h:c ρ=Z (γ,ρ')):fh c f g ρ=f ρ':=by unfold fh;rw[h]
def vI(h:c ρ=Z (δ,ρ')):fh c f g ρ=g ρ':=by unfold fh;rw[h]
def uY(h:e ρ=Z (d,ρ')):vc i e ρ=Z (.nx (ρ'.set i (.z d))):=by unfold vc;rw[h]
def Ie(h:a ρ=Z (ds,ρ')):yw i a ρ=Z (.nx (ρ'.set i (.O ds))):=by unfold yw;rw[h]
def uR(h:e ρ=Z (d,ρ')):uT e ρ=Z (.rt d ρ'):=by unfold uT;rw[h]
def xu(h:a ρ=Z (ds,ρ')):wJ a ρ=Z (.X ds ρ'):=by unfold wJ;rw[h]
def wj(h:e ρ=Z (d,ρ')):vG e ρ=Z (.nx ρ'):=by unfold vG;rw[h]
def Na(h:e ρ=Z (d,ρ1))(b:xa ρ1 i=Z ds)(l:ixN ds.length j=Z k):Bd i j e ρ=Z (.nx (putAt ρ1 i (ds.set k d))):=by unfold Bd;rw[h];simp only[b,l]
def uW{g:D->D->Option D}(b:e ρ=Z (x,ρ1))(i:e' ρ1=Z (y,ρ2))(j:g x y=Z z):c2 g e e' ρ=Z (z,ρ2):=by unfold c2;rw[b];simp only[i,j]
def vO{g:D->Option D}(b:e ρ=Z (x,ρ1))(i:g x=Z z):c1 g e ρ=Z (z,ρ1):=by unfold c1;rw[b];simp only[i]
def IV(b:e (ρ.map Sl.W2)=Z (d,ρ1))(i:yb d=γ):AR e ρ=Z (d,ρ):=by unfold AR;rw[b];simp only[i,if_true]
def Pu(i:c (ρ.map Sl.W2)=Z (b,ρ1)):z5 c ρ=Z (b,ρ):=by unfold z5;rw[i]
def vZ(i:e ρ=Z (.I b,ρ1)):cT e ρ=Z (b,ρ1):=by unfold cT;rw[i]
def xV(i:c ρ=Z (b,ρ1)):wg c ρ=Z (!b,ρ1):=by unfold wg;rw[i]
def zt(j:c ρ=Z (δ,ρ1))(l:i ρ1=Z (b,ρ2)):ya c i ρ=Z (b,ρ2):=by unfold ya;rw[j];exact l
def uJ(b:e ρ=Z (d,ρ1))(i:a ρ1=Z (ds,ρ2)):ax e a ρ=Z (d::ds,ρ2):=by unfold ax;rw[b];simp only[i]
def uL{α:Type}{g:bp->Option α}{r:α}(b:a ρ=Z (ds,ρ1))(i:g ds=Z r):F9 g a ρ=Z (r,ρ1):=by unfold F9;rw[b];simp only[i]
def vP(b:a ρ=Z (ds,ρ1)):cL a ρ=Z (.bt ds,ρ1):=by unfold cL;rw[b]
def To(b:a ρ=Z (ds,ρ1))(i:ds.length<=1000):vp a ρ=Z (ds,ρ1):=by unfold vp;rw[b];simp only[i,if_true]
def Z0(b:a ρ=Z (ds,ρ1))(i:ds.length<=1000):vC a ρ=Z (.du ds,ρ1):=by unfold vC;rw[b];simp only[i,if_true]
def w6(b:e ρ=Z (.bt xs,ρ1))(i:e' ρ1=Z (.bt ys,ρ2))(j:xs.length+ys.length<=1000):xq e e' ρ=Z (xs++ys,ρ2):=by unfold xq;rw[b];simp only[i,j,if_true]
def yL{g:bp->bp->Option (D×bp)}{i:Nat}{es es0 b:bp}(j:xa ρ i=Z es0)(l:a ρ=Z (ds,ρ1))(m:xa ρ1 i=Z es)(p:g es ds=Z (d,b)):vH g i a ρ=Z (d,putAt ρ1 i b):=by unfold vH;rw[j];simp only[l,m,p]
def Dc(b:xa ρ i=Z es0)(j:e ρ=Z (d,ρ1))(l:xa ρ1 i=Z es)(m:es.length<1000):AQ i e ρ=Z (.E,putAt ρ1 i (es++[d])):=by unfold AQ;rw[b];simp only[j,l,m,if_true]
def Tp(b:xa ρ i=Z es0)(j:a ρ=Z (ds,ρ1))(l:xa ρ1 i=Z es)(m:es.length+ds.length<=1000):HP i a ρ=Z (.E,putAt ρ1 i (es++ds)):=by unfold HP;rw[b];simp only[j,l,m,if_true]
def wm{s:FA}{g:FG}(b:s ρ=Z (ds,ρ1)):yx s g f ρ=fl g f ds ρ1:=by unfold yx;rw[b]
def E8{k:Nat}{ey:List Nat}{s:FA}{g:FG}{b:FT}{fe:FE}(i:s ρ=Z (ds,ρ1))(j:ds.length<=1000):uX k ey s g b fe ρ=Ao k ey g b fe ds ρ1:=by unfold uX;rw[i];simp only[j,if_true]
def Be(l:ds.length=m)(h:b (L4.stM n es ds)=Z (.rt d ρ))(j:E1 ρ=Z i):t? m n b es ds=Z (d,i):=by unfold t?;rw[ak l,h];simp only[j]
def Gc(l:ds.length=m)(h:b (L4.stM n es ds)=Z (.X xs ρ))(j:E1 ρ=Z i):t? m n b es ds=Z (.bt xs,i):=by unfold t?;rw[ak l,h];simp only[j]
def Aq(i:ds.length=j)(h:b (L4.Hs n ds)=Z (.X xs ρ)):yq j n b ds=Z xs:=by unfold yq;rw[ak i,h]
def uP(i:ds.length=j)(h:b (L4.Hs n ds)=Z (.rt d ρ)):fb j n b ds=Z d:=by unfold fb;rw[ak i,h]
end
def vT(es:bp):Prop:=(∃c,es=[.int c])\/∃q r n,es=[.int q,.int r,.int n]
def yf(h:Ap a=γ\/Ap b=γ):xB (.int a) (.int b)=Z (.int (a * b)):=by unfold xB dI;simp only;rw[ak (by simpa using h)]
def DP(h:0<b):xU (.int a) (.int b)=Z (.int (a % b)):=by unfold xU dI;simp only;rw[ak (by simpa using h)]
def K'(h:0<b)(c:b<1073741824):D8 (.int a) (.int b)=Z (.int (a / b)):=by unfold D8 dI;simp only;rw[ak (by simp[h,c])]
def Nc(h:0<=a)(b:a<2147483647):Ap a=γ:=by unfold Ap;simp only[aW,bQ];omega
def BE:D->Option fc
 |.int i=>Z (.inl i)
 |.str x=>Z (.inr x)
 |_=>J
def xk:List fc->bp->fc->Option D
 |k::b,d::a,j=>if k=j then Z d else xk b a j
 |_,_,_=>J
def WM(e:List fc)(b:bp)(k:fc)(d:D):bp:=gh (λc a=>if c=k then d else a) e b
def HR(b:List fc)(k:fc):Bool:=b.any λa=>decide (a=k)
section
variable{X:Cx}{G:Bg}{H:Hp}
def B5(h:cb G H d v)(e:BE d=Z k):v=kV k:=by
 cases d<;>first|cases e|skip
 all_goals (unfold cb at h;exact h)
theorem De:∀{ks:List fc} {ds:bp} {xs:bN} (j:fc),uQ G H ds xs->ks.length=xs.length->match xk ks ds j with
  |some d=>∃v,y3 (ks.zip xs) j=Z v/\cb G H d v
  |none=>y3 (ks.zip xs) j=J
 |[],ds,xs,j,r,l=>by cases ds<;>rfl
 |k::ks,ds,[],j,r,l=>by cases l
 |k::ks,[],x::xs,j,r,l=>by unfold uQ at r;cases r
 |k::ks,d::ds,x::xs,j,r,l=>by
  unfold uQ at r;obtain⟨v,q,e,c,f⟩:=r;cases e;unfold xk;by_cases a:k=j
  .rw[ak a];exact⟨x,ET (p:=(k,x)) a,c⟩
  .rw[ao a];have h:=De (ks:=ks) (ds:=ds) (xs:=xs) j f (by simpa using l);have b:y3 ((k::ks).zip (x::xs)) j=y3 (ks.zip xs) j:=EU (p:=(k,x)) a;rw[b];exact h
theorem LN:∀{a:List fc} {b:bN},a.length=b.length->((a.zip b).any λkv=>decide (kv.1=k))=HR a k
 |[],b,_=>by cases b<;>rfl
 |c::a,[],l=>by cases l
 |c::a,x::b,l=>by unfold HR;rw[fm,f6,f6,LN (by simpa using l)];rfl
theorem Pw:∀{a:List fc} {b:bN},a.length=b.length->(a.zip b).map (λkv=>if kv.1=k then (kv.1,v)else kv)=a.zip (gh (λd x=>if d=k then v else x) a b)
 |[],b,_=>by cases b<;>rfl
 |d::a,[],l=>by cases l
 |d::a,x::b,l=>by
  rw[fm,aJ,Pw (by simpa using l),iu,fm];congr 1;by_cases c:d=k
  .rw[ak c,ak c]
  .rw[ao c,ao c]
theorem Nd(hd:cb G H d v):∀{c:List fc} {b:bp} {a:bN},uQ G H b a->c.length=a.length->uQ G H (WM c b k d) (gh (λf x=>if f=k then v else x) c a)
 |[],b,a,r,l=>by unfold WM;cases b<;>cases a<;>exact vM
 |f::c,b,[],r,l=>by cases l
 |f::c,[],x::a,r,l=>by unfold uQ at r;cases r
 |f::c,m::b,x::a,r,l=>by
  unfold uQ at r;obtain⟨w,q,e,i,j⟩:=r;cases e;unfold WM;rw[iu,iu];refine vR ?_ (Nd hd j (by simpa using l));by_cases h:f=k
  .rw[ak h,ak h];exact hd
  .rw[ao h,ao h];exact i
def _root_.L2.sx.kf(e:H a=Z (.n? o (.dK kvs))):sx H a (kV k) (y3 kvs k):=.inl ⟨kvs,k,.inr ⟨o,e⟩,O,O⟩
def BF:D->D->Option D:=λx y=>match x,BE y with
 |.Q b a,Z k=>xk b a k
 |_,_=>J
def WN(hu:X.A.units+1<cLine)(U:PE X a (tF G f))(W:PE X b (tF G N))(hs:Y5 b:=by exact λ_ _=>O):PE X (.Subscript a b pos) (tF G (c2 BF f N)):=PE.d? (VX hu U W hs) λσ H Q Y=>by
 obtain⟨F,ρ,t,d,o,R,e,k⟩:=Y;obtain⟨x,y,i,I,M,c⟩:=EX e;refine⟨F,ρ,t,x,i,R,I,λv z B s1 E r1=>⟨F,i,z,y,o,E,M,λu C l r R2 r2=>?_⟩⟩;have h:=cb.mono r _ _ r1;cases x with
 |Q q ds=>
  unfold BF at c;cases m:BE y with
  |none=>simp only[m]at c;cases c
  |some j=>simp only[m]at c;unfold cb at h;obtain⟨p,ob,xs,rfl,P,S,T⟩:=h;have lv:=De (ks:=q) j T S;rw[c]at lv;obtain⟨w,w1,w2⟩:=lv;refine⟨p,w,O,?_,k w C l (s1.t r) R2 w2⟩;rw[B5 r2 m,<- w1];exact sx.kf (R2.sub _ _ P)
 |_=>unfold BF at c;cases c
def CG:D->D->Option D:=λx y=>match x,BE y with
 |.Q b a,Z k=>Z ((xk b a k).getD .E)
 |_,_=>J
def Tr(hu:X.A.units+1<cLine)(ha:PE X a (tF G f))(hb:PE X b (tF G Y))(m:M1 X a "get" apos b cpos):PE X (.Call (.Attribute a "get" apos) [b] [] cpos) (tF G (c2 CG f Y)):=PE.d? (Sw hu ha hb m) λσ H Q hh=>by
 obtain⟨F,ρ,N,d,t,R,e,k⟩:=hh;obtain⟨x,y,l,U,W,c⟩:=EX e;cases x with
 |Q o T=>
  refine⟨F,ρ,N,_,l,R,U,λv P S M C r1=>?_⟩;have i:=r1;unfold cb at i;obtain⟨p,ob,xs,rfl,I,h2,h3⟩:=i;refine⟨p,O,.inl ⟨_,.inr ⟨_,C.sub _ _ I⟩⟩,F,l,P,y,t,C,W,λu B h q R2 r2=>?_⟩;unfold CG at c;cases r:BE y with
  |none=>simp only[r]at c;cases c
  |some j=>
   simp only[r]at c;cases c;have lv:=De (ks:=o) j (uQ.mono q _ _ h3) h2;refine⟨y3 (o.zip xs) j,?_,?_⟩
   .rw[B5 r2 r];exact sx.kf (R2.sub _ _ (q _ _ I))
   .cases E:xk o T j with
    |none=>rw[E]at lv k;rw[lv];exact k _ B h (M.t q) R2 AW
    |some z=>rw[E]at lv k;obtain⟨w,w1,w2⟩:=lv;rw[w1];exact k _ B h (M.t q) R2 w2
 |_=>unfold CG at c;cases c
def GU(i:Nat):FS:=λa=>Z (.nx (a.set i (.dk [] [])))
def Tt{st:Stmt}(h:PS X st (Ep Od (AU i))):PS X st (mq G (GU i)):=PS.d? h λE u H l=>by obtain⟨F,r,m,o,R,e,k,q⟩:=l;cases e;intro p b;have c:=R.l7 b (.dK []);refine k _ _ _ (ve.refl _) (c.set (s:=.dk [] []) ⟨p,[],O,vb,R.f5 b,R.i1 b,O,vM⟩ λ_ a d j t _ f to=>?_);cases d;exact R.apart b j t f to
def y9(i:Nat)(fk fv:FE):FS:=λf=>match fv f with
 |some (d,b)=>match b[i]? with
  |some (.dk _ _)=>match fk b with
   |some (y,c)=>match BE y with
    |some k=>match c[i]? with
     |some (.dk a e)=>if a.length<1000 then if e.length=a.length then Z (.nx (c.set i (if HR a k=γ then .dk a (WM a e k d)else .dk (a++[k]) (e++[d]))))else J else J
     |_=>J
    |none=>J
   |none=>J
  |_=>J
 |none=>J
def Tu{st:Stmt}(h:PS X st (XT (BU i) (tF G S) (tF G T))):PS X st (mq G (y9 i S T)):=PS.d? h λE σ H hh=>by
 obtain⟨F,q,Y,o,R,e,k,k2⟩:=hh;unfold y9 at e;rcases vF (f:=T) (ρ:=q)with t|⟨d,c,t⟩<;>simp only[t]at e
 .cases e
 split at e
 .rename_i ks0 ds0 ei;rcases vF (f:=S) (ρ:=c)with w|⟨y,C,w⟩<;>simp only[w]at e
  .cases e
  cases z:BE y with
  |none=>simp only[z]at e;cases e
  |some j=>
   simp only[z]at e;split at e
   .rename_i A ds l;split at e
    .rename_i hl;split at e
     .rename_i hl2;cases e;refine⟨F,q,Y,d,c,R,t,λv H1 H1' s1 I r1=>?_⟩;obtain⟨m,xs0,a1,_⟩:=I.sl i _ ei;refine⟨_,y7 a1,F,c,H1,y,C,I,w,λu H2 r W R2 r2=>?_⟩;obtain⟨a,B,M,b2,N,P,b,Q⟩:=R2.sl i _ l;rw[a1]at M;cases M;refine⟨m,ff r m (.dK (m? (A.zip B) j v)),O,?_,?_⟩
      .rw[B5 r2 z];exact Sr.k b2 (by rw[iM];exact jD (Nat.min_le_left _ _) (DO (by omega)))
      .have U:=cb.mono W _ _ r1;refine k _ _ _ (s1.t W) (R2.mut l O a1 (λH' hH=>?_) ?_)
       .by_cases p:HR A j=γ
        .rw[ak p];refine⟨m,gh (λk' x=>if k'=j then v else x) A B,O,?_,N,P,by rw[kW,b,iR],Nd U Q b⟩;rw[hH];unfold m?;rw[LN b,ak p,Pw b]
        .rw[ao p];refine⟨m,B++[v],O,?_,N,P,by rw[aE,aE,b];rfl,xj Q (vR U vM)⟩;rw[hH];unfold m?;rw[LN b,ao p,lZ b];rfl
       .split<;>rfl
     .cases e
    .cases e
   .cases e
 .cases e
def HU:D->Option D
 |.bt a=>(J8 a).map λbs=>.I (bs.any id)
 |_=>J
def Rg(x:X.nq=γ)(hK:X.K=G.K:=by rfl):wY X (.builtin "any") (λw H Q=>∃(p:Addr) (bs:List Bool),w=[.ref p]/\gd G.K H p (bs.map V.I)/\Q (.I (bs.any id)) H):=by
 rw[<-hK];intro m s W H w U Q I r h;obtain⟨p,bs,rfl,C,q⟩:=h;obtain⟨u,rfl,j⟩:=m1 r;cases j;obtain⟨a,t,pl,R⟩:=I.list C;have hlt:p<s.heap.objs.size:=by obtain⟨o,B,_⟩:=pl.isList;exact aR B
 have z:bs.length=a.length:=by have:=t.length;rw[ah]at this;exact this
 refine call_any_walk (fT pl.isList ⟨s.heap.objs.size,_,_,_,_,_,λi=>(bs[i]?).getD δ,O,iZ (show X.A.in1.handled=J from I.ok.hd x) _ p (bc hlt) a.toArray,⟨⟨_,br _ O,O,O⟩,?_⟩,?_,λP F y=>?_⟩)
 .exact pl.isList.at λo e=>aK _ e
 .intro i v S N M E hQ';have d:a[i]?=Z v:=by simpa using E
  have c:i<a.length:=(cj.1 d).1;have f:(bs.map V.I)[i]?=Z (.I (bs[i]'(by omega))):=by simp[show i<bs.length by omega]
  obtain⟨u,l,j⟩:=t.get f;rw[d]at l;cases l;cases j;refine dy ?_;have e:(bs[i]?).getD δ=bs[i]'(by omega):=by simp[show i<bs.length by omega]
  rw[<-e];exact hQ'
 .refine⟨.I (bs.any id),H,?_,?_,q⟩
  .exact I.g? (t':=F) λb o e=>y b o (by simp;exact bc (aR e)) (aK _ e)
  .show Value.bool _=Value.bool _;congr 1;rw[bg,<- z];rw[dg];simp only[fD,bL,id];constructor
   .rintro⟨i,c,h⟩;exact⟨bs[i],fz c,by simpa [c]using h⟩
   .rintro⟨b,f,h⟩;obtain⟨i,c,rfl⟩:=kQ.1 f;exact⟨i,c,by simpa [c]using h⟩
def Z1:IR G (λf H Q=>∃(p:Addr) (bs:List Bool),f=[.ref p]/\gd G.K H p (bs.map V.I)/\Q (.I (bs.any id)) H) HU:=λx z j H v Q e s d k=>by
 cases x with
 |bt h=>
  unfold HU at e;simp only at e;cases b:J8 h with
  |none=>rw[b]at e;cases e
  |some bs=>rw[b]at e;cases e;unfold cb at d;obtain⟨a,f,rfl,c,i⟩:=d;rw[IT i b]at c;exact⟨a,bs,O,s.seq (gd.of c),k _ λ_ _=>x9 _⟩
 |_=>cases e
def iS(f:FE):FA:=λb=>match f b with
 |some (.str x,a)=>Z (x.cps.toList.map λc=>D.str ⟨#[c]⟩,a)
 |_=>J
def WO(h:PI X N e (iStr (tF G f))):PI X N e (μ G (iS f)):=PI.d? h λσ H R E=>by
 obtain⟨F,P,p,Y,Q,R,e,k⟩:=E;unfold iS at e;split at e
 .rename_i x S B;cases e;refine⟨F,P,p,_,_,R,B,λv T q s A r=>?_⟩;unfold cb at r;refine⟨x,r,k _ _ _ s A λi u w t M=>⟨λd j=>?_,λI=>?_⟩⟩
  .rw[bA]at j;cases m:x.cps.toList[i]? with
   |none=>rw[m]at j;cases j
   |some c=>
    rw[m]at j;cases j;have a:x.cps[i]?=Z c:=by simpa using m
    refine⟨(n4.1 a).1,λz U y=>?_⟩;obtain⟨C,W,l,rfl⟩:=y;rw[a]at l;cases l;subst C;exact⟨u,ve.refl _,M,ve.refl _,λb o e=>.inl e,zB _⟩
  .show i=x.cps.size;rw[I,ah];simp
 .cases e
def GV(f g:FE):FE:=λe=>match f e with
 |some (.du (x::c),a)=>match g a with
  |some (.du d,b)=>if c.length+d.length<=900 then Z (.du (x::c++d),b)else J
  |_=>J
 |_=>J
def WQ(W:PE X a (tF G f))(Y:PE X b (tF G g))(hK:X.K=G.K:=by rfl):PE X (.BinOp a .Add b pos) (tF G (GV f g)):=PE.d? (O5 VR W Y) λσ H Q hh=>by
 rw[hK];obtain⟨F,ρ,A,d,ρ',R,e,k⟩:=hh;unfold GV at e;split at e
 .rename_i x xs c N;split at e
  .rename_i ys ρ2 P;split at e
   .rename_i hl;cases e;refine⟨F,ρ,A,_,c,R,N,λv B C s I r=>⟨F,c,B,_,_,I,P,λu H2 E m R2 y=>?_⟩⟩;have l:=cb.mono m _ _ r;have r0:=l;unfold cb at l y;obtain⟨a1,o,rfl,T,t⟩:=l;obtain⟨M,q,rfl,U,w⟩:=y;have h:=uV t;have j:=uV w;rw[aN]at h;refine⟨a1,M,o,q,O,O,ij.mono R2.sub T,ij.mono R2.sub U,(λz=>by rw[z]at h;cases h),by rw[<-h,<- j];exact x8 (by omega),λz=>?_,λ_ p i=>?_⟩
    .have S:ys=[]:=by rw[z]at j;exact js.1 j
     subst S;rw[bR]at k;exact k _ _ _ (s.t m) R2 r0
    .exact k _ _ _ ((s.t m).t (vw (R2.f5 i) _)) (R2.P? i _) (EV (ij.of vb) (uQ.mono (vw (R2.f5 i) _) _ _ (xj t w)))
   .cases e
  .cases e
 .cases e
end
section
variable{X:Cx}{G:Bg}
abbrev FO:=aQ->Option (Option Int×aQ)
def tFO(G:Bg)(f:FO):TO:=λi H Q=>∃F h e d b,vy G F i h e H/\f h=Z (d,b)/\∀a c,ve e a->vy G F i b a c->Q d c
def oNo:FO:=λa=>Z (J,a)
def X1(f:FE):FO:=λb=>match f b with
 |some (.int i,a)=>Z (Z i,a)
 |_=>J
def PO.d?(h:PO X e t)(w:∀b H Q,t' b H Q->t b H Q):PO X e t':=λa s b H Q I c=>h a s b H Q I (w _ _ _ c)
def Z2:PO X J (tFO G oNo):=PO.d? Pb λh H Q a=>by obtain⟨F,f,c,d,b,R,e,k⟩:=a;cases e;exact k _ _ (ve.refl _) R
def Z3(h:PE X e (tF G f)):PO X (Z e) (tFO G (X1 f)):=PO.d? (Pc h) λt H Q l=>by
 obtain⟨F,m,a,d,o,R,e,k⟩:=l;unfold X1 at e;split at e
 .rename_i i p j;cases e;refine⟨F,m,a,_,_,R,j,λv q b s c r=>?_⟩;unfold cb at r;exact⟨i,r,k _ _ s c⟩
 .cases e
def Et(f:FE)(lo i:FO):FA:=λj=>match f j with
 |some (d,c)=>match d with
  |.bt e=>match lo c with
   |some (l,a)=>match i a with
    |some (h,b)=>Z (rl e l h,b)
    |none=>J
   |none=>J
  |.R e=>match lo c with
   |some (l,a)=>match i a with
    |some (h,b)=>Z (rl e l h,b)
    |none=>J
   |none=>J
  |_=>J
 |none=>J
def Oo{lo:FO}(h:PE X e (tSl (VU G.K) (tF G f) (tFO G lo) (tFO G w))):PE X e (z3 G (Et f lo w)):=PE.d? h λσ H Q hh=>by
 obtain⟨F,q,N,Y,E,R,e,k⟩:=hh;unfold Et at e;rcases vF (f:=f) (ρ:=q)with y|⟨d,c,y⟩<;>simp only[y]at e
 .cases e
 have ro:∀(i:bp),(∀{m:Hp} {v:V},cb G m d v->∃a j,v=.ref a/\gd G.K m a j/\uQ G m i j)->(match lo c with
   |some (l,b)=>match w b with
    |some (h,t)=>Z (rl i l h,t)
    |none=>J
   |none=>J)=Z (Y,E)->tSl (VU G.K) (tF G f) (tFO G lo) (tFO G w) σ H Q:=λi rd e=>by
  rcases vF (f:=lo) (ρ:=c)with z|⟨l,b,z⟩<;>simp only[z]at e
  .cases e
  rcases vF (f:=w) (ρ:=b)with A|⟨u,t,A⟩<;>simp only[A]at e
  .cases e
  cases e;refine⟨F,q,N,d,c,R,y,λv m P s1 W r1=>⟨F,c,m,l,b,W,z,λS T I R2=>⟨F,b,S,u,_,R2,A,λH3 U M o=>?_⟩⟩⟩;obtain⟨a,j,rfl,B,C⟩:=rd (cb.mono (I.t M) _ _ r1);exact⟨a,j,O,o.sub.seq B,λp x=>k p _ _ _ (s1.t (I.t M)) (o.l7 x _) vb (o.f5 x) (o.i1 x) (o.apart x) (M8 C)⟩
 cases d with
 |bt i=>exact ro i (λr=>by unfold cb at r;obtain⟨a,j,rfl,B,C⟩:=r;exact⟨a,j,O,gd.of B,C⟩) e
 |R i=>exact ro i (λr=>by unfold cb at r;exact r) e
 |_=>cases e
def KE:D->D->Option D
 |.str x,.int n=>if 0<=n/\n<=1000/\x.length<=100 then Z (.str (m8 x n))else J
 |_,_=>J
end
section
variable{X:Cx}{G:Bg}
def KF(f e h:FE):FE:=λj=>match f j with
 |some (.Q i d,a)=>match e a with
  |some (y,b)=>match h b with
   |some (x,c)=>match BE y with
    |some k=>Z ((xk i d k).getD x,c)
    |none=>J
   |none=>J
  |none=>J
 |_=>J
def Tv(hu:X.A.units+1<cLine)(ha:PE X a (tF G f))(hb:PE X b (tF G S))(hc:PE X c (tF G T))(m:M2 X a "get" apos b c cpos):PE X (.Call (.Attribute a "get" apos) [b,c] [] cpos) (tF G (KF f S T)):=PE.d? (Sx hu ha hb hc m) λσ H Q hh=>by
 obtain⟨F,I,H0,d,ρ',R,e,k⟩:=hh;unfold KF at e;split at e
 .rename_i o ds h e1;rcases vF (f:=S) (ρ:=h)with B|⟨y,i,B⟩<;>simp only[B]at e
  .cases e
  rcases vF (f:=T) (ρ:=i)with C|⟨x,ρ3,C⟩<;>simp only[C]at e
  .cases e
  cases E:BE y with
  |none=>simp only[E]at e;cases e
  |some j=>
   simp only[E]at e;cases e;refine⟨F,I,H0,_,h,R,e1,λv H1 H1' Y N W=>?_⟩;unfold cb at W;obtain⟨p,ob,xs,rfl,U,h2,h3⟩:=W;refine⟨p,O,.inl ⟨_,.inr ⟨_,N.sub _ _ U⟩⟩,F,h,H1,y,i,N,B,λu H2 H2' q R2 r2=>⟨F,i,H2,x,_,R2,C,λz M l r t r3=>?_⟩⟩;have lv:=De (ks:=o) j (uQ.mono (q.t r) _ _ h3) h2;refine⟨y3 (o.zip xs) j,?_,?_⟩
   .rw[B5 r2 E];exact sx.kf (t.sub _ _ (r _ _ (q _ _ U)))
   .cases P:xk o ds j with
    |none=>rw[P]at lv k;rw[lv];exact k _ M l (Y.t (q.t r)) t r3
    |some w=>rw[P]at lv k;obtain⟨w',w1,w2⟩:=lv;rw[w1];exact k _ M l (Y.t (q.t r)) t w2
 .cases e
def IW(G:Bg)(c:Nat)(t:Ty->Option Bool):Prop:=(∀y b,t y=Z b->di G.K (y.val G) (.ref (G.ca c))=Z b)/\∀j b,t (.c j)=Z b->M7 G.K (G.ca j)
def Oq(h:IW G c t)(hK:X.K=G.K:=by rfl):wY X (.builtin "isinstance") (λa H Q=>∃d x b,a=[x,(Ty.c c).v G]/\cb G H d x/\t (tyD d)=Z b/\Q (.I b) H):=
 KD (X:=X) (.c c) (by rw[hK];exact h.1) (by rw[hK];exact h.2) hK
end
def ddp(acc:List fc)(k:fc):List fc:=if acc.any (λz=>decide (z=k))then acc else acc++[k]
def AS(a:List fc):List fc:=a.foldl ddp []
def WR(acc:List fc)(k j:fc):(ddp acc k).any (λz=>decide (z=j))=(acc.any (λz=>decide (z=j))||decide (j=k)):=by
 unfold ddp;by_cases h:acc.any (λz=>decide (z=k))=γ
 .rw[ak h];by_cases e:j=k
  .subst e;rw[h];simp
  .simp[e]
 .rw[ao h,List.any_append];by_cases e:j=k
  .subst e;simp
  .have a:¬k=j:=λz=>e z.symm;simp[a,e]
def Px(acc:List fc)(k:fc):(ddp acc k).length=if acc.any (λz=>decide (z=k))=γ then acc.length else acc.length+1:=by unfold ddp;split<;>simp
def KG(a:List fc)(i:Nat)(h:i<a.length):AS (a.take (i+1))=ddp (AS (a.take i)) a[i]:=by unfold AS;rw[lq,bh h,pF];rfl
def Tw(a:List fc):(AS a).length<=a.length:=by
 have ro:∀(l:List fc) (acc:List fc),(l.foldl ddp acc).length<=acc.length+l.length:=by
  intro l
  induction l with
  |nil=>intro acc;simp
  |cons k l b=>
   intro acc;rw[iK,aN];have c:=b (ddp acc k);have d:(ddp acc k).length<=acc.length+1:=by rw[Px];split<;>omega
   omega
 have:=ro a [];simpa [AS]using this
def set_same{h:Heap}(hS:h.SetOf (vA prog w) a S n)(e:∀k,S k=b k)(c:n=d):h.SetOf (vA prog w) a b d:=by obtain rfl:S=b:=funext e;subst c;exact hS
section
variable{prog:aH}{w:az}{A:aI}{R:gp->ae->Prop}{I:Addr}{fp wr:List Addr}{GG:Array gn->Array gn->Prop}{n:Nat}{PP:Nat->ab->Prop}{SS:Nat->ae->Prop}
def Tx(W:WalksS prog w A.in1 I fp wr GG n PP SS)(S:Addr)(hSf:S∉fp)(ks:List fc)(hn:ks.length=n)
  (hval:∀i v (h:i<ks.length),PP i v->(vA prog w).is ks[i] v=γ/\v.scannable=γ) (hb:n+1<scanBound):∀(k i:Nat) (s:ae),n - i=k->i<=n->SS i s->
   s.heap.SetOf (vA prog w) S (λj=>(AS (ks.take i)).any (λz=>decide (z=j))) (AS (ks.take i)).length->
   (∀a,Moved (S::wr) GG s a->a.heap.SetOf (vA prog w) S (λj=>(AS ks).any (λz=>decide (z=j))) (AS ks).length->R (.ok (.ret .none)) a)->
   cw (model prog w) A (.builtin "set.update.loop" ⟨[.ref S,.ref I],[]⟩) R s:=by
 have hSw:S∉wr:=λz=>hSf ((W).sub _ z);have up:∀b∈wr,b∈S::wr:=λb z=>ba _ z;intro k
 induction k with
 |zero=>
  intro i s l hi hst hS hR;obtain rfl:i=n:=by omega
  refine dS gz ?_;rw[eC dO _];show ai _ A.in1 (pyNext (.ref I)>>=_) _ _ s;refine af (W.done s _ _ hst λa hm=>?_);show ai _ A.in1 (ret Value.none) _ _ a;rw[iw (by omega)]at hS;refine ar (hR a (hm.mono up) ?_);obtain⟨o,es,ep,t,d,more⟩:=hS;exact⟨o,es,ep,t,hm.heap S _ hSw d,more⟩
 |succ k m=>
  intro i s l hi hst hS hR;have hlt:i<n:=by omega
  have hlk:i<ks.length:=by omega
  refine dS gz ?_;rw[eC dO _];show ai _ A.in1 (pyNext (.ref I)>>=_) _ _ s;refine af (W.item i s _ _ hlt hst λv a hP hst' hm=>?_);obtain⟨kv,sc⟩:=hval i v hlk hP;have hS':a.heap.SetOf (vA prog w) S (λj=>(AS (ks.take i)).any (λz=>decide (z=j))) (AS (ks.take i)).length:=by obtain⟨o,es,ep,t,d,more⟩:=hS;exact⟨o,es,ep,t,hm.heap S _ hSw d,more⟩
  show ai _ A.in1 (holding [v] (setAdd S v)>>=_) _ _ a;refine af (bP ?_);unfold setAdd;refine bP ?_;refine af ((vA prog w).pyHash (k:=ks[i]) kv ?_);have room:(AS (ks.take i)).length+1<scanBound:=by have:=Tw (ks.take i);rw[bY]at this;omega
  refine wpAny_setAddHashed_of (knd:=vA prog w) (s:={ a with toks:=a.toks+1 }) kv sc hS' room λh' hsb hS2=>?_;have hSi:h'.SetOf (vA prog w) S (λj=>(AS (ks.take (i+1))).any (λz=>decide (z=j))) (AS (ks.take (i+1))).length:=
   set_same hS2 (λj=>by rw[KG ks i hlk,WR]) (by rw[KG ks i hlk,Px])
  refine ar ⟨f7 dO _,m (i+1) _ (by omega) hlt (W.frame _ a _ _ hst' (iW _) λb z o e=>?_) hSi λf c hS''=>?_⟩
  .rw[hsb.2 b (λy:b=S=>hSf (by rw[<-y];exact z))];exact e
  .refine hR f (jT W.gtrans ((hm.mono up).then_heap (iW _) λb o z e=>?_) c) hS'';rw[hsb.2 b (λy:b=S=>z (by rw[y];exact bb))];exact e
end
def WT(l:Addr)(us:Array ab)(m:Nat)(b:Addr)(o:Obj)(ws:Array ab)(f:Nat)(e:o.cls=.type "tuple")(hd:o.data=.seq ws f)(E:¬(!us.isEmpty&&gy (us.size+ws.size))=γ)(i:us.size<=aG)(j:us.size+ws.size<=aG+1):
  Meets (dJ.«list.extend» ⟨[.ref l,.ref b],[]⟩) (λ_ R s=>s.heap.get? l=Z { cls:=.type "list", data:=.seq us m }/\s.heap.get? b=Z o/\R (.ok (.ret Value.none)) { s with heap:=s.heap.update l (cN λx=>x++ws),toks:=s.toks }):=by
 obtain⟨c,q,data,sl⟩:=o;cases e;cases hd;refine .of_wp λprog w A R s h=>?_;obtain⟨z,g,d,tk,os⟩:=s;obtain⟨a,hb,h⟩:=h;have r:=AutoSeq1.sub_tuple_tuple;have t:=AutoSeq1.sub_list_list;have u:=AutoSeq1.sub_tuple_list;have y:=AutoSeq1.sub_list_tuple;have p:(us++ws).size<=aG+1:=Array.size_append (xs:=us) (ys:=ws)▸j
 wp_walk using (l3 a O (hz:=i) (_hz':=p)),og a,og hb
 exact⟨_,O,h⟩
section
variable{X:Cx}{G:Bg}
def Nf(K:av):V->bN->Hp->VK->Prop:=λx d H Q=>∃l b a c,x=.ref l/\d=[.ref b]/\H l=Z (.bt a)/\ij K H b c/\a.length+c.length<=aG/\Q .E (ff H l (.bt (a++c)))
def Os:MtM X "list.extend" (Nf X.K):=by
 intro i s S H x N v M Q I C B h;obtain⟨l,b,P,R,rfl,rfl,hH,hB,F,q⟩:=h;cases C;obtain⟨u,rfl,A⟩:=B.one;cases A;obtain⟨z,c,n,r,E,e⟩:=I.W' hH;obtain⟨a,j,⟨o,m,p,y,hd⟩,w⟩:=I.tuple hB;have t:=j.length;have d:c.toArray.size+a.toArray.size<=aG:=by rw[bg,bg];omega
 have hlong:¬(!c.toArray.isEmpty&&gy (c.toArray.size+a.toArray.size))=γ:=by rw[Iy d,qp];exact bq
 refine iY jB ⟨_,e,O⟩ oW (oM _ _)
  (WT l c.toArray n b o a.toArray y p hd hlong (by rw[bg];omega) (by omega)) ⟨e,m,?_⟩
 refine⟨.E,_,I.lset (its':=c++a) hH e (by simp) (r.append j) ?_,O,q⟩;rw[aE];omega
def Dg(i:Nat)(f:FE):FE:=λd=>match xa d i with
 |some _=>match f d with
  |some (.du c,a)=>match xa a i with
   |some b=>if b.length+c.length<=1000 then Z (.E,putAt a i (b++c))else J
   |none=>J
  |_=>J
 |none=>J
def Ot(h:PE X e (tBM G.K "list" (Nf G.K) (BU i) (D6 (tF G f) JZ))):PE X e (tF G (Dg i f)):=PE.d? h λσ H Q A=>by
 obtain⟨F,c,w,d,S,R,e,k⟩:=A;unfold Dg at e;cases j:xa c i with
 |none=>simp only[j]at e;cases e
 |some z=>
  simp only[j]at e;rcases vF (f:=f) (ρ:=c)with l|⟨x,b,l⟩<;>simp only[l]at e
  .cases e
  .cases x with
   |du Y=>
    cases m:xa b i with
    |none=>simp only[m]at e;cases e
    |some W=>
     simp only[m]at e;split at e
     .rename_i B;cases e;obtain⟨a,N,r,E,s3,_⟩:=yy R j;refine⟨.ref a,r,.inl ⟨O,N,gd.of E⟩,F,c,w,_,b,R,l,λv T y s q rs=>?_⟩;unfold cb at rs;obtain⟨p,P,rfl,C,rs⟩:=rs;obtain⟨U,o,t,I,u,M⟩:=yy q m;rw[r]at t;cases t;refine⟨a,p,o,P,O,O,I,ij.mono q.sub C,?_,k _ _ _ s (M _ _ (xj u rs)) AW⟩;rw[<-uV u,<- uV rs];exact x8 B
     .cases e
   |_=>cases e
end
section
variable{X:Cx}{G:Bg}{H:Hp}
def Z4(I:c3 X p R H s)(hK:X.K=G.K)(hd:cb G H d v)(c:et v u)(B:∀k m e,d=.obj k m e->M7 X.K (G.ca k)):
  ∃HH:Heap->Prop,W.KitX X.K u ((tyD d).val G) HH/\HH s.heap/\u≠.builtin "__main__.__loader__#opaque" := by
 cases d with
 |E=>unfold cb at hd;subst hd;cases (show u=Value.none from c);exact⟨_,qX,True.intro,λz=>nomatch z⟩
 |I x=>unfold cb at hd;subst hd;cases (show u=Value.bool x from c);exact⟨_,qY,True.intro,λz=>nomatch z⟩
 |int x=>unfold cb at hd;subst hd;obtain⟨t,q⟩:=(show ∃t,u=Value.int x t from c);cases q;exact⟨_,W.kitx_int,True.intro,λz=>nomatch z⟩
 |str x=>unfold cb at hd;subst hd;obtain⟨t,q⟩:=(show ∃t,u=Value.str x t from c);cases q;exact⟨_,W.kitx_str,True.intro,λz=>nomatch z⟩
 |du e=>unfold cb at hd;obtain⟨a,f,rfl,b,j⟩:=hd;cases c;rw[<-hK]at b;obtain⟨l,_,⟨o,h,i,_⟩,_⟩:=I.tuple b;exact⟨_,mF,⟨o,h,i⟩,λz=>nomatch z⟩
 |bt e=>unfold cb at hd;obtain⟨a,f,rfl,b,j⟩:=hd;cases c;obtain⟨_,_,n,_,q⟩:=(show wI X.prog X.w H s.heap a (.bt f) from I.fx a _ b);exact⟨_,iV,⟨_,q,O⟩,λz=>nomatch z⟩
 |R e=>unfold cb at hd;obtain⟨a,f,rfl,b,j⟩:=hd;cases c;rw[<-hK]at b;obtain⟨l,_,⟨o,n,h,i,_⟩,_⟩:=I.list b;exact⟨_,iV,⟨o,h,i⟩,λz=>nomatch z⟩
 |Q C e=>unfold cb at hd;obtain⟨a,E,f,rfl,b,j,A⟩:=hd;cases c;obtain⟨_,_,_,Q,_,o,N,M,h,i,_⟩:=(show wI X.prog X.w H s.heap a (.n? E (.dK (C.zip f))) from I.fx a _ b);exact⟨_,jS,⟨o,h,i.1⟩,λz=>nomatch z⟩
 |obj k m e=>have ci:=B k m e O;unfold cb at hd;obtain⟨a,F,f,rfl,b,j,A⟩:=hd;cases c;obtain⟨mA,r,_⟩:=EN I.fx b;obtain⟨P,y,_⟩:=r.look;exact⟨_,W.kitx_own (ci.cl.get _) ci.cl.hd ci.ha ci.hn ci.htk ci.hm,y,λz=>nomatch z⟩
def Rh(G:Bg)(cs:List Nat):bN:=cs.map λc=>.ref (G.ca c)
def Tz(G:Bg)(cs:List Nat):List ab:=cs.map λc=>.ref (G.ca c)
def TB(cs:List Nat)(r:ef (Rh G cs) a):a=Tz G cs:=by
 induction cs generalizing a with
 |nil=>cases r;rfl
 |cons c cs b=>
  cases r with
  |cons r d=>cases r;exact bG _ (b d)
def Py(G:Bg)(cs:List Nat)(t:Ty->Option Bool):Prop:=(∀y b,t y=Z b->W.kitAny G.K (y.val G) (Tz G cs)=Z b)/\∀j b,t (.c j)=Z b->M7 G.K (G.ca j)
def Ou(i:Py G cs t)(hK:X.K=G.K:=by rfl):wY X (.builtin "isinstance") (λl H Q=>∃d x b a,l=[x,.ref a]/\H a=Z (.du (Rh G cs))/\cb G H d x/\t (tyD d)=Z b/\Q (.I b) H):=by
 intro j s σ H l U Q I r h;obtain⟨d,x,b,a,rfl,o,hd,e,q⟩:=h;obtain⟨u,Y,rfl,E,f⟩:=Y' r;cases f;obtain⟨HH,AT,z,A⟩:=Z4 I hK hd E λk R P y=>by subst y;rw[hK];exact i.2 k b e
 obtain⟨_,p,F,⟨⟨c,N,M,S⟩,B,C,n,q3⟩⟩:=(show wI X.prog X.w H s.heap a (.du (Rh G cs)) from I.fx a _ o);cases C;cases q3;have m:=TB cs F;subst m;exact W.kia_tup AT I.qi z B (by rw[hK];exact i.1 _ _ e) A λT=>⟨.I b,H,I.xr _,O,q⟩
def Z5(G:Bg):List Nat->TA
 |[]=>JZ
 |c::r=>D6 (tC (.ref (G.ca c))) (Z5 G r)
theorem Pz:∀(cs:List Nat) (a:St) (H:Hp) (Q:bN->Hp->Prop),Q (Rh G cs) H->Z5 G cs a H Q
 |[],_,_,_,h=>h
 |c::r,a,H,Q,h=>Pz r a H (λd b=>Q (.ref (G.ca c)::d) b) h
def TC(h:PE X e (tCB (λz H Q=>∃d x b m,z=[x,.ref m]/\H m=Z (.du (Rh G cs))/\cb G H d x/\t (tyD d)=Z b/\Q (.I b) H) (D6 (tF G f) (D6 (tTup (Z5 G cs)) JZ))))(y:cs.length<=1000:=by decide):PE X e (tF G (c1 (v5 t) f)):=PE.d? h λC H Q w=>by
 obtain⟨F,A,o,d,l,R,e,k⟩:=w;obtain⟨x,u,a⟩:=EW e;unfold v5 at a;cases i:t (tyD x)with
 |none=>rw[i]at a;cases a
 |some b=>
  rw[i]at a;cases a;refine⟨F,A,o,x,l,R,u,λv B q s c r=>Pz cs _ _ _ ⟨?_,λp j=>?_⟩⟩
  .unfold Rh;rw[ah];exact x8 y
  .exact⟨x,v,b,p,O,vb,cb.mono (c.sub.t (vw j _)) _ _ r,i,k _ _ _ (s.t (vw (c.f5 j) _)) (c.P? j _) (x9 b)⟩
end
abbrev one(j:Nat)(led pl:Bool):bC:=⟨7,#[j],#[],0,led,0,pl⟩
section
variable{prog:aH}{w:az}{A:aI}{E:ab->ae->Prop}{s:ae}
abbrev TK(prog:aH)(w:az):=IsTupleKey (vA prog w)
def cls_val(n:Nat)(h:l5 v=γ):iH n v=pure δ:=by
 cases v with
 |ref a=>simp[l5]at h
 |_=>first|rfl|simp[iH]|(unfold iH;rfl)
def PB(e:TK prog w s.heap j a)(h:Q δ s):ai (model prog w) A (iH 8 (.ref a)) Q E s:=by
 have hT:=e.typeIs;obtain⟨o,items,n,i,_,hd,f⟩:=e;unfold iH;refine af (jQ hT ?_);show ai _ _ (pure γ>>=_) _ _ s;refine af (ar ?_);simp only[qG,eG,if_false];refine af (l8 i hd ?_);refine af ?_;show ai _ _ (forIn items _ _) _ _ s;rw[<-pf];refine lE _ (λer r d=>r.1=J/\d=s/\∀v∈er,l5 v=γ) _ ?_ ?_ _ _ ⟨O,O,f.byValue⟩
 .rintro v er r d ⟨b,rfl,hall⟩;rw[cls_val _ (hall v bb)];refine af (ar ?_);simp only[eG,if_false];exact ar ⟨O,O,λu c=>hall u (ba _ c)⟩
 .rintro⟨l,m⟩ d ⟨b,rfl,_⟩;simp only at b;subst b;exact ar h
end
section
variable{prog:aH}{w:az}{A:aI}{E:ab->ae->Prop}{s:ae}
def Ov{a:Heap}(b:a.get? S=Z o)(hd:o.data=.set es ep t):(a.update S (hE es' t')).get? S=Z { o with data:=.set es' (ep+1) t' }:=by have:=fi (hE es' t') b (by rw[putSet_of es' t' hd];rfl);rw[putSet_of es' t' hd]at this;exact this
end
section
variable{prog:aH}{w:az}{A:aI}{R:gp->ae->Prop}{I:Addr}{fp wr:List Addr}{GG:Array gn->Array gn->Prop}{PP:Nat->ab->Prop}{SS:Nat->ae->Prop}
def TK.g?{c:Heap}(t:TK prog w h ks a)(e:∀o,h.get? a=Z o->c.get? a=Z o):TK prog w c ks a:=by obtain⟨o,b,n,d,m⟩:=t;exact⟨o,b,n,e o d,m⟩
def Set2(h:Heap)(S:Addr)(n:Nat):Prop:=∃o a b t,h.get? S=Z o/\o.ExactSet/\o.data=.set a b t/\a.size<scanBound/\t.fits a.size=γ/\a.size=n
end
def D?:isSubtype (.type "tuple") (.type "set")=pure δ:=by rw[jM];kernel_rfl
def qs:isSubtype (.type "tuple") (.type "frozenset")=pure δ:=by rw[jM];kernel_rfl
section
variable{prog:aH}{w:az}{A:aI}{E:ab->ae->Prop}{s:ae}{Q:ab->ae->Prop}
abbrev Ar(led:Bool):Obj:={ cls:=.type "set", dict:=J,data:=.set #[] 0 (.fresh 0 0 led) }
abbrev inK(a:List fc):fc->Bool:=λj=>(AS a).any (λz=>decide (z=j))
structure SrcK(prog:aH)(w:az)(h:Heap)(a:Addr)(items:Array ab)(ks:List fc):Prop where
 len:ks.length=items.size
 key:∀i v (hi:i<ks.length),items[i]?=Z v->(vA prog w).is ks[i] v=γ/\v.scannable=γ
 bnd:items.size+1<scanBound
def WU(s:ae)(PS:Heap->Prop)(E:ab->ae->Prop):gp->ae->Prop:=
 wants (λr s2=>r=.none/\∃a k2,s2={ s with heap:=a,toks:=k2 }/\PS a/\∀b o,b<s.heap.objs.size->s.heap.get? b=Z o->a.get? b=Z o) E
def Ng(K:SrcK prog w s.heap c items ks)(hlt:c<s.heap.objs.size)
  (W:Walks prog w A.in1 (s.heap.objs.size+1) [s.heap.objs.size+1,c] [s.heap.objs.size+1] items.size (λi v=>items[i]?=Z v) SS) (st:SS 0 ((s.heap.push (Ar led)).push itO))
  (hR:∀a k2,a.SetOf (vA prog w) s.heap.objs.size (inK ks) (AS ks).length->(∀b o,b<s.heap.objs.size->s.heap.get? b=Z o->a.get? b=Z o)->R (.ok (.ret .none)) { s with heap:=a,toks:=k2 }) (tk:Nat):
  cw (model prog w) A (.builtin "set.update.loop" ⟨[.ref s.heap.objs.size,.ref (s.heap.objs.size+1)],[]⟩) R { s with heap:=(s.heap.push (Ar led)).push itO,toks:=tk }:=by
 have notin:s.heap.objs.size∉[s.heap.objs.size+1,c]:=by
  intro z;rcases aL.1 z with z|z
  .exact aq z (bc (dA _))
  .exact aq (bj.1 z) (gb hlt)
 have f:((s.heap.push (Ar led)).push itO).get? s.heap.objs.size=Z (Ar led):=aK _ (br _ O);refine Tx W.toS s.heap.objs.size notin ks K.len (λi v hi p=>K.key i v hi p) K.bnd (items.size - 0) 0 _ (by omega) (cq _) st ?_ λs2 mv d=>?_
 .exact⟨_,#[],0,_,f,⟨O,O,O⟩,O,λe m=>by simp at m,λk=>by simp[AS],by unfold scanBound;decide,by rfl,O⟩
 .obtain⟨a,g2,d2,k2,q⟩:=s2;have j:g2=s.gens:=mv.gens;have h:d2=s.drawn:=mv.drawn;have l:q=s.os:=mv.os;subst j h l;refine hR a k2 d λb o hb e=>mv.heap b o (λz=>?_) (aK _ (aK _ e));rcases aL.1 z with z|z
  .exact aq z (bc hb)
  .exact aq (bj.1 z) (bc (eI hb))
theorem Ow(a:ab)(h:Q₁ (.ref s.heap.objs.size) { s with heap:=s.heap.push (Ar (!w.params.followText "set-order")) }):
  cw (model prog w) A (.call (.builtin "set.__new__") ⟨[.type "set", a],[]⟩) (wants Q₁ E) s:=by
 refine qb ?_;show ai _ A.in1 (do checkBuiltinCall "set.__new__" ⟨[.type "set", a],[]⟩;again (.builtin "set.__new__" ⟨[.type "set", a],[]⟩)) _ _ s;refine af (wpAny_of_eq (F.newCall_set_1 a) (ar ⟨f7 qc _,dS F.entry_set_new ?_⟩));rw[eC qc _];unfold dJ.«set.__new__» sH;have hsub:=sub_set_self;obtain⟨b,g,d,tk,os⟩:=s;dsimp only
 wp_walk
 refine lG (ar ?_);dsimp only;simp only[newObj];refine af (wpAny_alloc (ar ?_));exact ar h
theorem E9{PS:Heap->Prop}(t:s.heap.get? d=Z o)(B:o.cls=.type T)
  (S:isSubtype (.type T) (.type "set")=pure δ) (U:isSubtype (.type T) (.type "frozenset")=pure δ) (W:(Value.type T==Value.type "dict")=δ)
  (itr:∀(A:aI) (Q:ab->ae->Prop) (E:ab->ae->Prop) (f:ae),f.heap.get? d=Z o->Q (.ref f.heap.objs.size) { f with heap:=f.heap.push itO }->ai (model prog w) A (pyIter (.ref d)) Q E f)
  (fil:∀tk (R:gp->ae->Prop),(∀a k2,PS a->(∀b o,b<s.heap.objs.size->s.heap.get? b=Z o->a.get? b=Z o)->R (.ok (.ret .none)) { s with heap:=a,toks:=k2 })->
   cw (model prog w) A.in1.in1 (.builtin "set.update.loop" ⟨[.ref s.heap.objs.size,.ref (s.heap.objs.size+1)],[]⟩) R { s with heap:=(s.heap.push (Ar (!w.params.followText "set-order"))).push itO,toks:=tk })
  (h:∀a k2,PS a->(∀b o,b<s.heap.objs.size->s.heap.get? b=Z o->a.get? b=Z o)->Q (.ref s.heap.objs.size) { s with heap:=a,toks:=k2 }):
  ai (model prog w) A (call (.type "set") [.ref d]) Q E s:=by
 have hlt:d<s.heap.objs.size:=aR t;obtain⟨c,P,hmro⟩:=fK.mro;have made:=fK.made;have subs:=fK.sub;refine jW (qb ?_);show ai _ _ (callAny (.type "set") _) _ _ _;refine ar ⟨Code.quiet_builtin _ (by decide +kernel),dS F.entry_type_call ?_⟩;rw[Around.under_plain (weight_type_call_type "set" [.ref d] []) O];have I:=fK.notType;have M:=fK.canCreate;have N:=F.typeCall_set_1 (.ref d)
 repeat (any_goals (first|assumption|wp_step))
 let led:Bool:=!w.params.followText "set-order";refine gX (Ow (.ref d) (E:=E) (Q₁:=λv f=>v=.ref s.heap.objs.size/\f={ s with heap:=s.heap.push (Ar led) }) ⟨O,O⟩) λr f hr=>?_;cases r with
 |error e=>exact hr
 |ok z=>
  cases z with
  |ret v=>
   obtain⟨rfl,rfl⟩:=hr;have u:(s.heap.push (Ar led)).get? s.heap.objs.size=Z (Ar led):=br _ O;have p:mi { s with heap:=s.heap.push (Ar led) } (.ref s.heap.objs.size) "set" := ⟨_,u,O⟩;have G:=fK.init.lookup;have H:=fK.init.bind (.ref s.heap.objs.size)
   repeat (any_goals (first|assumption|wp_step))
   refine gX (oN (R:=WU s PS E) fK.init.plain F.entry_set_init (check_set_init_1 p ?_)) λC s2 i=>?_
   .obtain⟨oc,od,oda,osl⟩:=o;cases B;have x:(s.heap.push (Ar led)).get? d=Z { cls:=.type T,dict:=od,data:=oda,slots:=osl }:=aK _ t;unfold dJ.«set.__init__» noKeywords sE;generalize gP:pyIter=PP
    wp_walk
    subst gP;refine itr _ _ _ _ x ?_;refine af (qr ?_);have y:(s.heap.push (Ar led)).objs.size=s.heap.objs.size+1:=cZ _ _;show cw _ _ (.builtin "set.update.loop" ⟨[.ref s.heap.objs.size,.ref (s.heap.push (Ar led)).objs.size],[]⟩) _ _;rw[y];refine fil _ _ λa k2 j m=>?_;show ai _ _ _ _ _ _;refine ar ?_;show ai _ _ (ret Value.none) _ _ _;exact ar ⟨O,a,k2,O,j,m⟩
   .cases C with
    |error e=>exact i
    |ok l=>
     cases l with
     |ret r=>
      obtain⟨rfl,a,k2,rfl,j,m⟩:=i
      repeat (any_goals (first|assumption|wp_step))
      exact h _ _ j m
     |_=>exact i.elim
  |_=>exact hr.elim
end
section
variable{X:Cx}{G:Bg}{H:Hp}{pins:cD}{σ:St}{s:ae}
def TF(h:(vA P w).is k v=γ):v.scannable=γ:=by rcases we h with ⟨i,t,_,rfl⟩|⟨x,t,_,rfl⟩<;>rfl
def TH{b:List fc}(r:ef (b.map kV) c)(o:b.length+1<scanBound):SrcK X.prog X.w s.heap a c.toArray b:=by
 have l:b.length=c.length:=by have:=r.length;rw[ah]at this;exact this
 refine⟨by rw[bg];exact l,λi v j f=>?_,by rw[bg];omega⟩;have e:(b.map kV)[i]?=Z (kV b[i]):=by rw[bA,bh j];rfl
 obtain⟨u,d,m⟩:=r.get e;have h:v=u:=by rw[jx]at f;rw[f]at d;exact cI d
 subst h;have:=GO (P:=X.prog) (w:=X.w) m;exact⟨this,TF this⟩
def ade{ks:List fc}(I:c3 X pins σ H s)(h:ij X.K H a (ks.map kV)):TK X.prog X.w s.heap ks a:=by
 obtain⟨b,r,p,_⟩:=I.tuple h;obtain⟨o,f,e,n,hd⟩:=p;refine⟨o,_,n,f,e,hd,?_⟩;have ro:∀(ks:List fc) (b:List ab),ef (ks.map kV) b->PySem.ItemsAre (vA X.prog X.w) ks b:=λks=>by
  induction ks with
  |nil=>intro b r;cases r;exact .nil
  |cons k ks i=>intro b r;cases r with|cons c d=>exact .cons (GO c) (i _ d)
 exact ro ks b r
def Z6(K:av)(H:Hp)(a:Addr)(n:Nat):Prop:=∃b,(gd K H a (b.map kV)\/ij K H a (b.map kV))/\b.length+1<scanBound/\n=(AS b).length
def Z7(X:Cx)(S:av->Hp->Addr->Nat->Prop):Prop:=∀{pins:cD} {σ:St} {H:Hp} {s:ae} {A:aI} {E:ab->ae->Prop} {Q:ab->ae->Prop} {a:Addr} {n:Nat},c3 X pins σ H s->A.handled=J->A.units+8<cLine->S X.K H a n->
 (∀c k2,Set2 c s.heap.objs.size n->(∀b o,b<s.heap.objs.size->s.heap.get? b=Z o->c.get? b=Z o)->Q (.ref s.heap.objs.size) { s with heap:=c,toks:=k2 })->ai (model X.prog X.w) A (call (.type "set") [.ref a]) Q E s
def adf:Z7 X (Z6):=by
 intro pins σ H s A E Q a n I m x i h;have l:A.in1.in1.in1.handled=J:=by simp[m]
 have j:∀{f:Heap} {ks:List fc},f.SetOf (vA X.prog X.w) s.heap.objs.size (inK ks) (AS ks).length->Set2 f s.heap.objs.size (AS ks).length:=λS=>by obtain⟨o,es,ep,t,b,hex,hd,_,_,q,hf,hn⟩:=S;exact⟨o,es,ep,t,b,hex,hd,q,hf,hn⟩
 have it:∀{o:Obj} {led:Bool},o.isFreed=δ->((s.heap.push (Ar led)).push o).get? (s.heap.objs.size+1)=Z o:=λ{o led} z=>by rw[show s.heap.objs.size+1=(s.heap.push (Ar led)).objs.size from(cZ _ _).symm];exact br _ z
 obtain⟨ks,i|i,hb,rfl⟩:=i
 .obtain⟨d,r,p,_⟩:=I.list i;obtain⟨o,b,c,n,hd⟩:=p.isList;have hne:a≠s.heap.objs.size+1:=bc (eI (aR b));refine E9 b c l9 kT (by decide) (itO:={ cls:=.type "list_iterator", data:=.fields #[.ref a,.int 0 0] })
   (λA Q E u e k=>fT ⟨o,e,c,n,hd⟩ k) (λtk R hR=>Ng (TH r hb) (aR b) (iZ l _ a hne d.toArray) ⟨⟨_,it O,O,O⟩,⟨o,aK _ (aK _ b),c,n,hd⟩⟩ (λf k2 S=>hR f k2 (j S)) tk) h
 .obtain⟨d,r,p,_⟩:=I.tuple i;obtain⟨o,b,c,n,hd⟩:=p;have hne:a≠s.heap.objs.size+1:=bc (eI (aR b));refine E9 b c D? qs (by decide) (itO:={ cls:=.type "tuple_iterator", data:=.fields #[.ref a,.int 0 0] })
   (λA Q E u e k=>o9 ⟨o,e,c,n,hd⟩ k) (λtk R hR=>Ng (TH r hb) (aR b) (Walks.tuple l _ a hne d.toArray) ⟨⟨_,it O,O,O⟩,⟨o,aK _ (aK _ b),c,n,hd⟩⟩ (λf k2 S=>hR f k2 (j S)) tk) h
def PD(S:av->Hp->Addr->Nat->Prop)(K:av)(c:TE):TE:=λσ H Q=>c σ H λx b=>∃a n,x=.ref a/\S K b a n/\Q (.int n) b
def Rj{p2 p3:Pos}(hV:Z7 X S)(R:X.A.units+64<cLine)(r:X.nq=γ)(g1:Gl X "len")(E:X.mg "len" = J)(g2:Gl X "set")(F:X.mg "set" = J)(w:PE X e P)
  (f:aC [Expr.Call (.Name "set" p2) [e] [] p3] X.b1=[(δ,eval (.Call (.Name "set" p2) [e] [] p3) X.b1)]:=by rfl) (i:aC [e] X.b1=[(δ,eval e X.b1)]:=by rfl):PE X (.Call (.Name "len" T) [.Call (.Name "set" p2) [e] [] p3] [] U) (PD S X.K P):=by
 intro pins s σ H Q I h;refine dP (BV I g1 E qt ?_ (by decide) (by decide));refine callWith_builtin1 ?_ f O;rw[f];show ai _ _ (spliced [(δ,eval (.Call (.Name "set" p2) [e] [] p3) X.b1)]) _ _ s;refine eE ?_;refine dP (BV I g2 F q9 ?_ (by decide) (by decide));refine callWith_type1 (fy (xi w zP i p3 pins s σ H (λvs H1=>match vs with
  |[x]=>∃a n,x=.ref a/\S X.K H1 a n/\Q (.int n) H1
  |_=>False) I h) λus N ⟨vs,H1,c,r1,d⟩=>?_) i O
 match vs,r1,d with
 |[x],r1,d=>
 obtain⟨a,n,m,z,q⟩:=d;subst m;obtain⟨u,rfl,M⟩:=m1 r1;cases M;refine hV c (c.ok.hd r) (by omega) z λp k2 l C=>?_;refine fV ?_;obtain⟨o,es,ep,t,y,hex,hd,B,hf,hn⟩:=l;have j:c3 X pins σ H1 { N with heap:=p,toks:=k2 }:=c.g? λb o e=>C b o (aR e) e;refine call_len_set y hex hd hf (by unfold scanBound at B;omega) ⟨.int n,H1,j.xr _,⟨_,by rw[hn]⟩,q⟩
def GW:bp->Option (List fc)
 |[]=>Z []
 |d::a=>match BE d,GW a with
  |some k,Z b=>Z (k::b)
  |_,_=>J
theorem KH:∀{a:bp} {f:bN} {c:List fc},uQ G H a f->GW a=Z c->f=c.map kV
 |[],f,c,r,e=>by cases e;unfold uQ at r;exact r
 |d::a,f,c,r,e=>by
  unfold GW at e;cases b:BE d with
  |none=>rw[b]at e;cases e
  |some k=>
   cases h:GW a with
   |none=>rw[b,h]at e;cases e
   |some l=>rw[b,h]at e;cases e;unfold uQ at r;obtain⟨v,m,rfl,i,j⟩:=r;rw[B5 i b,KH j h];rfl
def xW(ds:bp):Option D:=match GW ds with
 |some a=>if a.length<=1000 then Z (.int (AS a).length)else J
 |none=>J
def Fb(g:bp->Option D):D->Option D
 |.bt a=>match xW a with
  |some r=>Z r
  |none=>g a
 |.du a=>xW a
 |.R a=>xW a
 |_=>J
def WV(h:xW a=Z r):Fb g (.bt a)=Z r:=by show (match xW a with|some r=>Z r|none=>g a)=Z r;rw[h]
def Ox(hK:X.K=G.K)(hO:∀{H a n},Z6 X.K H a n->S X.K H a n)
  (E:∀{c d m b a i},g c=Z d->gd X.K b a i->uQ G m c i->ve m b->∃n:Nat,S X.K b a n/\d=.int n)
  (h:PE X e (PD S X.K (tF G f))):PE X e (tF G (c1 (Fb g) f)):=PE.d? h λσ H Q I=>by
 obtain⟨F,N,z,d,u,R,e,k⟩:=I;obtain⟨x,B,l⟩:=EW e;have key:∀{c:bp} {i:bN} {a:Addr} {m b:Hp},xW c=Z d->uQ G m c i->ve z m->vy G F σ u m b->(gd X.K b a i\/ij X.K b a i)->
   ∃A n,V.ref a=.ref A/\S X.K b A n/\Q (.int n) b:=λ{c i a m b} o rs s j t=>by
  unfold xW at o;cases y:GW c with
  |none=>rw[y]at o;cases o
  |some M=>
   rw[y]at o;simp only at o;split at o
   .rename_i P;cases o;rw[KH rs y]at t;exact⟨a,_,O,hO ⟨M,t,by unfold scanBound;omega,O⟩,k _ _ _ s j (xt _)⟩
   .cases o
 refine⟨F,N,z,x,u,R,B,λv m b s j r=>?_⟩;cases x with
 |bt c=>
  unfold cb at r;obtain⟨a,i,rfl,p,q⟩:=r;have t:gd X.K b a i:=gd.of (j.sub _ _ p);replace l:(match xW c with|some r=>Z r|none=>g c)=Z d:=l;cases w:xW c with
  |some r=>rw[w]at l;cases l;exact key w q s j (.inl t)
  |none=>rw[w]at l;obtain⟨n,C,rfl⟩:=E l t q j.sub;exact⟨a,n,O,C,k _ _ _ s j (xt _)⟩
 |du c=>unfold cb at r;obtain⟨a,i,rfl,p,q⟩:=r;rw[<-hK]at p;exact key l q s j (.inr (ij.mono j.sub p))
 |R c=>unfold cb at r;obtain⟨a,i,rfl,p,q⟩:=r;rw[<-hK]at p;exact key l q s j (.inl (j.sub.seq p))
 |_=>cases l
end
def PF(h:(vA P w).is k v=γ):et (kV k) v:=by
 rcases we h with ⟨i,t,rfl,rfl⟩|⟨x,t,rfl,rfl⟩
 .exact⟨t,O⟩
 .exact⟨t,O⟩
def Itd(a:Addr)(o:Obj)(kvs:List (fc×V)):It:=
 ⟨λi H=>i<kvs.length/\H a=Z (.n? o (.dK kvs)),λi H x b=>b=H/\∃k z,kvs[i]?=Z (k,z)/\x=kV k,λi H=>kvs.length<=i/\H a=Z (.n? o (.dK kvs))⟩
section
variable{X:Cx}{pins:cD}{σ:St}{H:Hp}{s:ae}
def GY(I:c3 X pins σ H s)(e:H a=Z (.n? o (.dK kvs)))(hd:o.data=.dict i f):
  (a==dF)=δ/\s.heap.get? a=Z o/\∃b,KV kvs b/\s.heap.DictAt (vA X.prog X.w) a b f:=by
 obtain⟨c,_,y,b,r,p,j,h,d,l,q3,m⟩:=(show wI X.prog X.w H s.heap a (.n? o (.dK kvs)) from I.fx a _ e);rw[c]at d;cases d;rw[hd]at q3;cases q3;exact⟨y,c,b,r,o,i,c,l,hd,m⟩
def Z8{kvs:List (fc×V)}{a:List (fc×ab)}(r:KV kvs a){i:Nat}{k:fc}{x:ab}(e:a[i]?=Z (k,x)):∃z,kvs[i]?=Z (k,z):=by
 induction r generalizing i with
 |nil=>cases e
 |@cons p q l c h _ b=>
  cases i with
  |zero=>obtain⟨pk,pv⟩:=p;cases e;exact⟨pv,by rw[show pk=k from h.1];rfl⟩
  |succ i=>exact b e
end
def Rm{K:av}(a it:Addr)(o:Obj)(kvs:List (fc×V)):Turn P w K tg (Itd a o kvs) [it] it (λi h=>∃es ep,o.data=.dict es ep/\h.IsKeyIter it a i kvs.length ep) where
 mem:=by simp
 obj:=λi h st b hb=>by
  have e:b=it:=by simpa using hb
  subst e;obtain⟨es,ep,hd,ob,e,c,d⟩:=st;exact⟨ob,e,λv z=>by rw[d]at z;cases z⟩
 keep:=λi h h' st k=>by obtain⟨es,ep,hd,x⟩:=st;exact⟨es,ep,hd,x.at λo e=>k it (by simp) o e⟩
 item:=by
  intro X hP hw hK C i pins s σ H E I hf st hg;subst hP hw hK;obtain⟨hi,p⟩:=hg;obtain⟨es,ep,hd,m⟩:=st;obtain⟨j,t,N,u,y,B⟩:=hf it (by simp);obtain⟨_,_,vs,r,q⟩:=GY I p hd;have l:kvs.length=vs.length:=r.length;have hne:a≠it:=λz=>by subst z;rw[p]at j;cases j
  have W:=Walks.dictKeys (knd:=vA X.prog X.w) (A:=X.A) (I.ok.hd C) it a hne vs ep;refine W.item i s _ _ (by omega) ⟨by rw[<-l];exact m,q⟩ λv h' tk R F U=>?_;obtain⟨k,x,S,Q⟩:=R;obtain⟨z,T⟩:=Z8 r S;have G:c3 X pins σ H { s with heap:=h',toks:=tk }:=I.k? (λb o hb e=>U b o (by simpa using hb) e) j t u y B;obtain⟨f,_⟩:=F;rw[<-l]at f;obtain⟨ob,e,c,d⟩:=id f;exact⟨v,O,O4 (s:={ s with heap:=h',toks:=tk }) e c d (by decide) ⟨kV k,H,G,PF Q,⟨O,k,z,T,O⟩,⟨es,ep,hd,f⟩,λb hb=>(hf b hb).1⟩⟩
 done:=by intro X hP hw hK C i pins s σ H E I hf st hg;subst hP hw hK;obtain⟨hi,p⟩:=hg;obtain⟨es,ep,hd,m⟩:=st;obtain⟨j,t,N,u,y,B⟩:=hf it (by simp);obtain⟨_,_,vs,r,q⟩:=GY I p hd;have l:kvs.length=vs.length:=r.length;exact wpAny_pyNext_dict_end (I.ok.hd C) (by rw[<-l];exact m) q (gB (by rw[<-l];exact hi)) λh' M=>⟨O,I.k? (t':=s.toks) (λb o hb e=>M b o hb e) j t u y B⟩
 self:=λ_ _ _ _ _ st h=>by obtain⟨es,ep,hd,m⟩:=st;exact wpAny_pyIter_keyiter m h
section
variable{X:Cx}{G:Bg}{tg:Expr}
def iDic(c:TE):TI:=λd H R=>c d H λx b=>∃a o kvs,x=.ref a/\b a=Z (.n? o (.dK kvs))/\R (Itd a o kvs) b
def WW(j:PE X l P):PI X tg l (iDic P):=by
 intro c s Q H R I h;refine fy (j c s Q H _ I h) λv d zz=>?_;obtain⟨x,m,f,N,M⟩:=zz;obtain⟨a,o,kvs,e,F,q⟩:=M;subst e;cases N;obtain⟨z,_,y,A,r,S,u,i,p,B,t,C⟩:=(show wI X.prog X.w m d.heap a (.n? o (.dK kvs)) from f.fx a _ F);rw[z]at p;cases p;have j:kvs.length=A.length:=r.length;refine wpAny_pyIter_dict (knd:=vA X.prog X.w) (kvs:=A) (ep:=i) y ⟨o,u,z,B,t,C⟩ ?_;refine⟨d.heap.objs.size,[d.heap.objs.size],_,_,m,O,f.g? (t':=d.toks) λb o e=>aK _ e,Rm a _ o kvs,⟨u,i,t,⟨_,br _ O,O,by rw[j];rfl⟩⟩,λb E=>?_,q⟩;have e:b=d.heap.objs.size:=by simpa using E
 subst e;exact f.υ (aO _) (f.fx.fresh (aO _))
def Z9:fc->D
 |.inl i=>.int i
 |.inr x=>.str x
def WX(k:fc):cb G H (Z9 k) (kV k):=by
 cases k with
 |inl i=>exact xt i
 |inr x=>exact zB x
def iD(f:FE):FA:=λd=>match f d with
 |some (.Q b c,a)=>if b.length=c.length then Z (b.map Z9,a)else J
 |_=>J
def TJ(h:PI X tg e (iDic (tF G f))):PI X tg e (μ G (iD f)):=PI.d? h λσ H R Q=>by
 obtain⟨F,ρ,B,ds,ρ',R,e,k⟩:=Q;unfold iD at e;split at e
 .rename_i p M ρ1 N;split at e
  .rename_i x;cases e;refine⟨F,ρ,B,_,_,R,N,λv H1 C s w r=>?_⟩;unfold cb at r;obtain⟨a,o,Y,rfl,q,W,r3⟩:=r;have A:(p.zip Y).length=p.length:=by rw[iM,<- W,iR]
   refine⟨a,o,_,O,w.sub _ _ q,k _ _ _ s w λi E I t u=>⟨λd c=>?_,λT=>?_⟩⟩
   .rw[bA]at c;cases m:p[i]? with
    |none=>rw[m]at c;cases c
    |some j=>
     rw[m]at c;cases c;have S:i<p.length:=(cj.1 m).1;refine⟨⟨by rw[A];exact S,u _ _ (t _ _ q)⟩,λz H3 y=>?_⟩;obtain⟨P,U,z',l,rfl⟩:=y;subst P;have:U=j:=by rw[List.getElem?_zip_eq_some]at l;have:=l.1;rw[m]at this;exact(cI this).symm
     subst this;exact⟨E,ve.refl _,u,ve.refl _,λb o e=>.inl e,WX _⟩
   .refine⟨by rw[A,T,ah];exact aO _,u _ _ (t _ _ q)⟩
  .cases e
 .cases e
end
mutual
def w?(N c:Nat):D->Bool
 |.E=>γ
 |.I _=>γ
 |.int _=>γ
 |.str _=>γ
 |.du a=>zS N c a
 |.bt a=>zS N c a
 |.R a=>zS N c a
 |.obj k _ a=>decide (k<N)&&decide (k≠c)&&zS N c a
 |.Q _ a=>zS N c a
def zS(N c:Nat):bp->Bool
 |[]=>γ
 |d::a=>w? N c d&&zS N c a
end
def without(H:Hp)(a:Addr):Hp:=λb=>if b=a then J else H b
def IY(h:b≠a):without H a b=H b:=by unfold without;rw[ao h]
def Fc(h:without H a b=Z o):b≠a/\H b=Z o:=by
 unfold without at h;by_cases c:b=a
 .rw[ak c]at h;cases h
 .rw[ao c]at h;exact⟨c,h⟩
def yM(e:H a=Z u)(c:H b=Z v)(d:u≠v):without H a b=Z v:=by rw[IY (λz=>by subst z;rw[e]at c;exact d (cI c))];exact c
section
variable{G:Bg}{H:Hp}{a dx:Addr}{fs:List (Str×V)}{N c:Nat}
def Nh(b:H a=Z (.nj (G.ca c) dx fs))(h:ij G.K H p d):ij G.K (without H a) p d:=by
 rcases h with (h|⟨o,h⟩)|h
 .exact .inl (.inl (yM b h (λz=>nomatch z)))
 .exact .inl (.inr ⟨o,yM b h (λz=>nomatch z)⟩)
 .exact .inr h
def Ni(b:H a=Z (.nj (G.ca c) dx fs))(h:gd G.K H p d):gd G.K (without H a) p d:=by
 rcases h with (h|⟨o,h⟩)|h
 .exact .inl (.inl (yM b h (λz=>nomatch z)))
 .exact .inl (.inr ⟨o,yM b h (λz=>nomatch z)⟩)
 .exact .inr h
mutual
theorem GZ(inj:∀j k,j<N->k<N->G.ca j=G.ca k->j=k)(q:c<N)(f:H a=Z (.nj (G.ca c) dx fs)):∀(d:D) (v:V),w? N c d=γ->cb G H d v->cb G (without H a) d v
 |.E,v,_,h=>by unfold cb at h ⊢;exact h
 |.I _,v,_,h=>by unfold cb at h ⊢;exact h
 |.int _,v,_,h=>by unfold cb at h ⊢;exact h
 |.str _,v,_,h=>by unfold cb at h ⊢;exact h
 |.du i,v,n,h=>by unfold w? at n;unfold cb at h ⊢;obtain⟨p,b,e,l,m⟩:=h;exact⟨p,b,e,Nh f l,yg inj q f i b n m⟩
 |.bt i,v,n,h=>by unfold w? at n;unfold cb at h ⊢;obtain⟨p,b,e,l,m⟩:=h;exact⟨p,b,e,yM f l (λz=>nomatch z),yg inj q f i b n m⟩
 |.R i,v,n,h=>by unfold w? at n;unfold cb at h ⊢;obtain⟨p,b,e,l,m⟩:=h;exact⟨p,b,e,Ni f l,yg inj q f i b n m⟩
 |.obj k x i,v,n,h=>by unfold w? at n;simp only[aW,bQ]at n;unfold cb at h ⊢;obtain⟨p,r,b,e,l,m,t⟩:=h;refine⟨p,r,b,e,yM f l (λz=>?_),m,yg inj q f i b n.2 t⟩;injection z with u;exact n.1.2 (inj k c n.1.1 q u.symm)
 |.Q w i,v,n,h=>by unfold w? at n;unfold cb at h ⊢;obtain⟨p,o,b,e,l,m,t⟩:=h;exact⟨p,o,b,e,yM f l (λz=>nomatch z),m,yg inj q f i b n t⟩
theorem yg(inj:∀j k,j<N->k<N->G.ca j=G.ca k->j=k)(l:c<N)(i:H a=Z (.nj (G.ca c) dx fs)):∀(b:bp) (f:bN),zS N c b=γ->uQ G H b f->uQ G (without H a) b f
 |[],f,_,h=>by unfold uQ at h ⊢;exact h
 |d::b,f,n,h=>by unfold zS at n;simp only[aW]at n;unfold uQ at h ⊢;obtain⟨v,r,e,m,o⟩:=h;exact⟨v,r,e,GZ inj l i d v n.1 m,yg inj l i b r n.2 o⟩
end
end
def Bf:Sl->Sl
 |.z d=>.z d
 |_=>.un
def Ea(N:Nat)(f:FE):FE:=λa=>match a with
 |.ob c e b::r=>match f (.z (.obj c e b)::r.map Bf)with
  |some (d,_)=>if (decide (c<N)&&w? N c d)=γ then Z (d,a)else J
  |none=>J
 |_=>J
section
variable{X:Cx}{G:Bg}
def Oy:(Bf s).jj=δ:=by cases s<;>rfl
def WY(inj:∀j k,j<N->k<N->G.ca j=G.ca k->j=k)(h:PE X e (tF G f)):PE X e (tF G (Ea N f)):=PE.d? h λσ H Q T=>by
 obtain⟨F,ρ,H0,d,ρ',R,e,k⟩:=T;unfold Ea at e;split at e
 .rename_i c ns ds r;rcases vF (f:=f) (ρ:=.z (.obj c ns ds)::r.map Bf)with w|⟨x,A,w⟩<;>simp only[w]at e
  .cases e
  split at e
  .rename_i hn;cases e;simp only[aW,bQ]at hn;obtain⟨a,dx,xs,I,M,y,W,P,S⟩:=R.sl 0 _ O;have RL:vy G ⟨ff H0 a (.nj (G.ca c) dx (ns.zip xs)),H,[]⟩ σ (.z (.obj c ns ds)::r.map Bf) (ff H0 a (.nj (G.ca c) dx (ns.zip xs))) H:={
    sub:=λb o q=>by
     by_cases hb:b=a
     .subst hb;rw[vb]at q;cases q;exact M
     .rw[vn hb]at q;exact R.sub _ _ q
    g0:=ve.refl _
    keep:=λb o q _=>q
    fr:=λb o q=>.inl q
    am:=λb q=>by cases q
    len:=by have:=R.len;simpa using this
    sl:=λi s q=>by
     cases i with
     |zero=>cases q;exact⟨.ref a,I,by unfold cb;exact⟨a,dx,xs,O,vb,P,uQ.mono (vw y _) _ _ S⟩⟩
     |succ i=>
      have l:(r.map Bf)[i]?=Z s:=q;rw[bA]at l;cases m:r[i]? with
      |none=>rw[m]at l;cases l
      |some t=>
       rw[m]at l;cases l;have ok:=R.sl (i+1) t m;cases t with
       |z d=>obtain⟨v,g1,g2⟩:=ok;exact⟨v,g1,cb.mono (vw y _) _ _ g2⟩
       |_=>trivial
    ap:=λi j s t b _ B _ so=>by
     cases i with
     |zero=>cases B;cases so
     |succ i=>
      have l:(r.map Bf)[i]?=Z s:=B;rw[bA]at l;cases m:r[i]? with
      |none=>rw[m]at l;cases l
      |some t=>rw[m]at l;cases l;rw[Oy]at so;cases so }
   refine⟨_,_,_,d,A,RL,w,λv H1 p s u U=>?_⟩;have ha:H1 a=Z (.nj (G.ca c) dx (ns.zip xs)):=s _ _ vb;have C:ve H0 (without H1 a):=λb o q=>by
    have hb:b≠a:=λz=>by subst z;rw[y]at q;cases q
    rw[IY hb];exact s b o (by rw[vn hb];exact q)
   refine k v (without H1 a) p C ?_ (GZ inj hn.1 ha d v hn.2 U);refine R.i0 (λb o q=>u.keep b o q (by simp)) C (λb o q=>u.sub _ _ (Fc q).2) λb o q=>?_;obtain⟨hb,q⟩:=Fc q;rcases u.fr b o q with z|z
   .have E:ff H0 a (.nj (G.ca c) dx (ns.zip xs)) b=Z o:=z;rw[vn hb]at E;exact .inl E
   .exact .inr z
  .cases e
 .cases e
end
section
variable{X:Cx}{pins:cD}{σ:St}{H:Hp}{s:ae}{a:Addr}{A:aI}{E:ab->ae->Prop}
theorem aaa(I:c3 X pins σ H s)(e:H a=Z (.dK kvs))(M:et (kV k) u)(N:et z r)(P:kvs.length<aG)
  (l:∀v w f,y3 kvs k=Z v->c3 X pins σ H f->et v w->Q w f) (m:∀f,y3 kvs k=J->c3 X pins σ (ff H a (.dK (m? kvs k z))) f->Q r f):
  ai (model X.prog X.w) A (call (.builtin "dict.setdefault") [.ref a,u,r]) Q E s:=by
 obtain⟨y,hd,i,rel,h⟩:=XS I.fx e;have G:i.length<=aG:=by rw[<-rel.length];exact y
 have t:(m? kvs k z).length<=aG:=by have:=CW kvs k z;omega
 have b:=rel.val k;refine gY oA h.typeIs F.entry_dict_setdefault (F.args_dict_setdefault_3 _ _ _) (kt_meets_setdefault (vA X.prog X.w) a (GO M) hd r) ⟨i,h,G,λw C=>?_,λp j d B=>?_⟩
 .rw[C]at b;cases c:y3 kvs k with
  |none=>rw[c]at b;exact b.elim
  |some v=>rw[c]at b;exact l v w _ c (I.xr _) b
 .rw[p]at b;cases c:y3 kvs k with
  |some v=>rw[c]at b;exact b.elim
  |none=>have o:∃q,j.get? a=Z q:=let ⟨q,_,_,x,_⟩:=d;⟨q,x⟩;exact m _ c (LF I (by rw[e];exact True.intro) B o (Ss t hd (rel.put k N) d))
def TM(e ty f:TE):TE:=λσ H Q=>e σ H λx c=>∃a,x=.ref a/\IsD c a/\ty σ c λy d=>f σ d λz b=>∃kvs k,b a=Z (.dK kvs)/\y=kV k/\kvs.length<aG/\
 (∀v,y3 kvs k=Z v->Q v b)/\(y3 kvs k=J->Q z (ff b a (.dK (m? kvs k z))))
theorem TN(U:PE X o td)(R:PE X e ty)(S:PE X f tx)(m:M2 X o "setdefault" apos e f cpos):PE X (.Call (.Attribute o "setdefault" apos) [e,f] [] cpos) (TM td ty tx):=by
 intro pins s σ H Q I h;refine jE m.b? m.few m.line jF oA F.type_dict_setdefault (fy (U pins s σ H _ I h) λu s1 zz=>?_);obtain⟨x,p,j,rx,a,G,d,W⟩:=zz;subst G;obtain rfl:u=Value.ref a:=rx;obtain⟨t1,t2,_⟩:=LG j d;refine⟨t1,t2,?_⟩;rw[m.Rk];refine ir O (iy (eE (fy (R pins s1 σ p _ j W) λiv s2 ⟨y,q,t,ry,Y⟩=>
  eE (fy (S pins s2 σ q _ t Y) λfv s3 ⟨z,r,B,l,kvs,k,C,M,T,N,P⟩=>fV ?_))))
 subst M;exact aaa B C ry l T (λv w s' c b i=>⟨v,r,b,i,N v c⟩) λs' c b=>⟨z,_,b,l,P c⟩
end
def B6(a:List fc)(dss:List bp)(k:fc)(d:D):List fc×List bp:=
 if HR a k=γ then (a,gh (λc b=>if c=k then b++[d]else b) a dss)else (a++[k],dss++[[d]])
def Fd:HR c k=γ ↔ k∈c:=by unfold HR;rw[fD];exact⟨λ⟨x,a,b⟩=>bB b▸a,λh=>⟨k,h,aV O⟩⟩
def TQ{b:List fc}{a:bN}:b.length=a.length->y3 (b.zip a) k=Z v->∃j:Nat,b[j]?=Z k/\a[j]?=Z v:=by
 induction b generalizing a with
 |nil=>intro _ h;cases h
 |cons l b i=>
  intro c h;cases a with
  |nil=>cases c
  |cons m a=>
   unfold y3 at h;rw[fm,eK]at h;by_cases e:l=k
   .subst e;simp only[decide_true]at h;cases h;exact⟨0,O,O⟩
   .simp only[e,decide_false]at h;obtain⟨j,d,f⟩:=i (by simpa using c) h;exact⟨j+1,d,f⟩
def TR{a:List fc}{b:bN}:a.length=b.length->y3 (a.zip b) k=J->k∉a:=by
 induction a generalizing b with
 |nil=>intro _ _ h;cases h
 |cons i a f=>
  intro c h d;cases b with
  |nil=>cases c
  |cons j b=>
   unfold y3 at h;rw[fm,eK]at h;by_cases e:i=k
   .subst e;simp only[decide_true]at h;cases h
   .simp only[e,decide_false]at h;rcases aL.1 d with z|z
    .exact e z.symm
    .exact f (by simpa using c) h z
structure S2(G:Bg)(F:Fr)(H0 H:Hp)(a:Addr)(ks:List fc)(dss:List bp)(bs:List Addr):Prop where
 i?:H a=Z (.dK (ks.zip (bs.map V.ref)))
 n0:H0 a=J
 nB:F.B a=J
 len:ks.length=bs.length
 D0:bs.length=dss.length
 nd:bs.Nodup
 kd:ks.Nodup
 each:∀(i:Nat) (b:Addr) (ds:bp),bs[i]?=Z b->dss[i]?=Z ds->∃xs,H b=Z (.bt xs)/\H0 b=J/\F.B b=J/\uQ G H0 ds xs
section
variable{G:Bg}{F:Fr}{σ:St}{ρ:aQ}{H0 H H0' H':Hp}{a:Addr}{ks:List fc}{dss:List bp}{bs:List Addr}
def S2.i0(g:S2 G F H0 H a ks dss bs)(c:ve H H')(h:ve H0 H0')(hf:∀b o,H0' b=Z o->H0 b=Z o\/H b=J):S2 G F H0' H' a ks dss bs where
 i?:=c _ _ g.i?
 n0:=by
  cases q:H0' a with
  |none=>rfl
  |some o=>
   rcases hf a o q with z|z
   .rw[g.n0]at z;cases z
   .rw[g.i?]at z;cases z
 nB:=g.nB
 len:=g.len
 D0:=g.D0
 nd:=g.nd
 kd:=g.kd
 each:=λi b ds e f=>by
  obtain⟨xs,d,j,q3,l⟩:=g.each i b ds e f;refine⟨xs,c _ _ d,?_,q3,uQ.mono h _ _ l⟩;cases q:H0' b with
  |none=>rfl
  |some o=>
   rcases hf b o q with z|z
   .rw[j]at z;cases z
   .rw[d]at z;cases z
def vy.still(R:vy G F σ ρ H0 H)(no:∀s∈ρ,s.jj=δ):vy G ⟨H0,H,[]⟩ σ ρ H0 H where
 sub:=R.sub
 g0:=ve.refl _
 keep:=λb o e _=>e
 fr:=λb o e=>.inl e
 am:=λa h=>by cases h
 len:=R.len
 sl:=λi s e=>by
  have ok:=R.sl i s e;have n:=no s (cn e);cases s with
  |un=>trivial
  |z d=>exact ok
  |_=>cases n
 ap:=λi j s t b _ e _ so=>by rw[no s (cn e)]at so;cases so
theorem vy.touch(R:vy G F σ ρ H0 H)(no:∀s∈ρ,s.jj=δ)(c:∀b o,H b=Z o->(H0 b≠J\/F.B b≠J)->H' b=Z o)(ha:∀b o,H b=Z o->∃f,H' b=Z f):vy G F σ ρ H0 H' where
 sub:=λb o e=>c b o (R.sub _ _ e) (.inl (by rw[e];exact λz=>nomatch z))
 g0:=R.g0
 keep:=λb o e n=>c b o (R.keep b o e n) (.inr (by rw[e];exact λz=>nomatch z))
 fr:=R.fr
 am:=λb hb=>by obtain⟨o,e⟩:=R.am b hb;exact ha b o e
 len:=R.len
 sl:=λi s e=>by
  have ok:=R.sl i s e;have n:=no s (cn e);cases s with
  |un=>trivial
  |z d=>exact ok
  |_=>cases n
 ap:=λi j s t b _ e _ so=>by rw[no s (cn e)]at so;cases so
def aab{bs:List Addr}(h:bs.Nodup){i j:Nat}{b:Addr}(c:bs[i]?=Z b)(d:bs[j]?=Z b):i=j:=by obtain⟨l,e⟩:=cj.1 c;obtain⟨m,f⟩:=cj.1 d;exact(lD h).1 (e.t f.symm)
def aac{ks:List fc}(h:ks.Nodup){i j:Nat}{b:fc}(c:ks[i]?=Z b)(d:ks[j]?=Z b):i=j:=by obtain⟨l,e⟩:=cj.1 c;obtain⟨m,f⟩:=cj.1 d;exact(lD h).1 (e.t f.symm)
def S2.more(g:S2 G F H0 H a ks dss bs){j:Nat}{k:fc}{b:Addr}{d:D}{v:V}{y:bN}(h:ks[j]?=Z k)(p:bs[j]?=Z b)(l:H b=Z (.bt y))(I:cb G H0 d v):
  S2 G F H0 (ff H b (.bt (y++[v]))) a (B6 ks dss k d).1 (B6 ks dss k d).2 bs:=by
 have A:HR ks k=γ:=Fd.2 (cn h);unfold B6;rw[ak A];have E:a≠b:=λz=>by subst z;rw[g.i?]at l;cases l
 refine⟨by rw[vn E];exact g.i?,g.n0,g.nB,g.len,?_,g.nd,g.kd,λi c N o e=>?_⟩
 .rw[kW,<- g.D0,<- g.len,iR,g.len]
 .rw[List.getElem?_zipWith]at e;cases f:ks[i]? with
  |none=>rw[f]at e;cases e
  |some B=>
   cases t:dss[i]? with
   |none=>rw[f,t]at e;cases e
   |some m=>
    rw[f,t]at e;cases e;obtain⟨M,u,w,w3,x⟩:=g.each i c m o t;by_cases q:B=k
    .subst q;have r:=aac g.kd f h;subst r;rw[o]at p;cases p;rw[u]at l;cases l;rw[ak O];exact⟨_,vb,w,w3,xj x (vR I vM)⟩
    .rw[ao q];have C:c≠b:=λz=>by subst z;have r:=aab g.nd o p;subst r;rw[f]at h;cases h;exact q O
     exact⟨M,by rw[vn C];exact u,w,w3,x⟩
theorem S2.fresh(g:S2 G F H0 H a ks dss bs)(t:k∉ks)(q:H p=J)(C:H0 p=J)(hB:F.B p=J)(N:cb G H0 d v):
  S2 G F H0 (ff (ff (ff H p (.bt [])) a (.dK ((ks++[k]).zip ((bs++[p]).map V.ref)))) p (.bt [v])) a (B6 ks dss k d).1 (B6 ks dss k d).2 (bs++[p]):=by
 have E:¬HR ks k=γ:=λz=>t (Fd.1 z);unfold B6;rw[ao E];have M:a≠p:=λz=>by subst z;rw[g.i?]at q;cases q
 have w:p∉bs:=λz=>by
  obtain⟨i,l,e⟩:=kX z;have b:bs[i]?=Z p:=by rw[bh l,e]
  obtain⟨j,f⟩:∃j,dss[i]?=Z j:=⟨dss[i]'(by rw[<-g.D0];exact l),bh _⟩;obtain⟨A,h,_⟩:=g.each i p j b f;rw[q]at h;cases h
 refine⟨by rw[vn M,vb],g.n0,g.nB,by simp[g.len],by simp[g.D0],?_,?_,λi c j b f=>?_⟩
 .rw[cp];refine⟨g.nd,by simp,λx r y m=>?_⟩;rw[bj]at m;subst m;exact λz=>w (z▸r)
 .rw[cp];refine⟨g.kd,by simp,λx r y m=>?_⟩;rw[bj]at m;subst m;exact λz=>t (z▸r)
 .by_cases l:i<bs.length
  .rw[fR l]at b;rw[fR (by rw[<-g.D0];exact l)]at f;obtain⟨A,h,P,w3,Q⟩:=g.each i c j b f;have u:c≠p:=λz=>w (z▸cn b);have I:c≠a:=λz=>by subst z;rw[g.i?]at h;cases h
   exact⟨A,by rw[vn u,vn I,vn u];exact h,P,w3,Q⟩
  .have o:i=bs.length:=by have:i<(bs++[p]).length:=(cj.1 b).1;rw[aE,cF]at this;omega
   subst o;rw[fQ (aO _),qM]at b;rw[g.D0,fQ (aO _),qM]at f;cases b;cases f;exact⟨[v],vb,C,hB,vR N vM⟩
def Nj(G:Bg)(b:FE):TS:=XG (tBM G.K "list" LD (TM (BU 1) (tF G b) (tLst JZ)) (D6 (BU 2) JZ))
theorem TU{T:ψ}{m:V}(R:vy G F σ ρ H0 H)(no:∀s∈ρ,s.jj=δ)(h1:σ[1]?=Z (Z (.ref a)))(X:σ[2]?=Z (Z m))(rd:cb G H0 d m)
  (g:S2 G F H0 H a ks dss bs) (hk:fk ρ=Z (x,ρ)) (ek:BE x=Z k) (l1:ks.length<1000) (l2:∀l∈dss,l.length<1000)
  (kont:∀E I N,ve H0 E->vy G F σ ρ E I->S2 G F E I a (B6 ks dss k d).1 (B6 ks dss k d).2 N->T.nx σ I):Nj G fk T σ H:=by
 refine⟨.ref a,h1,a,O,.inl ⟨_,.inl g.i?⟩,_,_,_,x,ρ,vy.still R no,hk,λv h f s M r=>?_⟩;have hs:ve H f:=λb o e=>M.keep b o e (by simp);have Y:∀b o,h b=Z o->H0 b=Z o\/H b=J:=M.fr;have R2:vy G F σ ρ h f:=R.i0 hs s M.sub Y;have u:S2 G F h f a ks dss bs:=g.i0 hs s Y;have A:=cb.mono s _ _ rd;refine⟨cq _,λp i=>?_⟩;have np:a≠p:=λz=>by subst z;rw[u.i?]at i;cases i
 have U:vy G F σ ρ h (ff f p (.bt [])):=R2.l7 i _;have P:S2 G F h (ff f p (.bt [])) a ks dss bs:=u.i0 (vw i _) (ve.refl _) λb o e=>.inl e;have lz:(ks.zip (bs.map V.ref)).length<aG:=by rw[iM,ah,<- g.len,iR,bS];omega
 refine⟨_,k,P.i?,B5 r ek,lz,λw C=>?_,λC=>?_⟩
 .obtain⟨j,e1,q⟩:=TQ (by rw[ah];exact g.len) C;rw[bA]at q;cases t:bs[j]? with
  |none=>rw[t]at q;cases q
  |some b=>
   rw[t]at q;cases q;obtain⟨l,W⟩:∃l,dss[j]?=Z l:=⟨dss[j]'(by rw[<-g.D0];exact(cj.1 t).1),bh _⟩;obtain⟨S,Q,w2,w3,w4⟩:=P.each j b l t W;have lx:S.length<aG:=by rw[<-uV w4,bS];have:=l2 l (cn W);omega
   refine⟨.inl ⟨O,S,gd.of Q⟩,m,X,b,S,m,O,O,Q,lx,?_⟩;refine kont h _ bs s (vy.touch U no (λc o e z=>?_) λc o e=>?_) (P.more e1 t Q A)
   .have nc:c≠b:=λy=>by
     subst y;rcases z with z|z
     .exact z w2
     .exact z w3
    rw[vn nc];exact e
   .by_cases y:c=b
    .subst y;exact⟨_,vb⟩
    .rw[vn y];exact⟨o,e⟩
 .have nk:=TR (by rw[ah];exact g.len) C;have h0p:h p=J:=R2.f5 i;have hBp:F.B p=J:=R2.i1 i;have ez:m? (ks.zip (bs.map V.ref)) k (.ref p)=(ks++[k]).zip ((bs++[p]).map V.ref):=by rw[Sq _ C,bu,lZ (by rw[ah];exact g.len)];rfl
  rw[ez];have q0:ff (ff f p (.bt [])) a (.dK ((ks++[k]).zip ((bs++[p]).map V.ref))) p=Z (.bt []):=by rw[vn (λz=>np z.symm),vb]
  refine⟨.inl ⟨O,[],gd.of q0⟩,m,X,p,[],m,O,O,q0,by rw[bS];decide,?_⟩;refine kont h _ (bs++[p]) s (vy.touch U no (λc o e z=>?_) λc o e=>?_) (u.fresh nk i h0p hBp A)
  .have n1:c≠p:=λy=>by
    subst y;rcases z with z|z
    .exact z h0p
    .exact z hBp
   have n2:c≠a:=λy=>by
    subst y;rcases z with z|z
    .exact z u.n0
    .exact z u.nB
   rw[bZ,vn n1,vn n2];exact e
  .by_cases y:c=p
   .subst y;exact⟨_,vb⟩
   .rw[vn y];by_cases y2:c=a
    .subst y2;exact⟨_,vb⟩
    .rw[vn y2];exact⟨o,e⟩
end
def Dh(b:D->Option D):bp->List fc->List bp->Option (List fc×List bp)
 |[],a,dss=>Z (a,dss)
 |d::r,a,dss=>match b d with
  |some x=>match BE x with
   |some k=>if (decide (a.length<1000)&&dss.all λc=>decide (c.length<1000))=γ then Dh b r (B6 a dss k d).1 (B6 a dss k d).2 else J
   |none=>J
  |none=>J
def Oz(b:D->Option D):FS:=λc=>match c with
 |[.z (.bt L),.un,.un]=>match Dh b L [] []with
  |some (a,dss)=>Z (.rt (.Q a (dss.map .bt)) [.z (.bt L),.un,.un])
  |none=>J
 |_=>J
section
variable{X:Cx}{G:Bg}
theorem G0:∀(bs:List Addr) (dss:List bp),bs.length=dss.length->(∀(i:Nat) (b:Addr) (a:bp),bs[i]?=Z b->dss[i]?=Z a->∃c,d b=Z (.bt c)/\uQ G d a c)->
  uQ G d (dss.map .bt) (bs.map V.ref)
 |[],[],_,_=>vM
 |[],_::_,h,_=>by cases h
 |_::_,[],h,_=>by cases h
 |b::bs,a::dss,h,k=>by obtain⟨c,j,l⟩:=k 0 b a O O;exact vR (BZ j l) (G0 bs dss (by simpa using h) λi b a e f=>k (i+1) b a e f)
theorem WZ(R:vy G F σ [.z (.bt L),.un,s2] H0 H)(g:S2 G F H0 H a ks dss bs)(o:Obj):
  ∃q,ve H0 q/\vy G F σ [.z (.bt L),.un,.un] q (ff H a (.n? o (.dK (ks.zip (bs.map V.ref)))))/\cb G q (.Q ks (dss.map .bt)) (.ref a):=by
 have r:∀{b:Addr},b∈bs->∃xs,H b=Z (.bt xs)/\H0 b=J/\F.B b=J:=λ{b} hb=>by obtain⟨i,hi,e⟩:=kX hb;obtain⟨xs,h,m,w3,_⟩:=g.each i b (dss[i]'(by rw[<-g.D0];exact hi)) (by rw[bh hi,e]) (bh _);exact⟨xs,h,m,w3⟩
 have na:a∉bs:=λz=>by obtain⟨xs,h,_⟩:=r z;rw[g.i?]at h;cases h
 have p:ve H0 (λc=>if c=a then Z (.n? o (.dK (ks.zip (bs.map V.ref))))else if c∈bs then H c else H0 c):=λc u e=>by
  have f:c≠a:=λz=>by subst z;rw[g.n0]at e;cases e
  have l:c∉bs:=λz=>by obtain⟨_,_,m,_⟩:=r z;rw[m]at e;cases e
  show (if c=a then _ else if c∈bs then H c else H0 c)=_;rw[ao f,ao l];exact e
 refine⟨_,p,?_,?_⟩
 .exact {
   sub:=λc u e=>by
    have d:(if c=a then Z (HO.n? o (.dK (ks.zip (bs.map V.ref))))else if c∈bs then H c else H0 c)=Z u:=e;by_cases f:c=a
    .subst f;rw[ak O]at d;rw[vb];exact d
    .rw[ao f]at d;rw[vn f];by_cases l:c∈bs
     .rw[ak l]at d;exact d
     .rw[ao l]at d;exact R.sub _ _ d
   g0:=R.g0.t p
   keep:=λc u e n=>by rw[vn (λz=>by subst z;rw[g.nB]at e;cases e)];exact R.keep c u e n
   fr:=λc u e=>by
    have d:(if c=a then Z (HO.n? o (.dK (ks.zip (bs.map V.ref))))else if c∈bs then H c else H0 c)=Z u:=e;by_cases f:c=a
    .subst f;exact .inr g.nB
    .rw[ao f]at d;by_cases l:c∈bs
     .obtain⟨_,_,_,w3⟩:=r l;exact .inr w3
     .rw[ao l]at d;exact R.fr _ _ d
   am:=λc y=>by
    by_cases f:c=a
    .subst f;exact⟨_,vb⟩
    .rw[vn f];exact R.am c y
   len:=R.len
   sl:=λi s e=>by
    match i,e with
    |0,e=>cases e;obtain⟨v,h,m⟩:=R.sl 0 _ O;exact⟨v,h,cb.mono p _ _ m⟩
    |1,e=>cases e;trivial
    |2,e=>cases e;trivial
    |i+3,e=>cases e
   ap:=λi j s t b _ e _ so=>by
    match i,e with
    |0,e=>cases e;cases so
    |1,e=>cases e;cases so
    |2,e=>cases e;cases so
    |i+3,e=>cases e }
 .unfold cb;refine⟨a,o,bs.map V.ref,O,by show (if a=a then _ else _)=_;rw[ak O],by rw[ah];exact g.len,G0 bs dss g.D0 λi b ds w x=>?_⟩;obtain⟨xs,h,m,w3,C⟩:=g.each i b ds w x;have hb:=cn w;refine⟨xs,?_,uQ.mono p _ _ C⟩;show (if b=a then _ else if b∈bs then H b else H0 b)=_;have A:b≠a:=λz=>na (by rw[<-z];exact hb);rw[ao A,ak hb];exact h
def TV{L:bp}{b:Sl}(h:b.jj=δ):∀s∈[Sl.z (.bt L),.un,b],s.jj=δ:=λs a=>by
 simp only[aL,cA,or_false]at a;rcases a with rfl|rfl|rfl
 .rfl
 .rfl
 .exact h
inductive GI(G:Bg) (F:Fr) (Ha:Hp) (p:Addr) (L:bp) (vk:D->Option D) (KS:List fc) (DSS:List bp) (i:Nat) (σ':St) (H':Hp):Prop
 |mk (Hi:Hp) (ks:List fc) (dss:List bp) (bs:List Addr) (s2:Sl):ve Ha Hi->Sl.jj s2=δ->vy G F σ' [.z (.bt L),.un,s2] Hi H'->σ'[1]?=Z (Z (.ref p))->S2 G F Hi H' p ks dss bs->Dh vk (L.drop i) ks dss=Z (KS,DSS)->GI G F Ha p L vk KS DSS i σ' H'
def Ro(h1:PS X st1 (Ep Od (AU 1)))(h2:PS X st2 (YK (μ G (iL (cV 0))) (AU 2) (Nj G (c1 f (cV 2)))))
  (h3:PS X st3 (tRet (λw H Q=>BU 1 w H λx I=>Q x I\/∃a kvs,I a=Z (.dK kvs)/\∀o,Q x (ff I a (.n? o (.dK kvs)))))):p5 X [st1,st2,st3] (mq G (Oz f)):=
 p5.d? (Iq h1 (Iq h2 (Lr h3))) λE w H hh=>by
  obtain⟨F,ρ,H0,o,R,e,k,k2⟩:=hh;unfold Oz at e;split at e
  .rename_i L;cases P:Dh f L [] []with
   |none=>simp only[P]at e;cases e
   |some p=>
    obtain⟨KS,DSS⟩:=p;simp only[P]at e;cases e;intro p hp;have R1:vy G F (w.set 1 (Z (.ref p))) [.z (.bt L),.un,.un] H0 (ff H p (.dK [])):=(R.l7 hp (.dK [])).set (i:=1) (v:=.ref p) (s:=.un) trivial (λz=>by cases z);have t:w.length=3:=R.len;have g1:S2 G F H0 (ff H p (.dK [])) p [] [] []:=⟨vb,R.f5 hp,R.i1 hp,O,O,ma,ma,λi b ds e1=>by cases e1⟩;have v1:(w.set 1 (Z (V.ref p)))[1]?=Z (Z (.ref p)):=by rw[jv (by rw[t];decide)]
    refine⟨_,_,_,L,_,vy.still R1 (TV O),O,λAt M Hb s B wk=>?_⟩;have hs:ve (ff H p (.dK [])) Hb:=λb o e=>B.keep b o e (by simp);have R2:=R1.i0 hs s B.sub B.fr;have g2:=g1.i0 hs s B.fr;refine⟨λi m A h=>m=L.length - i/\i<=L.length/\GI G F M p L f KS DSS i A h,
     ⟨_,O,cq _,M,[],[],[],.un,ve.refl _,O,R2,v1,g2,P⟩,?_⟩
    rintro i m d j ⟨rfl,hi,Hi,ks,dss,bs,s2,C,n2,l,vi,U,c⟩;by_cases hlt:i<L.length
    .have ed:L.drop i=L[i]::L.drop (i+1):=jn hlt;rw[ed]at c;unfold Dh at c;cases T:f L[i]with
     |none=>simp only[T]at c;cases c
     |some x=>
      simp only[T]at c;cases S:BE x with
      |none=>simp only[S]at c;cases c
      |some kk=>
       simp only[S]at c;split at c
       .rename_i W;simp only[aW,bQ,aS]at W;obtain⟨go,yl⟩:=(wk i Hi j C l.sub).1 L[i] (bh hlt);refine .inr ⟨go,GI G F M p L f KS DSS (i+1),
         λA h q=>⟨L.length - (i+1),by omega,O,hlt,q⟩,λu h y=>?_⟩
        obtain⟨H2,t1,t2,t3,t4,t5⟩:=yl u h y;have Y:d.length=3:=l.len;have R3:vy G F (d.set 2 (Z u)) [.z (.bt L),.un,.z L[i]] H2 h:=(l.i0 t3 t1 t2 t4).setIm 2 t5;have w1:(d.set 2 (Z u))[1]?=Z (Z (.ref p)):=by rw[kP (by decide)];exact vi
        have w2:(d.set 2 (Z u))[2]?=Z (Z u):=by rw[jv (by rw[Y];decide)]
        refine TU R3 (TV O) w1 w2 t5 (U.i0 t3 t1 t4) (by show c1 f (cV 2) _=_;unfold c1 cV;simp only[List.getElem?_cons_succ,List.getElem?_cons_zero,T]) S W.1 (λds hd=>W.2 ds hd) λHc Hd N sc Rc gc=>?_;exact⟨Hc,_,_,N,_,C.t (t1.t sc),O,Rc,w1,gc,c⟩
       .cases c
    .have r:i=L.length:=by omega
     refine .inl ⟨(wk i Hi j C l.sub).2 r,?_⟩;subst r;rw[List.drop_length]at c;cases c;refine⟨.ref p,vi,.inr ⟨p,_,U.i?,λo=>?_⟩⟩;obtain⟨Hq,q1,q2,q3⟩:=WZ l U o;exact k _ _ Hq _ (s.t (C.t q1)) q2 q3
  .cases e
end
section
variable{X:Cx}{G:Bg}
def W0:∀y b,wL "int" y=Z b->di X.K (y.val G) (.type "int")=Z b:=λy b h=>by
 cases y with
 |c k=>cases h
 |b n=>
  unfold wL at h;simp only at h
  iterate 7 (split at h;· rename_i e;subst e;cases h;first|rfl|kernel_rfl)
  cases h
def TX:∀y b,wL "bool" y=Z b->di X.K (y.val G) (.type "bool")=Z b:=λy b h=>by
 cases y with
 |c k=>cases h
 |b n=>
  unfold wL at h;simp only at h
  iterate 7 (split at h;· rename_i e;subst e;cases h;first|rfl|kernel_rfl)
  cases h
def ω:∀y b,wL "tuple" y=Z b->di X.K (y.val G) (.type "tuple")=Z b:=λy b h=>by
 cases y with
 |c k=>cases h
 |b n=>
  unfold wL at h;simp only at h
  iterate 7 (split at h;· rename_i e;subst e;cases h;first|rfl|kernel_rfl)
  cases h
end
end L4
namespace L4
open PySem PySem.Spec PySem.Calls PyProof.Rows PySem.W L2 L3
def Rp{b:Type}(c:Nat->Nat->Bool):KasT b->b
 |.ret a=>a
 |.ask i j k=>Rp c (k (c i j))
def zu{c:Type}(P:Nat->Nat->Prop)(R:c->Prop):KasT c->Prop
 |.ret a=>R a
 |.ask i j k=>P i j/\∀b,zu P R (k b)
theorem zu.run{b:Type}{P:Nat->Nat->Prop}{R:b->Prop}(c:Nat->Nat->Bool):∀(t:KasT b),zu P R t->R (Rp c t)
 |.ret a,h=>h
 |.ask i j k,h=>zu.run c (k (c i j)) (h.2 (c i j))
theorem zu.bind{c e:Type}{P:Nat->Nat->Prop}{R:c->Prop}{S:e->Prop}{f:c->KasT e}(d:∀a,R a->zu P S (f a)):∀{t:KasT c},zu P R t->zu P S (t.bind f)
 |.ret a,h=>d a h
 |.ask i j k,h=>⟨h.1,λb=>zu.bind d (h.2 b)⟩
theorem PH{b:Type}{cmp:Nat->Nat->(Bool->ae->Prop)->ae->Prop}{c:Nat->Nat->Bool}{P:Nat->Nat->Prop}{s:ae}{Q:b->ae->Prop}(d:∀i j C,P i j->C (c i j) s->cmp i j C s):
  ∀{R:b->Prop} {t:KasT b},zu P R t->Q (Rp c t) s->t.kasWp cmp Q s
 |R,.ret a,_,q=>q
 |R,.ask i j k,h,q=>d i j _ h.1 (PH d (h.2 (c i j)) q)
def xX(n:Nat)(p:Array Nat):Prop:=p.toList.Perm (aU n)
theorem xX.getD(h:xX n p)(a:0<n)(i:Nat):p.getD i 0<n:=by
 unfold Array.getD;split
 .rename_i b;have:p[i]∈p.toList:=by simp
  exact bL.1 (h.mem_iff.1 this)
 .exact a
def xX.rev(h:xX n p)(i j:Nat):xX n (kas_rev p i j):=by unfold xX kas_rev mirror;exact(n8.1 (foldl_swaps_perm _ _ _ _)).t h
def xX.bub(h:xX n p)(i j:Nat):xX n (bubble p i j):=(n8.1 (bubble_perm _ _ _)).t h
abbrev In2(n:Nat):Nat->Nat->Prop:=λi j=>i<n/\j<n
theorem LO(a:0<n)(h:xX n p):∀f k,zu (In2 n) (λ_=>True) (kas_asc p f k)
 |0,k=>trivial
 |f+1,k=>⟨⟨h.getD a _,h.getD a _⟩,λb=>by cases b<;>first|exact trivial|exact LO a h f (k+1)⟩
theorem Fe(a:0<n):∀f (p:Array Nat) k q,xX n p->zu (In2 n) (λr=>xX n r.1) (kas_desc f p k q)
 |0,p,k,q,h=>h
 |f+1,p,k,q,h=>⟨⟨h.getD a _,h.getD a _⟩,λb=>by
   cases b with
   |true=>
    show zu _ _ (if q > 0 then _ else _);split
    .exact Fe a f _ _ _ (h.rev _ _)
    .exact Fe a f _ _ _ h
   |false=>
    refine⟨⟨h.getD a _,h.getD a _⟩,λd=>?_⟩;cases d with
    |true=>exact h
    |false=>exact Fe a f _ _ _ h⟩
def Nk(b:0<n)(h:xX n p)(k m:Nat):zu (In2 n) (λr=>xX n r.2) (kas_tail3 k m p):=
 zu.bind (P:=In2 n) (R:=λ_=>True) (S:=λ(r:Nat×Array Nat)=>xX n r.2) (f:=λm=>.ret (m,kas_rev p 0 k)) (λa _=>h.rev 0 k) (LO b (h.rev 0 k) _ _)
def Fg(a:0<n)(h:xX n p)(k m:Nat):zu (In2 n) (λr=>xX n r.2) (kas_descPart k m p):=
 zu.bind (λr b=>by
  show zu _ _ (if r.2.2 > 0 then _ else _);split
  .exact Nk a (b.rev _ _) _ _
  .exact Nk a b _ _) (Fe a _ p _ _ h)
def Rq(a:0<n)(h:xX n p)(m:Nat):zu (In2 n) (λr=>xX n r.2) (kas_count m p):=
 zu.bind (λk _=>by
  show zu _ _ (if (k==m)=γ then _ else _);split
  .exact h
  .split
   .refine⟨⟨h.getD a _,h.getD a _⟩,λb=>?_⟩;cases b with
    |true=>exact h
    |false=>exact Fg a (h.rev _ _) _ _
   .exact Fg a h _ _) (LO a h _ _)
theorem Ge(a:0<n)(h:xX n p)(k:Nat):∀f l r,zu (In2 n) (λ_=>True) (kas_place p k f l r)
 |0,l,r=>trivial
 |f+1,l,r=>by
  unfold kas_place;split
  .trivial
  .refine⟨⟨h.getD a _,h.getD a _⟩,λb=>?_⟩;cases b with
   |true=>exact Ge a h k f _ _
   |false=>exact Ge a h k f _ _
theorem PJ(a:0<n):∀f (p:Array Nat) k,xX n p->zu (In2 n) (xX n) (kas_bin f p k)
 |0,p,k,h=>h
 |f+1,p,k,h=>zu.bind (λl _=>PJ a f _ _ (h.bub _ _)) (Ge a h k _ _ _)
def IZ(a:0<n):zu (In2 n) (xX n) (jZ n):=
 zu.bind (λr b=>by
  show zu _ _ (if r.1<n then _ else _);split
  .exact PJ a _ _ _ b
  .exact b) (Rq a (p:=List.toArray (aU n)) (by unfold xX;exact List.Perm.refl _) n)
def DQ(a:Addr)(h c:Heap):Prop:=∀b o,b≠a->h.get? b=Z o->c.get? b=Z o
section
variable{prog:aH}{w:az}{A:aI}{E:ab->ae->Prop}{s:ae}
def Gf(c:Nat->Nat->Bool)(a:List ab):List ab:=(Rp c (jZ a.length)).toList.map λi=>a.getD i Value.none
def TY(c:Nat->Nat->Bool)(a:List ab)(h:0<a.length):(Gf c a).length=a.length:=by unfold Gf;rw[ah];have:=(IZ h).run c _;rw[this.length_eq,cH]
def TZ(c:Nat->Nat->Bool)(v:ab):Gf c [v]=[v]:=rfl
def T2{vs:List ab}(u:s.heap.get? a=Z (seqObj "list" vs.toArray n))(B:0<vs.length)(F:vs.length<64)
  (W:∀(h':Heap) (C:SortKind->ae->Prop),DQ a s.heap h'->C S { s with heap:=h' }->ai (model prog w) A (keyKind' vs.toArray) C (λ_ _=>False) { s with heap:=h' })
  (U:∀(h':Heap) (i j:Nat) (C:Bool->ae->Prop),DQ a s.heap h'->i<vs.length/\j<vs.length->C (c i j) { s with heap:=h' }->j1 prog w A S vs i j C { s with heap:=h' })
  (h:∀h' e,DQ a s.heap h'->h'.get? a=Z (seqObj "list" (Gf c vs).toArray e)->P (.done (.ret .none)) { s with heap:=h' }):
  ai (model prog w) A (dJ.«list.sort» ⟨[.ref a],[]⟩) P E s:=by
 have ha:a<s.heap.objs.size:=aR u;obtain⟨z,R⟩:∃z,(s.heap.update a (cN λ_=>(#[]:Array ab))).get? a=Z (seqObj "list" #[] z):=⟨_,qd u λ_=>#[]⟩;generalize hw:((s.heap.update a (cN λ_=>(#[]:Array ab))).push (seqObj "tuple" vs.toArray 0)).push (seqObj "list" #[] 0)=d;have M:DQ a s.heap d:=λb o hb q=>by rw[<-hw];exact aK _ (aK _ ((gA s.heap _ (dj hb)).t q))
 have t:d.get? a=Z (seqObj "list" #[] z):=by rw[<-hw];exact aK _ (aK _ R)
 rw[list_sort_plain];refine af (listItems_at u O (af (mj u O ?_ (by rw[bg,bS];omega) (cq _))));refine af (mR R O (af (qu ?_ (by show vs.length<=_;rw[bS];omega))));refine af (ml (bP ?_) (cq _));show ai (model prog w) A _ P E { s with heap:=((s.heap.update a (cN λ_=>(#[]:Array ab))).push (seqObj "tuple" vs.toArray 0)).push (seqObj "list" #[] 0) };rw[hw];dsimp only;obtain⟨c2,I⟩:∃c2,(d.update a (cN λ_=>(Gf c vs).toArray)).get? a=Z (seqObj "list" (Gf c vs).toArray c2):=⟨_,qd t λ_=>(Gf c vs).toArray⟩;have fin:=h _ c2 (λb o hb q=>(gA d _ (dj hb)).t (M b o hb q)) I;have szo:(Gf c vs).toArray.size<=aG+1:=by rw[bg,TY c vs B,bS];omega
 by_cases N:2<=vs.length
 .have m:¬vs.toArray.size<2:=by rw[bg];omega
  rw[ao m,ao m];refine af (b9 (W d (λk l=>k=S/\l={ s with heap:=d }) M ⟨O,O⟩) ?_ λ_ _ x=>x.elim);rintro k l ⟨rfl,rfl⟩;refine af (b9 (kat_run (Q:=λf l=>l={ s with heap:=d }/\(arrOf f).map (·.2)=(Gf c vs).toArray/\failedOf f=J) (G:=λp l=>p=Rp c (jZ vs.length)/\l={ s with heap:=d }) O N F ?_ ?_) ?_ λ_ _ e=>e)
  .rintro p f l _ har hf ⟨rfl,rfl⟩;exact⟨O,kat_snds O har,hf⟩
  .exact PH (P:=In2 vs.length) (λi j C q r=>U d i j C M q r) (IZ B) ⟨O,O⟩
  .rintro⟨⟨⟩,f⟩ l ⟨rfl,H,hf⟩;dsimp only;refine af (mR t O ?_);rw[H,hf];refine af (mj t O ?_ (cq _) szo);simp only[bne_self_eq_false,eG,if_false];exact ar fin
 .obtain⟨v,rfl⟩:∃v,vs=[v]:=by
   cases vs with
   |nil=>cases B
   |cons v r=>
    cases r with
    |nil=>exact⟨v,O⟩
    |cons x y=>exact aq (by simp) N
  refine af (ar ?_);refine af (ar ?_);refine af (mR t O ?_);have T:rA (λx=>x.snd) (arrOf ((),SortSt.mk' general' (#[v].zip #[v]) #[] 7 J).snd)=(Gf c [v]).toArray:=by rw[TZ];show rA (λx=>x.snd) (#[v].zip #[v])=#[v];simp
  rw[T];refine af (mj t O ?_ (cq _) szo);simp only[bne_self_eq_false,eG,if_false];exact ar fin
def OA{vs:List ab}(hT:T="list" \/ T="tuple")(x:s.heap.get? l=Z o)(hcl:o.cls=.type T)(hd:o.data=.seq vs.toArray n)(p:0<vs.length)(f:vs.length<64)
  (u:∀(h':Heap) (C:SortKind->ae->Prop),(∀b o,s.heap.get? b=Z o->h'.get? b=Z o)->C κ { s with heap:=h' }->ai (model prog w) A.in1.in1 (keyKind' vs.toArray) C (λ_ _=>False) { s with heap:=h' })
  (t:∀(h':Heap) (i j:Nat) (C:Bool->ae->Prop),(∀b o,s.heap.get? b=Z o->h'.get? b=Z o)->i<vs.length/\j<vs.length->C (c i j) { s with heap:=h' }->j1 prog w A.in1.in1 κ vs i j C { s with heap:=h' })
  (h:∀(g h':Heap) e,(∀b o,s.heap.get? b=Z o->g.get? b=Z o)->(∀b o,g.get? b=Z o->h'.get? b=Z o)->h'.get? g.objs.size=Z (seqObj "list" (Gf c vs).toArray e)->Q (.ref g.objs.size) { s with heap:=h' }):
  ai (model prog w) A (call (.builtin "sorted") [.ref l]) Q E s:=by
 refine oa kind_sorted plain_sorted entry_sorted (args_sorted1 _) ?_;unfold dJ.«sorted»;refine af (m:=checkCount "sorted" 1 1 _) (ar (af (wpAny_collect_seq l hT x hcl hd (λg d=>?_) (by rw[bS];simp;omega))));refine af (ml ?_ (by rw[bS];simp;omega));show ai _ _ _ _ _ { s with heap:=g.push (seqObj "list" vs.toArray 0) };have on:(g.push (seqObj "list" vs.toArray 0)).get? g.objs.size=Z (seqObj "list" vs.toArray 0):=br _ O;have all:∀h',DQ g.objs.size (g.push (seqObj "list" vs.toArray 0)) h'->∀b o,g.get? b=Z o->h'.get? b=Z o:=λh' a b o q=>a b o (bc (aR q)) (aK _ q)
 show ai _ _ (do let _<-holding [Value.ref g.objs.size] _;_) _ _ _;refine af (bP (fW qv ⟨_,on,O⟩ qe ?_ (qw _)));refine T2 (s:={ s with heap:=g.push (seqObj "list" vs.toArray 0) }) on p f (λh' C a q=>u h' C (λb o z=>all h' a b o (d b o z)) q) (λh' i j C a q r=>t h' i j C (λb o z=>all h' a b o (d b o z)) q r) λh' e a q=>?_;exact⟨_,O,ar ⟨_,O,h g h' e d (all h' a) q⟩⟩
end
def ltS(a b:Str):Bool:=decide (a.cps.toList<b.cps.toList)
def J9:aF->aF->Bool
 |[],[]=>δ
 |[],_::_=>γ
 |_::_,[]=>δ
 |x::a,y::b=>if x=y then J9 a b else ltS x y
inductive AV:List ab->aF->Prop
 |nil:AV [] []
 |cons (x:Str) (t:Tok) {vs:List ab} {xs:aF} (h:AV vs xs):AV (.str x t::vs) (x::xs)
def OB(c:Nat->Nat->Bool)(n:Nat):List Nat:=(Rp c (jZ n)).toList
def Gg(c:Nat->Nat->Bool)(h:0<n):(OB c n).Perm (aU n):=(IZ h).run c _
def LP(c:Nat->Nat->Bool)(h:0<n):∀i∈OB c n,i<n:=λi a=>bL.1 ((Gg c h).mem_iff.1 a)
theorem KI(r:ef a c):∀(is:List Nat),(∀i∈is,i<a.length)->ef (is.map λi=>a.getD i V.E) (is.map λi=>c.getD i Value.none)
 |[],_=>.nil
 |i::is,h=>by have b:=h i (.head _);obtain⟨u,e,f⟩:=r.get (bh b);refine .cons ?_ (KI r is λj d=>h j (.tail _ d));show et (a.getD i V.E) (c.getD i Value.none);rw[cX,cX,e,bh b];exact f
section
variable{X:Cx}{G:Bg}{pins:cD}{σ:St}{H:Hp}{s:ae}
def seq_val(I:c3 X pins σ H s)(c:gd X.K H a h\/ij X.K H a h):∃b,ef h b/\∃T o n,(T="list" \/ T="tuple")/\s.heap.get? a=Z o/\o.cls=.type T/\o.data=.seq b.toArray n:=by
 rcases c with c|c
 .obtain⟨b,f,pl,_⟩:=I.list c;obtain⟨o,a1,d,n,e⟩:=pl.isList;exact⟨b,f,_,o,n,.inl O,a1,d,e⟩
 .obtain⟨b,f,⟨o,a1,d,n,e⟩,_⟩:=I.tuple c;exact⟨b,f,_,o,n,.inr O,a1,d,e⟩
def G1:bp->Option aF
 |[]=>Z []
 |.str x::a=>match G1 a with
  |some b=>Z (x::b)
  |none=>J
 |_=>J
theorem I0:∀{a:bp} {b:bN} {l:aF},uQ G H a b->G1 a=Z l->b=l.map V.str
 |[],b,l,r,e=>by cases e;unfold uQ at r;exact r
 |d::a,b,l,r,e=>by
  cases d with
  |str x=>
   unfold G1 at e;cases c:G1 a with
   |none=>rw[c]at e;cases e
   |some i=>rw[c]at e;cases e;unfold uQ at r;obtain⟨v,j,rfl,f,h⟩:=r;unfold cb at f;subst f;rw[I0 h c,aJ]
  |_=>cases e
theorem KJ(r:uQ G H a c):∀(is:List Nat),(∀i∈is,i<a.length)->uQ G H (is.map λi=>a.getD i .E) (is.map λi=>c.getD i V.E)
 |[],_=>vM
 |i::is,h=>by have b:=h i (.head _);obtain⟨v,e,f⟩:=zF r (bh b);refine vR ?_ (KJ r is λj d=>h j (.tail _ d));show cb G H (a.getD i .E) (c.getD i V.E);rw[cX,cX,e,bh b];exact f
end
end L4
namespace L4
open PySem PySem.Spec PyProof.Rows L2 L3
section
variable{X:Cx}{G:Bg}
def W3:mn G (λx y H Q=>∃z n,x=.str z/\y=.int n/\MulOk z n/\Q (.str (m8 z n)) H) KE:=λx y z o H v u Q e s d f k=>by
 unfold KE at e;split at e
 .rename_i a n;split at e
  .rename_i m;obtain⟨p,r,h⟩:=m;cases e;unfold cb at d f;refine⟨a,n,d,f,⟨?_,λi j l=>?_,λi j=>?_⟩,k _ λ_ _=>zB _⟩
   .rw[kR];exact⟨aX (by omega),aX (by omega)⟩
   .have c:(0:Int)<n:=by omega
    have q:(9223372036854775807:Int) / n >= 9223372036854775:=by have:=Int.le_ediv_of_mul_le (a:=9223372036854775) (b:=9223372036854775807) c (by omega);exact this
    have:((2:Int) ^ 63 - 1)=9223372036854775807:=by decide
    rw[this]at l;omega
   .have c:n.toNat<=1000:=by omega
    have:a.length * n.toNat<=100 * 1000:=Nat.mul_le_mul h c;refine aX ?_;rw[bS];omega
  .cases e
 .cases e
end
def PK:List String:=["NoneType", "bool", "int", "str", "tuple", "list", "dict"]
def za(n c:Nat):Ty->Option Bool:=λy=>match y with
 |.b x=>if PK.contains x=γ then Z δ else J
 |.c k=>if k<n then Z (k==c)else J
def xl(K:av)(cs:List Addr)(C:Addr)(c:Nat):Bool:=
 PK.all (λx=>di K (.type x) (.ref C)==Z δ)&&(aU cs.length).all λk=>di K (.ref (cs.getD k 0)) (.ref C)==Z (k==c)
def wC{B:Bg}(h:xl B.K cs (B.ca c) c=γ)(i:cs.length=n)(d:∀k,k<n->cs.getD k 0=B.ca k)(hI:∀k,k<n->M7 B.K (B.ca k)):IW B c (za n c):=by
 unfold xl at h;rw[aW,aS,aS]at h;refine⟨λy b e=>?_,λj b e=>?_⟩
 .cases y with
  |b x=>
   unfold za at e;simp only at e;split at e
   .rename_i f;cases e;exact gm (h.1 x (kN.1 f))
   .cases e
  |c k=>
   unfold za at e;simp only at e;split at e
   .rename_i a;cases e;have:=gm (h.2 k (bL.2 (by omega)));rw[d k a]at this;exact this
   .cases e
 .unfold za at e;simp only at e;split at e
  .rename_i a;exact hI j a
  .cases e
def aad{l:List Addr}(h:l.Nodup)(a:j<l.length)(b:k<l.length)(e:l.getD j 0=l.getD k 0):j=k:=by
 rw[cX,cX,bh a,bh b]at e;have c:=List.pairwise_iff_getElem.1 h;rcases Nat.lt_trichotomy j k with y|y|y
 .exact aq e (c j k a b y)
 .exact y
 .exact aq e.symm (c k j b a y)
section
variable{B:Bg}{K:av}{mg:Str->Option ab}{h:Heap}
def const_int(X:K.In h)(a:h.Ns bf mg)(e:i7 K bf x=Z (Z (.int i t))):AY B mg x (.int i):=
 ⟨.int i,_,i6 X a e,⟨_,O⟩,λ_=>xt _⟩
inductive B7:List ab->aF->Prop
 |nil:B7 [] []
 |cons {v:ab} {x:Str} {t:Tok} {vs:List ab} {xs:aF} (e:v=.str x t) (h:B7 vs xs):B7 (v::vs) (x::xs)
def B7.vals(h:B7 b c):ef (c.map V.str) b:=by
 induction h with
 |nil=>exact .nil
 |cons e h a=>exact .cons ⟨_,e⟩ a
theorem Ja:∀a:aF,uQ B H (a.map D.str) (a.map V.str)
 |[]=>vM
 |x::a=>vR (zB x) (Ja a)
def OC(c:aF)(X:B.K.In h)(d:h.Ns bf mg)(e:i7 B.K bf x=Z (Z (.ref a)))(l:B.K.lookup a=Z o)(f:o.cls=.type "tuple")(hd:o.data=.seq b n)(i:b.size<=1000)
  (r:B7 b.toList c):AY B mg x (.du (c.map D.str)):=
 ⟨.ref a,_,i6 X d e,O,λH=>EV (.inr ⟨o,b,n,l,f,hd,by rw[bS];omega,r.vals⟩) (Ja c)⟩
end
section
variable{f g' h:FS}{c:FT}{e e' e2:FE}{a a':FA}{ρ ρ' ρ1 ρ2 ρ3:aQ}{d x y z:D}{ds xs ys:bp}{k:Nat}{ey:List Nat}{g:FG}{ft:FT}{fe:FE}
theorem Jb{i:Type}(j:i->D)(p:i->Bool)(h:i->D):∀l:List i,
  (∀a∈l,∃ρ1 ρ2,g (j a) (E2 k ey ρ)=Z ρ1/\ft ρ1=Z (p a,ρ2)/\(p a=γ->∃ρ3,fe ρ2=Z (h a,ρ3)/\yz ey (ρ3.drop k) ρ=Z ρ)/\(p a=δ->yz ey (ρ2.drop k) ρ=Z ρ))->
  Ao k ey g ft fe (l.map j) ρ=Z ((l.filter p).map h,ρ)
 |[],_=>rfl
 |a::l,st=>by
  obtain⟨ρ1,ρ2,o,q,r,t⟩:=st a bb;have m:=Jb j p h l λa' A=>st a' (ba _ A);rw[aJ];unfold Ao;rw[o];simp only[q];cases b:p a with
  |true=>obtain⟨ρ3,u,w⟩:=r b;simp only[u,w,m,gL,b,if_true,aJ]
  |false=>simp only[t b,m,gL,b];rfl
def W4{i:Type}(b:i->D)(h:i->D)(l:List i)(st:∀a∈l,∃ρ1 ρ3,g (b a) (E2 k ey ρ)=Z ρ1/\fe ρ1=Z (h a,ρ3)/\yz ey (ρ3.drop k) ρ=Z ρ):Ao k ey g vN fe (l.map b) ρ=Z (l.map h,ρ):=by have:=Jb (ft:=vN) b (λ_=>γ) h l λa p=>let ⟨ρ1,ρ3,j,m,o⟩:=st a p;⟨ρ1,ρ1,j,O,λ_=>⟨ρ3,m,o⟩,λz=>by cases z⟩;rw[this,oY.2 λ_ _=>O]
def xx(neg:Bool)(a b:Str):e? neg (.str a) (.str b)=Z (.I (if neg then !decide (a=b)else decide (a=b))):=by
 have e:J7 neg (.str a) (.str b)=Z (.I (if neg then !decide (V.str a=V.str b)else decide (V.str a=V.str b))):=rfl;have e2:decide (V.str a=V.str b)=decide (a=b):=by
  by_cases h:a=b
  .subst h;simp
  .rw[aX h,aX (λz=>h (by injection z))]
 unfold e?;rw[e,e2]
def T4(a:Str)(l:aF):inV (V.str a) (l.map V.str)=decide (a∈l):=by
 unfold inV;rw[dg,fD,bQ];constructor
 .rintro⟨v,o,i⟩;obtain⟨b,m,rfl⟩:=au.1 o;have:b=a:=by unfold eqV at i;simpa using i
  rw[<-this];exact m
 .intro j;refine⟨.str a,cG j,?_⟩;unfold eqV;simp
def Rr(l:aF):(l.map D.str).all yb=γ:=by rw[qN,aS];intro x _;rfl
def W5(l:aF):(l.map D.str).map vD=l.map V.str:=by rw[aZ];rfl
def xC(neg:Bool)(a:Str)(l:aF):n6 neg (.str a) (.bt (l.map D.str))=Z (.I (if neg then !decide (a∈l)else decide (a∈l))):=by unfold n6;show (if yb (.str a)&&(l.map D.str).all yb then Z (D.I (if neg then !inV (vD (.str a)) ((l.map D.str).map vD)else inV (vD (.str a)) ((l.map D.str).map vD)))else J)=_;rw[Rr,W5];show Z (D.I (if neg then !inV (V.str a) (l.map V.str)else inV (V.str a) (l.map V.str)))=_;rw[T4]
def T5(neg:Bool)(a:Str)(l:aF):n6 neg (.str a) (.du (l.map D.str))=Z (.I (if neg then !decide (a∈l)else decide (a∈l))):=xC neg a l
theorem LQ:∀bs:List Bool,J8 (bs.map D.I)=Z bs
 |[]=>rfl
 |b::bs=>by rw[aJ];unfold J8;rw[LQ bs];rfl
def T6(bs:List Bool):zR (.bt (bs.map D.I))=Z (.I (bs.all id)):=by unfold zR;simp only[LQ];rfl
def T7(bs:List Bool):HU (.bt (bs.map D.I))=Z (.I (bs.any id)):=by unfold HU;simp only[LQ];rfl
def W6{b:Type}(l:List b)(p:b->Bool):zR (.bt (l.map λa=>D.I (p a)))=Z (.I (l.all p)):=by rw[show (l.map λa=>D.I (p a))=(l.map p).map D.I by rw[aZ];rfl,T6,qN];rfl
def PM{b:Type}(l:List b)(p:b->Bool):HU (.bt (l.map λa=>D.I (p a)))=Z (.I (l.any p)):=by rw[show (l.map λa=>D.I (p a))=(l.map p).map D.I by rw[aZ];rfl,T7,List.any_map];rfl
theorem Jc:∀l:aF,GW (l.map D.str)=Z (l.map Sum.inr)
 |[]=>rfl
 |x::l=>by rw[aJ];unfold GW;rw[Jc l];rfl
theorem T8:∀(l acc:List fc),(acc++l).Nodup->l.foldl ddp acc=acc++l
 |[],acc,_=>by rw[bR];rfl
 |k::l,acc,h=>by
  have i:acc.any (λz=>decide (z=k))=δ:=by rw[lu];intro z;obtain⟨y,j,b⟩:=fD.1 z;rw[cp]at h;exact h.2.2 y j k bb (bB b)
  rw[iK,show ddp acc k=acc++[k] by unfold ddp;rw[i];rfl,T8 l (acc++[k]) (by simpa using h)];simp
def DT{l:aF}(h:l.Nodup):(l.map (Sum.inr:Str->fc)).Nodup:=by unfold List.Nodup at h ⊢;rw[jG];exact h.imp λhne z=>hne (jR z)
def Nl{l:aF}(h:l.Nodup)(b:l.length<=1000):xW (l.map D.str)=Z (.int l.length):=by unfold xW;rw[Jc];simp only[ah,b,if_true];unfold AS;rw[T8 _ [] (by simpa using DT h)];simp
def yE(neg:Bool)(a b:Int):e? neg (.int a) (.int b)=Z (.I (if neg then !decide (a=b)else decide (a=b))):=by
 have e:J7 neg (.int a) (.int b)=Z (.I (if neg then !decide (V.int a=V.int b)else decide (V.int a=V.int b))):=rfl;have e2:decide (V.int a=V.int b)=decide (a=b):=by
  by_cases h:a=b
  .subst h;simp
  .rw[aX h,aX (λz=>h (by injection z))]
 unfold e?;rw[e,e2]
def vm(b:e ρ=Z (.I γ,ρ1)):v7 e e' ρ=e' ρ1:=by unfold v7;rw[b]
def vz{g:Nat->Option (bp->Option D)}{m:Str}{c:Nat}{ns:aF}{hh:bp->Option D}(b:e ρ=Z (.obj c ns xs,ρ1))(i:g c=Z hh)(j:ns.contains m=δ)(l:a ρ1=Z (ys,ρ2))(o:hh (.obj c ns xs::ys)=Z d):vh g m e a ρ=Z (d,ρ2):=by unfold vh;rw[b];simp only[i,j,l,o];rfl
def xy{c:Nat}{g:bp->Option (aF×bp)}{ns:aF}(b:a ρ=Z (ds,ρ1))(i:g ds=Z (ns,xs)):vE c g a ρ=Z (.obj c ns xs,ρ1):=by unfold vE;rw[b];simp only[i]
def Bh(i:ds.length=j)(h:b (L4.Hs n ds)=Z (.nx ρ)):fb j n b ds=Z .E:=by unfold fb;rw[ak i,h]
def Gh(i:ds.length=j)(h:b (L4.Hs n ds)=Z (.X xs ρ)):fb j n b ds=Z (.bt xs):=by unfold fb;rw[ak i,h]
theorem Di:∀{b:List fc} {ds:bp} {k:fc} {d:D},b.Nodup->(k,d)∈b.zip ds->xk b ds k=Z d
 |[],_,k,d,_,h=>by simp at h
 |j::b,[],k,d,_,h=>by simp at h
 |j::b,l::ds,k,d,i,h=>by
  unfold xk;rw[fm]at h;rcases aL.1 h with e|h
  .cases e;rw[ak O]
  .rw[dB]at i;rw[ao (λz=>i.1 (by subst z;exact(jK h).1))];exact Di i.2 h
end
end L4
namespace L4
open PySem PySem.Spec PyProof.Rows L2 L3
open PySem.W (nsIn findIn keepIn isFn makesIn fnOf)
def OD{b:Type}:Nat->(List b->Prop)->Prop
 |0,P=>P []
 |n+1,P=>∀a,OD n λl=>P (a::l)
theorem Ig{b:Type}:∀{n:Nat} {P:List b->Prop},OD n P->∀l,l.length=n->P l
 |0,P,h,[],_=>h
 |n+1,P,h,a::l,e=>Ig (P:=λl=>P (a::l)) (h a) l (iU e)
structure CF(K:av)(C:Addr)(xs:aF):Prop where
 ci:M7 K C
 mks:makesIn K C=γ
 kp:keepIn K (.ref C)=γ
 na:(xs.all λx=>match findIn K (.ref C) x with|some J=>γ|_=>δ)=γ
theorem CF.at{K:av}(c:CF K C xs)(i:Nat)(h:xs[i]?=Z x):W1 K C/\An K C x:=⟨c.ci.cl,by
 have e:=aS.1 c.na x (cn h);unfold An;split at e
 .rename_i a;exact a
 .cases e⟩
def yh{Q:Nat->Prop}{i:Nat}(h:Q i):∀c,(c==i)=γ->Q c:=λc e=>by rw[beq_iff_eq]at e;subst e;exact h
def orQ{Q:Nat->Prop}{p:Nat->Bool}{i:Nat}(h:∀c,p c=γ->Q c)(a:Q i):∀c,(p c||c==i)=γ->Q c:=λc e=>by
 rw[jL]at e;rcases e with e|e
 .exact h c e
 .exact yh a c e
structure Yw(P:aH)(w:az)(mg:Str->Option ab)(b?:Heap)(G:Bg):Prop where
 m:∃h:Heap,G.K.In h/\h.Ns bf mg
section
variable{P:aH}{w:az}{mg:Str->Option ab}{b?:Heap}{G:Bg}{x m qual:Str}{st:Stmt}{N ps:aF}{k c:Nat}{K:av}
def Yw.g(y:Yw P w mg b? G)(e:nsIn G.K bf x=Z (Z v)):mg x=Z v:=by obtain⟨h,X,a⟩:=y.m;exact i6 X a e
def Yw.n(y:Yw P w mg b? G){xs:aF}(h:(xs.all λx=>match nsIn G.K bf x with|some J=>γ|_=>δ)=γ)(i:Nat)(d:xs[i]?=Z x):mg x=J:=by
 obtain⟨f,X,a⟩:=y.m;have e:=aS.1 h x (cn d);split at e
 .rename_i b;exact W.mg_none_of X a b
 .cases e
def GC(K:av)(x:Str)(i:Int):Prop:=∃t:Tok,nsIn K bf x=Z (Z (.int i t))
def Yw.ci(y:Yw P w mg b? G)(q:GC G.K x i):AY G mg x (.int i):=by obtain⟨h,X,a⟩:=y.m;obtain⟨t,e⟩:=q;exact const_int X a e
def GS(K:av)(x:Str)(d:aF):Prop:=∃(a:Addr) (o:Obj) (b:Array ab) (n:Nat),nsIn K bf x=Z (Z (.ref a))/\K.lookup a=Z o/\o.cls=.type "tuple" /\ o.data=.seq b n/\b.size<=1000/\B7 b.toList d
def Yw.cs(y:Yw P w mg b? G)(q:GS G.K x b):AY G mg x (.du (b.map D.str)):=by obtain⟨h,X,d⟩:=y.m;obtain⟨a,o,r,n,e,l,f,i,j,p⟩:=q;exact OC b X d e l f i j p
def GD(K:av)(x:Str)(st:Stmt):Prop:=∃(f:Addr) (a:bV),nsIn K bf x=Z (Z (.ref f))/\Fun K x x st f a
def GM(K:av)(C:Addr)(m qual:Str)(st:Stmt):Prop:=∃(f:Addr) (a:bV),findIn K (.ref C) m=Z (Z (.ref f))/\isFn K (.ref f)=γ/\Fun K m qual st f a
def GJ(K:av)(C:Addr)(qual:Str)(st:Stmt)(b:bN):Prop:=∃(f:Addr) (a:bV) (T:Addr) (o:Obj) (dl:List ab) (n:Nat),findIn K (.ref C) "__init__" = Z (Z (.ref f))/\isFn K (.ref f)=γ/\QV K "__init__" qual st f a T/\K.lookup T=Z o/\o.data=.seq dl.toArray n/\ef b dl
abbrev Bdy(P:aH)(w:az)(K:av)(mg:Str->Option ab)(b?:Heap)(N:aF)(qual:Str)(st:Stmt)(k:Nat)(t:TS):Prop:=∀(f:Addr) (cdv:ab) (A:aI) (da:List Env) (s:ae) (H:Hp) (E:XK),xA k (A.deeper (envOfC qual (vt st) s.heap.objs.size f cdv))->p5 (GT P w K mg b? N qual st f cdv A da s H E) (vV st) t
abbrev θ(x qual:Str)(st:Stmt)(ps:aF):Prop:=OD ps.length λa=>∀(kV doc e:ab) (b:Option Addr) (cdv d:ab),bindArgs (fnOf x qual (y4 st) (vV st) (vt st) .none kV doc e b cdv d) ⟨a,[]⟩=pure (ps.zip a)
theorem θ.ok(b:θ x qual st ps)(F:Fun K x qual st f e):l? K e ps []:=F.tp λkV doc i a cdv d j h=>Ig b j h kV doc i a cdv d
theorem gD(y:Yw P w mg b? G)(q:GD G.K x st)(d:θ x x st ps)(ok:∀f b,Fun G.K x x st f b->zm P w G.K mg b? H? k f b ps e):D9 P w G.K mg b? k x ps e:=by obtain⟨f,b,a,F⟩:=q;exact⟨f,b,y.g a,F.kp,d.ok F,ok f b F⟩
def gF(d:g=fb h n b)(y:Yw P w mg b? G)(q:GD G.K x st)(S:xJ N ps (vt st))(body:Bdy P w G.K mg b? N x st k (mq G b))(e:ps.length=h:=by rfl)(hN:N.length=n:=by rfl)(a:θ x x st ps:=by (repeat intro _);rfl):D9 P w G.K mg b? (k+1) x ps (fu G g):=
 gD y q a λf i F=>Te d e hN F S (body f)
def gN'(d:g=yq h n b)(y:Yw P w mg b? G)(q:GD G.K x st)(S:xJ N ps (vt st))(body:Bdy P w G.K mg b? N x st k (mq G b))(e:ps.length=h:=by rfl)(hN:N.length=n:=by rfl)(a:θ x x st ps:=by (repeat intro _);rfl):D9 P w G.K mg b? (k+1) x ps (ub G g):=
 gD y q a λf i F=>ac7 d e hN F S (body f)
def gM(d:g=t? h n b)(y:Yw P w mg b? G)(q:GD G.K x st)(S:xJ N (p::ps) (vt st))(body:Bdy P w G.K mg b? N x st k (mq G b))(e:ps.length=h:=by rfl)(hN:N.length=n:=by rfl)(a:θ x x st (p::ps):=by (repeat intro _);rfl):D9 P w G.K mg b? (k+1) x (p::ps) (u7 G g):=
 gD y q a λf i F=>ac8 d e hN F S (body f)
def gI(h:g=v? c o n b)(y:Yw P w mg b? G)(C:CF G.K (G.ca c) r)(a:nsIn G.K bf x=Z (Z (.ref (G.ca c))))(q:GM G.K (G.ca c) "__init__" qual st)(S:xJ N (p::ps) (vt st))(body:Bdy P w G.K mg b? N qual st k (mq G b))(j:ps.length=o:=by rfl)(hN:N.length=n:=by rfl)(d:θ "__init__" qual st (p::ps):=by (repeat intro _);rfl):LM G P w mg b? (k+1) x c (p::ps) [] g:=by obtain⟨f,e,i,l,F⟩:=q;exact⟨f,e,[],⟨C.mks,i,l,C.kp⟩,y.g a,d.ok F,.nil,ac9 h j hN F S (body f)⟩
def Np(h:ef d b):b.length=d.length:=by
 induction h with
 |nil=>rfl
 |cons _ _ a=>rw[aN,aN,a]
def Rt(h:ef f e):∀j,ef (f.drop j) (e.drop j):=by
 induction h with
 |nil=>intro j;rw[qH,qH];exact .nil
 |cons a b d=>
  intro j;cases j with
  |zero=>exact .cons a b
  |succ j=>exact d j
theorem gJ(E:g=v? c Q n b)(y:Yw P w mg b? G)(C:CF G.K (G.ca c) R)(a:nsIn G.K bf x=Z (Z (.ref (G.ca c))))(q:GJ G.K (G.ca c) qual st z)(S:xJ N (p::ps) (vt st))(body:Bdy P w G.K mg b? N qual st k (mq G b))(j:Nat)(I:ps.length=Q:=by rfl)(hN:N.length=n:=by rfl)
  (A:OD z.length λdl=>OD ((p::ps).length - (z.drop j).length) λd=>∀(T:Addr) (kV doc u:ab) (h:Option Addr) (cdv t:ab),∃k,bindArgs (fnOf "__init__" qual (y4 st) (vV st) (vt st) (.ref T) kV doc u h cdv t) ⟨d,[]⟩=seqItems? (.ref T)>>=k/\k (Z dl.toArray)=pure ((p::ps).zip (d++dl.drop j)):=by (repeat intro _);exact⟨_,O,O⟩):LM G P w mg b? (k+1) x c (p::ps) (z.drop j) g:=by
 obtain⟨f,B,T,o,dl,n,i,M,F,l,e,r⟩:=q;refine⟨f,B,dl.drop j,⟨C.mks,i,M,C.kp⟩,y.g a,F.tp l e λkV doc u h cdv t d H=>?_,Rt r j,ZZ E I hN F S (body f)⟩;exact Ig (Ig A dl (Np r)) d (by rw[H,fA,fA,Np r]) T kV doc u h cdv t
end
end L4
namespace L4
open PySem PySem.Spec PyProof.Rows L2 L3
def L?(a b:Str):Bool:=decide (a.cps.toList<=b.cps.toList)
def Dj(a:aF):aF:=a.mergeSort L?
def Jd(a b c:Str)(h:L? a b=γ)(d:L? b c=γ):L? a c=γ:=aV (List.le_trans (bB h) (bB d))
def Ih(a b:Str):(L? a b||L? b a)=γ:=by
 rw[jL];rcases List.le_total a.cps.toList b.cps.toList with h|h
 .exact .inl (aV h)
 .exact .inr (aV h)
def Je(a b:Str)(h:L? a b=γ)(c:L? b a=γ):a=b:=by have e:=List.le_antisymm (bB h) (bB c);cases a with|mk a=>cases b with|mk b=>cases a;cases b;simp only at e;rw[e]
theorem Gi:∀(r:aF) (x:Str),risingS x r=γ->(∀y∈r,L? x y=γ)/\r.Pairwise λa b=>L? a b=γ
 |[],x,_=>⟨λy h=>(cA h).elim,.nil⟩
 |z::r,x,h=>by
  unfold risingS at h;rw[aW,fq,ltCps_eq]at h;obtain⟨j,l⟩:=h;obtain⟨d,i⟩:=Gi r z l;have f:L? x z=γ:=aV (of_decide_eq_false j);refine⟨λy c=>?_,.cons d i⟩;rcases aL.1 c with e|c
  .rw[e];exact f
  .exact Jd _ _ _ f (d y c)
def OE:∀l:aF,sortedS l=γ->l.Pairwise λa b=>L? a b=γ
 |[],_=>.nil
 |x::r,h=>.cons (Gi r x h).1 (Gi r x h).2
def OF{l:aF}(p:l.Perm c)(h:sortedS l=γ):l=Dj c:=
 kJ (λa b _ _=>Je a b) (OE l h) (jt Jd Ih c) (p.t (iB c L?).symm)
theorem X0:∀{vs:List ab} {a:aF},kU vs a->ef (a.map V.str) vs
 |_,_,.nil=>.nil
 |_,_,.cons x t h=>.cons ⟨t,O⟩ (X0 h)
section
variable{X:Cx}{G:Bg}{pins:cD}{σ:St}{H:Hp}{s:ae}
theorem Jf:∀a:aF,uQ G H (a.map D.str) (a.map V.str)
 |[]=>vM
 |x::a=>vR (zB x) (Jf a)
end
end L4
namespace L4
open PySem PySem.Spec PySem.Calls PyProof.Rows PySem.W L2 L3
structure Sto(c:Nat->Nat->Bool)(n:Nat):Prop where
 tr:∀i j k,i<n->j<n->k<n->c i j=γ->c j k=γ->c i k=γ
 tot:∀i j,i<n->j<n->i≠j->c i j=δ->c j i=γ
section
variable{X:Cx}{G:Bg}{pins:cD}{σ:St}{H:Hp}{s:ae}
def Ka(K:av)(H:Hp)(y:V)(k:aF):Prop:=∃a p q,y=.ref a/\k=[p,q]/\ij K H a [.str p,.str q]
def T9(I:c3 X pins σ H s)(h:Ka X.K H y k)(r:et y u):∃a p q t v,u=.ref a/\k=[p,q]/\gq s.heap a #[.str p t,.str q v]:=by
 obtain⟨a,p,q,rfl,rfl,b⟩:=h;cases r;obtain⟨c,i,j,_⟩:=I.tuple b;cases i with
 |cons d e=>
  obtain⟨t,rfl⟩:=d;cases e with
  |cons q3 f=>obtain⟨v,rfl⟩:=q3;cases f;exact⟨a,p,q,t,v,O,O,j⟩
end
section
variable{prog:aH}{w:az}{A:aI}{s:ae}
def It2(h:Heap)(b:List ab)(c:List aF):Prop:=∀i,i<b.length->∃a p q t v,b.getD i Value.none=.ref a/\c.getD i []=[p,q]/\gq h a #[.str p t,.str q v]/\b[i]?=Z (.ref a)
def Ru(item:It2 s.heap b H)(G:0<b.length)(hC:C (tuples' γ) s):ai (model prog w) A (keyKind' b.toArray) C (λ_ _=>False) s:=by
 have y':∀(l:List ab),(∀v∈l,∃i,i<b.length/\b[i]?=Z v)->∃fs,KatTups s.heap l fs/\fs.length=l.length/\∀f∈fs,∃(x:Str) (t:Tok),f=.str x t:=λl=>by
  induction l with
  |nil=>exact λ_=>⟨[],KatTups.nil,O,λf hf=>by cases hf⟩
  |cons v l z=>
   intro c;obtain⟨fs,h,m,j⟩:=z λw y=>c w (.tail _ y);obtain⟨i,d,u⟩:=c v (.head _);obtain⟨a,p,q,t,w,_,_,⟨o,B,E,n,F⟩,r⟩:=item i d;rw[u]at r;cases r;refine⟨.str p t::fs,KatTups.cons B E F (by simp) h,by rw[aN,aN,m],λf hf=>?_⟩;rcases aL.1 hf with rfl|hf
   .exact⟨p,t,O⟩
   .exact j f hf
 obtain⟨fs,h,m,j⟩:=y' b λv c=>by obtain⟨i,d,e⟩:=kQ.1 c;exact⟨i,d,by rw[bh d,e]⟩
 refine kat_kind (T:=.type "str") h (by omega) (λv c=>?_) (by decide) ?_
 .obtain⟨x,t,rfl⟩:=j v c;exact .now
 .rw[show (Value.type "str" != Value.type "tuple")=γ by decide];exact hC
def Ua(item:It2 s.heap a e)(hij:i<a.length/\j<a.length)(hC:C (J9 (e.getD i []) (e.getD j [])) s):j1 prog w A (tuples' γ) a i j C s:=by
 obtain⟨a1,b,c,f,l,q,x,⟨F,t,c1,B,o⟩,_⟩:=item i hij.1;obtain⟨z,p2,d,h,m,r,y,⟨G,u,c2,E,p⟩,_⟩:=item j hij.2;unfold j1;rw[q,r];rw[x,y]at hC;refine kat_lt t o u p ?_;show KatLex _ _ _ _ _ _ [(Value.str b f,Value.str p2 h),(Value.str c l,Value.str d m)] 0 _;refine kat_cons (la b f p2 h _ _ _ _ ?_);unfold J9 at hC;by_cases hpp:b=p2
 .subst hpp;rw[ak O]at hC;rw[beq_self_eq_true];refine kat_yes (kat_cons (la c l d m _ _ _ _ ?_));unfold J9 at hC;by_cases hqq:c=d
  .subst hqq;rw[ak O]at hC;rw[beq_self_eq_true];exact kat_yes (kat_nil hC)
  .rw[ao hqq]at hC;rw[beq_false_of_ne hqq];exact kat_no (kat_one _ _ (uu hC))
 .rw[ao hpp]at hC;rw[beq_false_of_ne hpp];exact kat_no (oneLt_str hC)
end
section
variable{X:Cx}{G:Bg}{pins:cD}{σ:St}{H:Hp}{s:ae}
def LR(hu:X.A.units+64<cLine):wY X (.builtin "sorted") (λxs H Q=>∃(a:Addr) (d:bN) (ks:List aF),xs=[.ref a]/\gd X.K H a d/\0<d.length/\d.length<64/\ks.length=d.length/\(∀(i:Nat) (y:V) (k:aF),d[i]?=Z y->ks[i]?=Z k->Ka X.K H y k)/\
  ∀p,H p=J->Q (.ref p) (ff H p (.bt ((OB (λi j=>J9 (ks.getD i []) (ks.getD j [])) d.length).map λi=>d.getD i V.E)))):=by
 intro pins s σ H xs us Q I r h;obtain⟨a,d,ks,rfl,hq,R,S,hkl,Y,q⟩:=h;obtain⟨u,rfl,w⟩:=m1 r;cases w;obtain⟨f,m,T,ob,nn,hT,F,M,N⟩:=seq_val I (.inl hq);have U:d.length=f.length:=m.length;have item:∀{h':Heap},(∀b o,s.heap.get? b=Z o->h'.get? b=Z o)->It2 h' f ks:=λ{h'} l i hi=>by
  have E:c3 X pins σ H { s with heap:=h',toks:=s.toks }:=I.g? l;have B:i<d.length:=by omega
  have z:i<ks.length:=by omega
  obtain⟨u,e,w⟩:=m.get (bh B);obtain⟨a,p,q,t,v,rfl,P,ti⟩:=T9 E (Y i _ _ (bh B) (bh z)) w;refine⟨a,p,q,t,v,?_,?_,ti,e⟩
  .rw[cX,e];rfl
  .rw[cX,bh z];exact P
 refine OA (κ:=tuples' γ) (c:=λi j=>J9 (ks.getD i []) (ks.getD j [])) hT F M N (by omega) (by omega) (λh' C l hC=>Ru (s:={ s with heap:=h' }) (item l) (by omega) hC) (λh' i j C l hij hC=>Ua (s:={ s with heap:=h' }) (item l) hij hC) λg h' e k1 k2 W=>?_
 .have x:c3 X pins σ H { s with heap:=g,toks:=s.toks }:=I.g? k1;refine⟨.ref g.objs.size,_,x.laid (t':=s.toks) k2 (aO _) ?_,O,q _ (x.fx.fresh (aO _))⟩;have hn:0<d.length:=R;refine⟨?_,Gf _ f,e,?_,W⟩
  .rw[ah,(Gg _ hn).length_eq,cH,bS];omega
  .unfold Gf;rw[<-U];exact KI m _ λi hi=>LP _ hn i hi
end
def Rv:D->Option aF
 |.du [.str p,.str q]=>Z [p,q]
 |_=>J
def zp:bp->Option (List aF)
 |[]=>Z []
 |d::a=>match Rv d,zp a with
  |some k,Z b=>Z (k::b)
  |_,_=>J
def Jg(a:bp):Option bp:=match zp a with
 |some b=>if 0<a.length/\a.length<64 then Z ((OB (λi j=>J9 (b.getD i []) (b.getD j [])) a.length).map λi=>a.getD i .E)else J
 |none=>J
def Gj(f:FE):FA:=λd=>match f d with
 |some (.bt b,a)=>match Jg b with
  |some c=>Z (c,a)
  |none=>J
 |_=>J
section
variable{X:Cx}{G:Bg}{H:Hp}
def Nq(r:cb G H d v)(e:Rv d=Z k):Ka G.K H v k:=by
 unfold Rv at e;split at e
 .rename_i p q;cases e;unfold cb at r;obtain⟨a,t,rfl,i,b⟩:=r;unfold uQ at b;obtain⟨m,j,rfl,c,f⟩:=b;unfold uQ at f;obtain⟨o,l,rfl,q3,h⟩:=f;unfold uQ at h;unfold cb at c q3;subst h c q3;exact⟨a,p,q,O,O,i⟩
 .cases e
theorem KL:∀{a:bp} {b:List aF},zp a=Z b->b.length=a.length
 |[],b,e=>by cases e;rfl
 |d::a,b,e=>by
  unfold zp at e;cases c:Rv d with
  |none=>rw[c]at e;cases e
  |some k=>
   cases f:zp a with
   |none=>rw[c,f]at e;cases e
   |some h=>rw[c,f]at e;cases e;rw[aN,aN,KL f]
theorem KM:∀{a:bp} {f:List aF} {h:bN},uQ G H a h->zp a=Z f->∀(i:Nat) (y:V) (k:aF),h[i]?=Z y->f[i]?=Z k->Ka G.K H y k
 |[],f,h,r,e,i,y,k,l,c=>by cases e;cases c
 |d::a,f,h,r,e,i,y,k,l,c=>by
  unfold zp at e;cases b:Rv d with
  |none=>rw[b]at e;cases e
  |some q=>
   cases j:zp a with
   |none=>rw[b,j]at e;cases e
   |some m=>
    rw[b,j]at e;cases e;unfold uQ at r;obtain⟨v,t,rfl,o,p⟩:=r;cases i with
    |zero=>cases l;cases c;exact Nq o b
    |succ i=>exact KM p j i y k l c
theorem Ka.mono{K:av}(s:ve b c)(h:Ka K b y k):Ka K c y k:=by obtain⟨a,p,q,d,e,f⟩:=h;exact⟨a,p,q,d,e,ij.mono s f⟩
def Nr(h:PE X e (tCB (λu H Q=>∃(a:Addr) (c:bN) (l:List aF),u=[.ref a]/\gd G.K H a c/\0<c.length/\c.length<64/\l.length=c.length/\(∀(i:Nat) (y:V) (k:aF),c[i]?=Z y->l[i]?=Z k->Ka G.K H y k)/\
  ∀p,H p=J->Q (.ref p) (ff H p (.bt ((OB (λi j=>J9 (l.getD i []) (l.getD j [])) c.length).map λi=>c.getD i V.E)))) (vo G (ax f vB)))):PE X e (z3 G (Gj f)):=PE.d? h λσ H Q t=>by
 obtain⟨F,W,A,es,Y,R,e,k⟩:=t;unfold Gj at e;split at e
 .rename_i q ρ1 C;cases b:Jg q with
  |none=>simp only[b]at e;cases e
  |some E=>
   simp only[b]at e;cases e;unfold Jg at b;cases m:zp q with
   |none=>simp only[m]at b;cases b
   |some l=>
    simp only[m]at b;split at b
    .rename_i t;obtain⟨P,M⟩:=t;cases b;refine⟨F,W,A,[.bt q],_,R,by unfold ax;rw[C];rfl,λc H1 B s d rs=>?_⟩;unfold uQ at rs;obtain⟨v,r0,rfl,z,x⟩:=rs;unfold uQ at x;subst x;unfold cb at z;obtain⟨a,u,rfl,I,r⟩:=z;have w:=uV r;refine⟨a,u,l,O,gd.of (d.sub _ _ I),by omega,by omega,by rw[KL m,w],λi y S T U=>Ka.mono d.sub (KM r m i y S T U),λp o=>?_⟩;refine k p _ _ _ s (d.l7 o _) vb (d.f5 o) (d.i1 o) (d.apart o) ?_;rw[<-w];exact KJ r _ λi N=>LP _ P i N
    .cases b
 .cases e
def Kb(d:X.A.units+64<cLine)(hK:X.K=G.K:=by rfl):wY X (.builtin "sorted") (λe H Q=>∃(a:Addr) (b:bN) (c:List aF),e=[.ref a]/\gd G.K H a b/\0<b.length/\b.length<64/\c.length=b.length/\(∀(i:Nat) (y:V) (k:aF),b[i]?=Z y->c[i]?=Z k->Ka G.K H y k)/\
  ∀p,H p=J->Q (.ref p) (ff H p (.bt ((OB (λi j=>J9 (c.getD i []) (c.getD j [])) b.length).map λi=>b.getD i V.E)))):=by rw[<-hK];exact LR d
end
end L4
namespace L4
open PySem PySem.Spec PyProof.Rows L2 L3
structure Bz where
 P:aH
 w:az
 mg:Str->Option ab
 b?:Heap
 G:Bg
structure ZE(X:Cx)(B:Bz)(e:Expr)(f:FE):Prop where p:PE X e (tF B.G f)
structure ZN(X:Cx)(B:Bz)(e:Expr)(f:FA):Prop where p:PE X e (z3 B.G f)
structure ZT(X:Cx)(B:Bz)(e:Expr)(f:FT):Prop where p:PT X e (n9 B.G f)
structure ZW(X:Cx)(B:Bz)(e:Expr)(f:FT):Prop where p:PW X e (n9 B.G f)
structure ZF(X:Cx)(B:Bz)(e:List Expr)(f:FT):Prop where p:PIf X e (n9 B.G f)
structure ZA(X:Cx)(B:Bz)(e:List Expr)(f:FA):Prop where p:PA X e (vo B.G f)
structure ZS(X:Cx)(B:Bz)(e:Stmt)(f:FS):Prop where p:PS X e (mq B.G f)
structure ZB(X:Cx)(B:Bz)(e:List Stmt)(f:FS):Prop where p:p5 X e (mq B.G f)
structure ZI(X:Cx)(B:Bz)(tg e:Expr)(f:FA):Prop where p:PI X tg e (μ B.G f)
structure ZO(X:Cx)(B:Bz)(e:Option Expr)(f:FO):Prop where p:PO X e (tFO B.G f)
structure ZG(X:Cx)(B:Bz)(e:Expr)(n:Nat)(f:FG):Prop where p:PG X e (tFG B.G n f)
structure ZH(X:Cx)(B:Bz)(e:List Expr)(n:Nat)(f:bp->aQ->Option aQ):Prop where p:R' X e (QX B.G n f)
structure ZK(X:Cx)(e:Option Expr)(i:Option Int):Prop where p:PO X e (tO i)
structure ZV(X:Cx)(e:Expr)(i:Nat):Prop where p:PE X e (BU i)
abbrev Gz(X:Cx)(x:Str):Prop:=X.b1.kindOf x=Z .globalImplicit
abbrev Dz(x:Str):Prop:=(x==("__debug__" : Str))=δ
abbrev Nz(x:Str):Prop:=(decide (x≠"__name__")&&!(x==("__debug__" : Str)))=γ
abbrev Sz(X:Cx)(e:Expr)(a:List Expr):Prop:=aC (e::a) X.b1=(δ,eval e X.b1)::aC a X.b1
abbrev S1(X:Cx)(e:Expr):Prop:=aC [e] X.b1=[(δ,eval e X.b1)]
abbrev Lz(X:Cx)(pos:Pos)(a:List Expr):Prop:=(bE pos (aC a X.b1)).any (·.1)=δ
abbrev Wz(X:Cx)(e o:Expr)(pos:Pos):Prop:=dG e (Z o) pos.line X.b1=pure δ
abbrev Az(X:Cx)(o:Expr)(m:Str):Prop:=fI o m X.b1 (eval o X.b1)=eval o X.b1
abbrev Ez(p pos:Pos):Prop:=(p.endLine==pos.line)=γ
abbrev Iz(e:Expr):Prop:=(λo i=>subscripted e δ o i)=λo i=>operate [o,i] (getItem o i)
abbrev Fz(X:Cx)(e:Expr):Prop:=(λx=>iF e X.b1 x)=λx=>pure x
class Cz(X:Cx)(B:outParam Bz)(k:outParam Nat):Prop where
 P:X.prog=B.P
 w:X.w=B.w
 K:X.K=B.G.K
 mg:X.mg=B.mg
 b:X.b?=B.b?
 c:X.nq=γ
 r:xA k X.A
class Yb(B:Bz):Prop where y:Yw B.P B.w B.mg B.b? B.G
class Df(B:Bz)(j:outParam Nat)(x:Str)(sp:Sp):Prop where p:∃ps,D9 B.P B.w B.G.K B.mg B.b? j x ps sp
class Kf(B:Bz)(j:outParam Nat)(x:Str)(c:Nat)(g:bp->Option (aF×bp))(dds:bp):Prop where
 p:∃ps,LM B.G B.P B.w B.mg B.b? j x c ps (dds.map vD) g
 f:dds.all yb=γ
class Mf(B:Bz)(j:outParam Nat)(m:Str)(g:Nat->Option (bp->Option D)):Prop where p:∀c h,g c=Z h->B4 B.G B.P B.w B.mg B.b? j m c h
class Ff(B:Bz)(ok:Nat->Bool)(f:Str):Prop where p:∀c,ok c=γ->W1 B.G.K (B.G.ca c)/\An B.G.K (B.G.ca c) f
class Af(B:Bz)(c:Nat)(xs:outParam aF):Prop where p:CF B.G.K (B.G.ca c) xs
class Nb(B:Bz)(x:Str):Prop where p:B.mg x=J
class Co(B:Bz)(x:Str)(d:D):Prop where p:AY B.G B.mg x d
class Ic(B:Bz)(x:Str)(t:Ty->Option Bool):Prop where p:∃c,IW B.G c t/\B.mg x=Z (.ref (B.G.ca c))
class Ij(B:Bz)(n:Nat):Prop where p:∀j k,j<n->k<n->B.G.ca j=B.G.ca k->j=k
class OpC(op:Operator)(g:D->D->Option D):Prop where p:∀(X:Cx) (G:Bg),∃r,ki X (cJ op) r/\mn G r g
instance in1:OpC .Mod xU:=⟨λ_ _=>⟨_,YR,Zw⟩⟩
instance in2:OpC .FloorDiv D8:=⟨λ_ _=>⟨_,VH,Zx⟩⟩
instance in3:OpC .Mult xB:=⟨λ_ _=>⟨_,YQ,Zv⟩⟩
instance in4:OpC .Sub IP:=⟨λ_ _=>⟨_,YO,Zu⟩⟩
instance in5:OpC .Pow SZ:=⟨λ_ _=>⟨_,YS,Zy⟩⟩
instance in6:OpC .Add wR:=⟨λ_ _=>⟨_,YN,Zt⟩⟩
instance in7:OpC .Add E5:=⟨λ_ _=>⟨_,N3,WB⟩⟩
instance in8:OpC .Mult KE:=⟨λ_ _=>⟨_,Og,W3⟩⟩
class L1(op:CmpOp)(g:D->D->Option D):Prop where p:∀(X:Cx) (G:Bg),X.K=G.K->X.A.units+64<cLine->∃r,ki X (bz op) r/\mn G r g
instance in9:L1 .Eq (e? δ):=⟨λ_ _ h u=>⟨_,ZL u h,ac3⟩⟩
instance in10:L1 .NotEq (e? γ):=⟨λ_ _ h u=>⟨_,ZM u h,ac4⟩⟩
instance in11:L1 .In (n6 δ):=⟨λ_ _ h _=>⟨_,ZP h,XW⟩⟩
instance in12:L1 .NotIn (n6 γ):=⟨λ_ _ h _=>⟨_,Q4 h,XW⟩⟩
instance in13:L1 .Is y8:=⟨λ_ _ _ _=>⟨_,YT,ZC⟩⟩
instance in14:L1 .IsNot wz:=⟨λ_ _ _ _=>⟨_,VI,WC⟩⟩
instance in16:L1 .Lt HQ:=⟨λ_ _ _ _=>⟨_,acy,acZ⟩⟩
instance in17:L1 .LtE z7:=⟨λ_ _ _ _=>⟨_,acz,ac0⟩⟩
instance in18:L1 .Gt LL:=⟨λ_ _ _ _=>⟨_,acA,ac1⟩⟩
instance in19:L1 .GtE Zs:=⟨λ_ _ _ _=>⟨_,acB,ac2⟩⟩
instance in20:L1 .LtE S0:=⟨λ_ _ _ _=>⟨_,QU,Zz⟩⟩
class B1(x:Str)(g:D->Option D):Prop where p:∀(X:Cx) (G:Bg),X.K=G.K->X.nq=γ->∃(id:String) (r:bN->Hp->VK->Prop),wY X (.builtin id) r/\IR G r g/\dY x=Z (.builtin id)
instance in21:B1 "len" wU:=⟨λ_ _ h _=>⟨_,_,Q6 h,ZQ,qt⟩⟩
instance in22:B1 "all" zR:=⟨λ_ _ h c=>⟨_,_,Q7 c h,ZU,boot_all⟩⟩
instance in23:B1 "any" HU:=⟨λ_ _ h c=>⟨_,_,Rg c h,Z1,boot_any⟩⟩
class KtC(x:Str)(T:outParam String):Prop where p:(∀(X:Cx) (G:Bg) y b,wL T y=Z b->di X.K (y.val G) (.type T)=Z b)/\dY x=Z (.type T)
instance in24:KtC "str" "str" := ⟨λ_ _=>WK,Pv.boot_str⟩
instance in25:KtC "int" "int" := ⟨λ_ _=>W0,ra⟩
instance in26:KtC "bool" "bool" := ⟨λ_ _=>TX,Pv.boot_bool⟩
instance in27:KtC "list" "list" := ⟨λ_ _=>Tj,qO⟩
instance in28:KtC "tuple" "tuple" := ⟨λ_ _=>ω,qI⟩
theorem X2:∀{dds:bp},dds.all yb=γ->uQ G H dds (dds.map vD)
 |[],_=>vM
 |d::a,h=>by rw[gW,aW]at h;exact vR (E4 h.1 H) (X2 h.2)
def eqI{c:Sort u}{a b:c}(h:a=b):a=b:=h
def wh(X:Cx)(i:Nat)(x:Str):Bool:=decide (X.N[i]?=Z x)&&(match X.b1.scope.names.lookup x with|some .local=>γ|some .cell=>γ|some .free=>γ|_=>δ)&&!(x==("__debug__" : Str))&&!(x==("__classdict__" : Str))
def y?(X:Cx)(i:Nat)(x:Str):Bool:=decide X.N.Nodup&&decide (X.N[i]?=Z x)&&(match X.b1.scope.names.lookup x with|some .local=>γ|some .cell=>X.fn x|_=>δ)
section
variable{X:Cx}{B:Bz}{k j i n c0:Nat}{x m:Str}{e e' o tg it:Expr}{es:List Expr}{p p2 p3 pos apos:Pos}{f f' f2:FE}{a:FA}{g:D->D->Option D}
def S3(h:wh X i x=γ):PE X (.Name x p) (BU i):=by
 unfold wh at h;simp only[aW,bQ,fq]at h;obtain⟨⟨⟨c,b⟩,d⟩,l⟩:=h;refine pv i c ?_ d l;unfold Vis;split at b
 .rename_i e;exact .inl e
 .rename_i e;exact .inr (.inl e)
 .rename_i e;exact .inr (.inr e)
 .cases b
def adh(h:wh X i x=γ):ZE X B (.Name x p) (cV i):=⟨Oh (S3 h)⟩
def aae(h:wh X i x=γ):ZE X B (.Name x p) (D' i):=⟨acX (S3 h)⟩
def W7(h:wh X i x=γ):ZN X B (.Name x p) (J5 i):=⟨Wu (S3 h)⟩
def LU(h:y? X i x=γ):X.N.Nodup/\X.N[i]?=Z x/\L2.Loc X.b1.scope x/\(X.fn x=γ\/X.b1.scope.names.lookup x=Z .local):=by
 unfold y? at h;simp only[aW,bQ]at h;obtain⟨⟨c,d⟩,b⟩:=h;unfold L2.Loc;split at b
 .rename_i e;exact⟨c,d,.inl e,.inr e⟩
 .rename_i e;exact⟨c,d,.inr e,.inl b⟩
 .cases b
def pgI(h:y? X i x=γ):PG X (.Name x p) (AU i):=by obtain⟨b,c,d,l⟩:=LU h;exact O3 b c d l
def aaf(h:y? X i x=γ)(b:Nat.blt i n=γ):ZG X B (.Name x p) n (gN i):=⟨SN n (pgI h) (Nat.blt_eq.mp b)⟩
def stW(h:y? X i x=γ)(q:PE X e t)(r:Wz X e (.Name x p) pos):PS X (.Assign [.Name x p] e pos) (Ep t (AU i)):=by obtain⟨b,c,d,l⟩:=LU h;exact YH b c d q r l
def aag(h:y? X i x=γ)(b:ZE X B e f)(c:Wz X e (.Name x p) pos):ZS X B (.Assign [.Name x p] e pos) (vc i f):=⟨Pm (stW h b.p c)⟩
def aah(h:y? X i x=γ)(b:ZN X B e a)(c:Wz X e (.Name x p) pos):ZS X B (.Assign [.Name x p] e pos) (yw i a):=⟨MW (stW h b.p c)⟩
def aai(h:y? X i x=γ)(b:Wz X (.Dict [] [] p2) (.Name x p) pos):ZS X B (.Assign [.Name x p] (.Dict [] [] p2) pos) (GU i):=⟨Tt (stW h ML b)⟩
def aaj [b:OpC q g](h:ZE X B e f)(l:ZE X B e' f'):ZE X B (.BinOp e q e' pos) (c2 g f f'):=by obtain⟨r,c,d⟩:=b.p X B.G;exact⟨acP c d h.p l.p⟩
def aak [C:Cz X B k](b:ZE X B e f)(c:ZE X B e' f')(d:Iz e'):ZE X B (.Subscript e e' pos) (c2 f3 f f'):=⟨acQ (ix_X C.K) ac5 b.p c.p λo i=>congrFun (congrFun d o) i⟩
def W8 [C:Cz X B k](h:wh X i x=γ)(b:ZE X B e' f')(c:Iz e'):ZE X B (.Subscript (.Name x p) e' pos) (M0 i f'):=⟨Zq (XO (SD B.G.K C.K) (S3 h) b.p λo i=>congrFun (congrFun c o) i)⟩
def aal [C:Cz X B k](b:ZE X B e f)(c:ZE X B e' f')(d:Iz e'):ZE X B (.Subscript e e' pos) (c2 BF f f'):=⟨WN (MM C.r) b.p c.p λo i=>congrFun (congrFun d o) i⟩
section
variable{op op':CmpOp}{g':D->D->Option D}
def aam [b:L1 op g][C:Cz X B k](h:ZE X B e f)(l:ZE X B e' f')(q:fZ op e'=δ):ZE X B (.Compare e [op] [e'] pos) (c2 g f f'):=by obtain⟨r,c,d⟩:=b.p X B.G C.K C.r.units;exact⟨Zh c d h.p l.p q⟩
def aan [b:L1 op g][C:Cz X B k](h:ZE X B e f)(l:ZE X B e' f')(q:fZ op e'=δ):ZT X B (.Compare e [op] [e'] pos) (cT (c2 g f f')):=by obtain⟨r,c,d⟩:=b.p X B.G C.K C.r.units;exact⟨V7 c d h.p l.p q⟩
def aao [b:L1 op g][c:L1 op' g'][C:Cz X B k](t:ZE X B e f)(u:ZE X B e' f')(w:ZE X B o f2)(y:lastMarks [op,op'] [e',o]=δ):ZE X B (.Compare e [op,op'] [e',o] pos) (yK g g' f f' f2):=by obtain⟨r,d,h⟩:=b.p X B.G C.K C.r.units;obtain⟨z,l,q⟩:=c.p X B.G C.K C.r.units;exact⟨Tc d l h q t.p u.p w.p y⟩
def aap [b:L1 op g][c:L1 op' g'][C:Cz X B k](t:ZE X B e f)(u:ZE X B e' f')(w:ZE X B o f2)(y:lastMarks [op,op'] [e',o]=δ):ZT X B (.Compare e [op,op'] [e',o] pos) (cT (yK g g' f f' f2)):=by obtain⟨r,d,h⟩:=b.p X B.G C.K C.r.units;obtain⟨z,l,q⟩:=c.p X B.G C.K C.r.units;exact⟨Q9 d l h q t.p u.p w.p y⟩
end
def aaq(h:ZE X B e f)(b:(λwhole=>isTrue e X.b1 whole)=λwhole=>(do let v<-whole;standAt e.pos;holding [v] (truthy v))):ZT X B e (cT f):=⟨V8 h.p λw=>congrFun b w⟩
def aar(d:ZT X B e b)(h:ZW X B (.BoolOp .Or (e'::es) pos) c):ZT X B (.BoolOp .Or (e::e'::es) pos) (ya b c):=⟨PW.pt (SI d.p h.p)⟩
def aas(d:ZT X B e b)(h:ZW X B (.BoolOp .And (e'::es) pos) c):ZT X B (.BoolOp .And (e::e'::es) pos) (wN b c):=⟨PW.pt (Wb d.p h.p)⟩
def aat [C:Cz X B k][Q:Co B x d](b:Gz X x)(hd:Dz x):ZE X B (.Name x pos) (cC d):=⟨Tf (C.mg▸Q.p) b hd⟩
def aau [C:Cz X B k][Q:Ff B ok m](c:ZE X B e f)(b:Az X e m):ZE X B (.Attribute e m pos) (c1 (uS ok m) f):=⟨SR c.p (C.K▸Q.p) b⟩
section
variable(hg:Gz X x)(hd:Dz x)(hs:Sz X e es)(hl:Lz X pos es)
include hg hd
theorem dz [C:Cz X B k][Q:Df B j x d]:∃c,D9 X.prog X.w X.K X.mg X.b? j x c d:=by rw[C.P,C.w,C.K,C.mg,C.b];exact Q.p
theorem aav{g:bp->Option bp}[C:Cz X B k][Q:Df B j x (ub B.G g)](b:eU j k=γ):ZN X B (.Call (.Name x p) [] [] pos) (vK g vB):=by obtain⟨c,q⟩:=dz hg hd (X:=X) (Q:=Q);exact⟨Td q (C.r.mono (eQ.mp b)) hg hd⟩
include hs hl
theorem aaw{g:bp->Option D}[C:Cz X B k][Q:Df B j x (fu B.G g)](b:ZA X B (e::es) a)(c:eU j k=γ):ZE X B (.Call (.Name x p) (e::es) [] pos) (uM g a):=by obtain⟨d,q⟩:=dz hg hd (X:=X) (Q:=Q);exact⟨ZY q (C.r.mono (eQ.mp c)) b.p hg hd hs hl⟩
theorem aax{g:bp->Option bp}[C:Cz X B k][Q:Df B j x (ub B.G g)](b:ZA X B (e::es) a)(c:eU j k=γ):ZN X B (.Call (.Name x p) (e::es) [] pos) (vK g a):=by obtain⟨d,q⟩:=dz hg hd (X:=X) (Q:=Q);exact⟨WH q (C.r.mono (eQ.mp c)) b.p hg hd hs hl⟩
theorem aay{g:bp->bp->Option (D×bp)}[C:Cz X B k][Q:Df B j x (u7 B.G g)](d:ZV X e i)(b:ZA X B es a)(c:eU j k=γ):ZE X B (.Call (.Name x p) (e::es) [] pos) (vH g i a):=by obtain⟨h,q⟩:=dz hg hd (X:=X) (Q:=Q);exact⟨WI q (C.r.mono (eQ.mp c)) d.p b.p hg hd hs hl⟩
theorem aaz{g:bp->Option (aF×bp)}{dds:bp}[C:Cz X B k][Q:Kf B j x c0 g dds](d:ZA X B (e::es) a)(h:eU (j+1) k=γ):ZE X B (.Call (.Name x p) (e::es) [] pos) (vE c0 (λc=>g (c++dds)) a):=by obtain⟨l,q⟩:=Q.p;exact⟨WJ (by rw[C.P,C.w,C.mg,C.b];exact q) (λH=>X2 Q.f) (C.r.mono (eQ.mp h)) d.p C.K hg hd hs hl⟩
end
def mz{g:Nat->Option (bp->Option D)}[C:Cz X B k][Q:Mf B j m g]:∀c h,g c=Z h->B4 B.G X.prog X.w X.mg X.b? j m c h:=by rw[C.P,C.w,C.mg,C.b];exact Q.p
def aaA{g:Nat->Option (bp->Option D)}{pl:Sem Bool}[C:Cz X B k][Q:Mf B j m g](d:ZE X B o f)(c:eU j k=γ)
  (h:eval (.Call (.Attribute o m apos) [] [] pos) X.b1=(do
   let b<-eval o X.b1
   standAt apos.atName
   let (f,first)<-holding [b] (getMethod b m pl)
   callWith pos f first (bE pos (aC [] X.b1)) (backToKw pos (d8 [] X.b1)))):ZE X B (.Call (.Attribute o m apos) [] [] pos) (vh g m f vB):=⟨On mz (C.r.mono (eQ.mp c)) d.p C.K h⟩
def aaB{g:Nat->Option (bp->Option D)}{pl:Sem Bool}[C:Cz X B k][Q:Mf B j m g](l:ZE X B o f)(c:ZA X B (e::es) a)(d:eU j k=γ)(q:Sz X e es)(h:Lz X pos es)
  (t:eval (.Call (.Attribute o m apos) (e::es) [] pos) X.b1=(do
   let b<-eval o X.b1
   standAt apos.atName
   let (f,first)<-holding [b] (getMethod b m pl)
   callWith pos f first (bE pos (aC (e::es) X.b1)) (backToKw pos (d8 [] X.b1)))):ZE X B (.Call (.Attribute o m apos) (e::es) [] pos) (vh g m f a):=⟨Rb mz (C.r.mono (eQ.mp d)) l.p c.p C.K q h t⟩
section
variable(hg:Gz X x)(hd:Nz x)(hs:S1 X e)
include hg hd hs
theorem cbI{id:String}[C:Cz X B k][N:Nb B x](c:wY X (.builtin id) r)(d:dY x=Z (.builtin id))(b:PA X [e] t):PE X (.Call (.Name x p) [e] [] pos) (tCB r t):=by simp only[aW,bQ,fq]at hd;exact BA c hg (C.mg▸N.p) d b hd.1 hd.2 hs O
theorem ctI [C:Cz X B k][N:Nb B x](c:wY X (.type T) r)(d:dY x=Z (.type T))(b:PA X [e] t):PE X (.Call (.Name x p) [e] [] pos) (tCB r t):=by simp only[aW,bQ,fq]at hd;exact QM c hg (C.mg▸N.p) d b hd.1 hd.2 hs O
theorem aaC{g:D->Option D}[Q:B1 x g][C:Cz X B k][N:Nb B x](l:ZE X B e f):ZE X B (.Call (.Name x p) [e] [] pos) (c1 g f):=by obtain⟨id,r,b,d,h⟩:=Q.p X B.G C.K C.c;exact⟨S6 d (cbI hg hd hs b h (wZ l.p yD hs))⟩
end
section
variable(hs:S1 X e)
include hs
theorem aaD [C:Cz X B k][N:Nb B "list"](c:Gz X "list")(b:ZE X B e f):ZN X B (.Call (.Name "list" p) [e] [] pos) (AX f):=⟨S8 (ctI c (by decide) hs (Om C.K) qO (wZ b.p yD hs))⟩
theorem aaE [C:Cz X B k][N:Nb B "tuple"](c:Gz X "tuple")(b:ZE X B e f):ZE X B (.Call (.Name "tuple" p) [e] [] pos) (E7 f):=⟨S9 (ctI c (by decide) hs (Q8 C.K) qI (wZ b.p yD hs))⟩
theorem aaF [C:Cz X B k][N:Nb B "sorted"](c:Gz X "sorted")(b:ZE X B e f):ZN X B (.Call (.Name "sorted" p) [e] [] pos) (Gj f):=⟨Nr (cbI c (by decide) hs (Kb C.r.units C.K) boot_sorted (wZ b.p yD hs))⟩
theorem aaG [C:Cz X B k][N:Nb B "range"](c:Gz X "range")(b:ZE X B e f):ZI X B tg (.Call (.Name "range" p) [e] [] pos) (I' f):=⟨Oj (QC c (C.mg▸N.p) (wZ b.p yD hs) hs)⟩
end
section
variable(hi:Gz X "isinstance")(hg:Gz X x)(hs:aC [e,.Name x p2] X.b1=[(δ,eval e X.b1),(δ,eval (.Name x p2) X.b1)])(hs':S1 X (.Name x p2))
include hi hg hs hs'
theorem aaH [Q:KtC x T][C:Cz X B k][N:Nb B "isinstance"][d:Nb B x](h:ZE X B e f)(hd:Nz x):ZE X B (.Call (.Name "isinstance" p) [e,.Name x p2] [] pos) (c1 (v5 (wL T)) f):=by
 simp only[aW,bQ,fq]at hd;refine⟨Pt (c:=.b T) (BA (KD (.b T) (Q.p.1 X B.G) Ti C.K) hi (C.mg▸N.p) l4 (xi h.p (xi (Vz (v:=.ty T) hg (C.mg▸d.p) Q.p.2 O hd.1 hd.2) zP ?_) ?_) (by decide) (by decide) ?_ ?_)⟩
 .exact hs'
 .rw[hs,hs']
 .rw[hs,hs']
 .rw[hs'];rfl
theorem aaI [Q:Ic B x t][C:Cz X B k][N:Nb B "isinstance"](b:ZE X B e f)(hd:Dz x):ZE X B (.Call (.Name "isinstance" p) [e,.Name x p2] [] pos) (c1 (v5 t) f):=by
 obtain⟨c,d,h⟩:=Q.p;refine⟨Pt (c:=.c c) (BA (Oq d C.K) hi (C.mg▸N.p) l4 (xi b.p (xi (HY (v:=.ref (B.G.ca c)) hg (C.mg▸h) O hd) zP ?_) ?_) (by decide) (by decide) ?_ ?_)⟩
 .exact hs'
 .rw[hs,hs']
 .rw[hs,hs']
 .rw[hs'];rfl
end
section
variable(hb:Az X o m)(hl:Ez apos pos)(hs:S1 X e)
include hb hl hs
theorem bmI{id:String}[C:Cz X B k](h:mW T)(slot:Slot T m id)(hty:typeOf (.builtin id)=pure (.type "method_descriptor"))(c:MtR X id r)(d:PE X o to)(b:PA X [e] t):PE X (.Call (.Attribute o m apos) [e] [] pos) (tBM B.G.K T r to t):=
 SE B.G.K h slot hty c d b hb (by rw[hs];rfl) hl hs O C.K
end
section
variable(h:wh X i x=γ)(hb:Az X (.Name x p) m)(hl:Ez apos pos)(hs:S1 X e)
include h hb hl hs
theorem aaJ [C:Cz X B k](c:m="append")(b:ZE X B e f):ZE X B (.Call (.Attribute (.Name x p) m apos) [e] [] pos) (AQ i f):=by subst c;exact⟨Q1 (bmI hb hl hs jH lg ph F6 (S3 h) (wZ b.p yD hs))⟩
theorem aaK [C:Cz X B k](c:m="extend")(b:ZE X B e f):ZE X B (.Call (.Attribute (.Name x p) m apos) [e] [] pos) (Dg i f):=by subst c;exact⟨Ot (bmI hb hl hs jH jB pj (C.K▸Os) (S3 h) (xi b.p zP hs))⟩
end
def aaL [C:Cz X B k](h:ZE X B e f)(l:ZE X B e' f')(c:Az X e "get")(d:Ez apos pos)(b:S1 X e'):ZE X B (.Call (.Attribute e "get" apos) [e'] [] pos) (c2 CG f f'):=⟨Tr (MM C.r) h.p l.p ⟨c,by rw[b];rfl,d,by rw[b];rfl⟩⟩
def aaM [C:Cz X B k][Q:Af B c0 l](d:l.contains m=γ)(h:wh X i x=γ)(c:ZE X B e f)(b:Wz X e (.Attribute (.Name x p) m apos) pos):ZS X B (.Assign [.Attribute (.Name x p) m apos] e pos) (vU c0 i m f):=⟨Wt (YV (S3 h) c.p b) (by obtain⟨i,_,e⟩:=kX (kN.1 d);exact C.K▸Q.p.at i (cj.2 ⟨_,e⟩))⟩
def aaN [C:Cz X B k](h:wh X i x=γ)(b:ZE X B e' f')(d:ZE X B e f)(c:Wz X e (.Subscript (.Name x p) e' apos) pos):ZS X B (.Assign [.Subscript (.Name x p) e' apos] e pos) (y9 i f' f):=⟨Tu (VY (MM C.r) (S3 h) b.p d.p c)⟩
def aaO [Q:Ij B n](h:ZE X B e f):ZE X B e (Ea n f):=⟨WY Q.p h.p⟩
def aaP{lo:Option Expr}{b:FO}[C:Cz X B k](d:ZE X B e f)(q:ZO X B lo b)(h:ZO X B l c):ZN X B (.Subscript e (.Slice lo l J p) pos) (Et f b c):=⟨Oo (MI (sl_X C.K) d.p q.p h.p)⟩
def aaQ:ZK X (Z (.Constant (.int y) j pos)) (Z y):=⟨Ta⟩
def aaR:ZK X J J:=⟨ac6⟩
def aaS [C:Cz X B k](h:ZE X B e f):ZI X B tg e (iL f):=⟨M4 (MQ B.G.K h.p C.K)⟩
def aaT [C:Cz X B k](h:ZE X B e f):ZI X B tg e (iT f):=⟨Wx (V3 B.G.K h.p C.K)⟩
def aaU(h:ZE X B e f):ZI X B tg e (iD f):=⟨TJ (WW h.p)⟩
def aaV(h:ZE X B e f):ZI X B tg e (iS f):=⟨WO (Zb h.p)⟩
section
variable{gg:FG}{gs:bp->aQ->Option aQ}
def W9:ZH X B [] n Kz:=⟨Wh VC⟩
def Xa(b:ZG X B e n gg)(c:ZH X B es n gs)(d:(cc (e::es) X.b1).map (·.2)=assign e X.b1::(cc es X.b1).map (·.2)):ZH X B (e::es) n (yJ gg gs):=⟨SO (RY b.p c.p d)⟩
def Xb [C:Cz X B k](h:ZH X B es n gs)(b:(cc es X.b1).length=l)(d:(cc es X.b1).findIdx? (·.1)=J):ZG X B (.Tuple es q pos) n (gT gs l):=⟨Wi (V4 B.G.K C.c h.p b d C.K)⟩
end
def tgN:Expr->aF
 |.Name x _=>[x]
 |.Tuple es _ _=>es.filterMap λe=>match e with|.Name x _=>Z x|_=>J
 |_=>[]
def cpN(X:Cx)(tg:Expr)(ey:List Nat):aF:=tgN tg++ey.map λj=>X.N.getD j ""
instance inCz [C:Cz X B k]{d:aF}{q:cK}{h:List (Str×Addr)}{A:Addr}{l:List Addr}{s:ae}{H:Hp}:Cz (w9 X d q h A l s H) B k:=⟨C.P,C.w,C.K,C.mg,C.b,C.c,C.r⟩
def cpOk(X:Cx)(N':aF)(sc:cK)(n:Nat)(ey:List Nat):Bool:=decide ey.Nodup&&decide (sc.kind=.function)&&(sc.names.all λy=>y.2 != .cell)&&(sc.names.all λy=>y.2 != .local||sc.names.lookup y.1==Z .local)&&(sc.names.all λy=>y.2 != .free||(X.b1.kindOf y.1==Z .cell||X.b1.kindOf y.1==Z .free))&&decide (N'.length=n+ey.length)&&decide ((N'.drop n).map Z=ey.map λj=>X.N[j]?)&&((N'.drop n).all λx=>sc.names.lookup x==Z .free)
section
variable{sc:cK}{ey:List Nat}{ifs:List Expr}{gg:FG}{ft:FT}{s:FA}
 (h0:cpOk X (cpN X tg ey) sc n ey=γ) (hs:Fz X it) (hi:ZI X B tg it s)
 (h1:∀(cl:List (Str×Addr)) (A:Addr) (fp:List Addr) (s:ae) (H:Hp),ZG (w9 X (cpN X tg ey) sc cl A fp s H) B tg n gg)
 (h2:∀(cl:List (Str×Addr)) (A:Addr) (fp:List Addr) (s:ae) (H:Hp),ZF (w9 X (cpN X tg ey) sc cl A fp s H) B ifs ft)
 (h3:∀(cl:List (Str×Addr)) (A:Addr) (fp:List Addr) (s:ae) (H:Hp),ZE (w9 X (cpN X tg ey) sc cl A fp s H) B e f)
include h0 hs hi h1 h2 h3
theorem aaX [C:Cz X B k]:ZN X B (.ListComp e [⟨tg,it,ifs,0⟩] sc pos) (uX n ey s gg ft f):=by unfold cpOk at h0;simp only[aW,bQ]at h0;obtain⟨⟨⟨⟨⟨⟨⟨a1,b⟩,d⟩,h⟩,l⟩,q⟩,r⟩,t⟩:=h0;exact⟨SX a1 (V2 (N':=cpN X tg ey) C.c hi.p (λcl A fp s H=>⟨(h1 cl A fp s H).p,(h2 cl A fp s H).p,(h3 cl A fp s H).p⟩) b d h l q r t λx=>congrFun hs x)⟩
theorem cpW [C:Cz X B k](h:y? X i x=γ)(F:dG (.ListComp e [⟨tg,it,ifs,0⟩] sc pos) (Z (.Name x p)) apos.line X.b1=pure γ):PS X (.Assign [.Name x p] (.ListComp e [⟨tg,it,ifs,0⟩] sc pos) apos) (Ep (GQ (μ B.G s) (tFG B.G n gg) (n9 B.G ft) (tF B.G f) n ey) (AU i))/\ey.Nodup:=by unfold cpOk at h0;simp only[aW,bQ]at h0;obtain⟨⟨⟨⟨⟨⟨⟨a1,b⟩,d⟩,l⟩,q⟩,r⟩,t⟩,u⟩:=h0;obtain⟨w,y,z,E⟩:=LU h;exact⟨WL (N':=cpN X tg ey) C.c w y z hi.p (λcl A fp s H=>⟨(h1 cl A fp s H).p,(h2 cl A fp s H).p,(h3 cl A fp s H).p⟩) b d l q r t u (λx=>congrFun hs x) F E,a1⟩
theorem aaY [C:Cz X B k](h:y? X i x=γ)(b:dG (.ListComp e [⟨tg,it,ifs,0⟩] sc pos) (Z (.Name x p)) apos.line X.b1=pure γ):ZS X B (.Assign [.Name x p] (.ListComp e [⟨tg,it,ifs,0⟩] sc pos) apos) (vc i (cL (uX n ey s gg ft f))):=by have z:=cpW (k:=k) h0 hs hi h1 h2 h3 h b;exact⟨Tn z.2 z.1⟩
theorem aaZ [C:Cz X B k](h:y? X i x=γ)(b:dG (.ListComp e [⟨tg,it,ifs,0⟩] sc pos) (Z (.Name x p)) apos.line X.b1=pure γ):ZS X B (.Assign [.Name x p] (.ListComp e [⟨tg,it,ifs,0⟩] sc pos) apos) (yw i (uX n ey s gg ft f)):=by have z:=cpW (k:=k) h0 hs hi h1 h2 h3 h b;exact⟨Rf z.2 z.1⟩
end
section
variable{st:Stmt}{sts:List Stmt}{fs fs':FS}{ft:FT}{a':FA}{z1:Nat}
def adi(b:ZE X B e f)(c:ZA X B es a)(d:Sz X e es):ZA X B (e::es) (ax f a):=⟨wZ b.p c.p d⟩
def adj:ZA X B [] vB:=⟨yD⟩
def aa0(h:wh X i x=γ):ZV X (.Name x p) i:=⟨S3 h⟩
def aa1(h:ZN X B e a):ZE X B e (cL a):=⟨Zn h.p⟩
def adk:ZE X B (.Constant (.str y) j pos) (cC (.str y)):=⟨Zf⟩
def adl:ZE X B (.Constant (.int y) j pos) (cC (.int y)):=⟨Ze⟩
def adm:ZE X B (.Constant (.bool y) j pos) (cC (.I y)):=⟨acO⟩
def adn:ZE X B (.Constant .none j pos) (cC .E):=⟨Zg⟩
def PN(b:ZS X B st fs)(c:ZB X B sts fs'):ZB X B (st::sts) (uO fs fs'):=⟨SK b.p c.p⟩
def ado(b:ZS X B st fs):ZB X B [st] fs:=⟨Wf b.p⟩
def adp:ZB X B [] uZ:=⟨We⟩
def aa2(h:ZE X B e f):ZS X B (.Return (Z e) pos) (uT f):=⟨Wg h.p⟩
def aa3(h:ZN X B e a):ZS X B (.Return (Z e) pos) (wJ a):=⟨SL h.p⟩
def aa4(h:ZE X B e f)(b:dG e J pos.line X.b1=pure δ):ZS X B (.Expr e pos) (vG f):=⟨SM h.p b⟩
def aa5(h:ZT X B e ft)(b:ZB X B sts fs)(c:ZB X B sts' fs'):ZS X B (.If e sts sts' pos) (fh ft fs fs'):=⟨Zp h.p b.p c.p⟩
def aa6(h:ZA X B es a):ZN X B (.List es pos) (vp a):=⟨Wc h.p⟩
def aa7(h:ZA X B es a):ZE X B (.Tuple es z1 pos) (vC a):=⟨Zm h.p⟩
def aa8(b:ZE X B e f)(c:ZE X B e' f'):ZN X B (.BinOp e .Add e' pos) (xq f f'):=⟨WE b.p c.p⟩
def aa9 [C:Cz X B k](b:ZE X B e f)(c:ZE X B e' f'):ZE X B (.BinOp e .Add e' pos) (GV f f'):=⟨WQ b.p c.p C.K⟩
def aba(b:ZE X B e f)(c:ZE X B (.BoolOp .And (e'::es) pos) f'):ZE X B (.BoolOp .And (e::e'::es) pos) (v7 f f'):=⟨Zk b.p c.p⟩
def abb(b:ZE X B e f)(c:ZE X B (.BoolOp .Or (e'::es) pos) f'):ZE X B (.BoolOp .Or (e::e'::es) pos) (S? f f'):=⟨acS b.p c.p⟩
def abc{c}(b:ZE X B e f):ZE X B (.BoolOp c [e] pos) f:=⟨Zj b.p⟩
def abd(b:ZE X B e f):ZE X B (.UnaryOp .Not e pos) (D5 f):=⟨Zl b.p⟩
def abe(b:ZT X B e ft):ZT X B (.UnaryOp .Not e pos) (wg ft):=⟨V9 b.p⟩
def abf(h:ZT X B o ft)(b:ZE X B e f)(c:ZE X B e' f'):ZE X B (.IfExp o e e' pos) (yr ft f f'):=⟨acT h.p b.p c.p⟩
def adq(h:ZT X B e ft):ZF X B [e] ft:=⟨V1 h.p⟩
def ads:ZF X B [] vN:=⟨SY⟩
def abg(h:ZE X B e f):ZE X B e (AR f):=⟨ZX h.p⟩
def abh(h:ZT X B e ft):ZT X B e (z5 ft):=⟨WG h.p⟩
def abi(h:ZE X B e f):ZO X B (Z e) (X1 f):=⟨Z3 h.p⟩
def abj:ZO X B J oNo:=⟨Z2⟩
def abk(c:ZT X B e ft)(d:ZW X B (.BoolOp .Or (e'::es) pos) b):ZW X B (.BoolOp .Or (e::e'::es) pos) (ya ft b):=⟨SI c.p d.p⟩
def abl(h:ZT X B e ft):ZW X B (.BoolOp .Or [e] pos) ft:=⟨Wa h.p⟩
def abm(h:ZT X B e ft):ZW X B (.BoolOp .And [e] pos) ft:=⟨SG h.p⟩
end
def abn [C:Cz X B k](r:jX (model X.prog X.w) X.A X.b1 X.xe)(u:X.N.length=n)(q:ZI X B tg it s)(l:ZG X B tg n d)(h:ZB X B body b)(t:Fz X it):ZS X B (.For tg it body [] pos) (yx s d b):=⟨WA (R9 r C.c q.p l.p h.p λx=>congrFun t x)⟩
def abo(l:jX (model X.prog X.w) X.A X.b1 X.xe)(h:ZT X B e c)(d:ZB X B body b):ZS X B (.While e body [] pos) (whL c b n):=⟨Q3 n (R7 l h.p d.p)⟩
end
end L4
namespace L4
open PySem PySem.Spec PyProof.Rows L2 L3
open PySem.W (fnOf)
def S'(st:Stmt):aF:=(vt st).names.filterMap λy=>match y.2 with|.local=>Z y.1|.cell=>Z y.1|_=>J
def psO(st:Stmt):aF:=(y4 st).args.map (·.arg)
def okO(N a:aF)(st:Stmt)(b n:Nat):Bool:=decide ((vt st).kind=.function)&&(vt st).isCoroutine==δ&&(vt st).isGenerator==δ&&decide N.Nodup&&decide (N.take a.length=a)&&(a.all λx=>match (vt st).names.lookup x with|some .local=>γ|some .cell=>γ|_=>δ)&&((vt st).names.all λy=>y.2 != .free)&&decide (a.length=b)&&decide (N.length=n)
def xo{st:Stmt}(h:okO N ps st np n=γ):xJ N ps (vt st)/\ps.length=np/\N.length=n:=by
 unfold okO at h;simp only[aW,bQ,beq_iff_eq]at h;obtain⟨⟨⟨⟨⟨⟨⟨⟨a,b⟩,c⟩,d⟩,f⟩,i⟩,j⟩,l⟩,m⟩:=h;refine⟨⟨a,b,c,d,f,λx o=>?_,λy p e=>?_⟩,l,m⟩
 .have z:=aS.1 i x o;split at z
  .rename_i e;exact .inl e
  .rename_i e;exact .inr e
  .cases z
 .have z:=aS.1 j y p;rw[e]at z;exact aq z (by decide)
section
variable{B:Bz}[Y:Yb B]{x m qual:Str}{st s0:Stmt}{l:List Stmt}{k c np n:Nat}{b:FS}{p:Str}{ps xs:aF}{N:aF}
abbrev π(B:Bz)(N:aF)(qual:Str)(st:Stmt)(l:List Stmt)(k:Nat)(b:FS):Prop:=∀{f:Addr} {cdv:ab} {A:aI} {da:List Env} {s:ae} {H:Hp} {E:XK} [Cz (GT B.P B.w B.G.K B.mg B.b? N qual st f cdv A da s H E) B k],ZB (GT B.P B.w B.G.K B.mg B.b? N qual st f cdv A da s H E) B l b
omit Y in
def π.ok(h:π B N qual st l k b)(a:vV st=l):Bdy B.P B.w B.G.K B.mg B.b? N qual st k (mq B.G b):=λf cdv A da s H E d=>by subst a;exact(@h f cdv A da s H E ⟨O,O,O,O,O,O,d⟩).p
def f?(d:g=fb np n b)(q:GD B.G.K x st)(e:vV st=s0::l)(body:π B (S' st) x st (s0::l) k b)(S:okO (S' st) (psO st) st np n=γ:=by kernel_rfl)(a:θ x x st (psO st):=by (repeat intro _);rfl):Df B (k+1) x (fu B.G g):=
 ⟨_,gF d Y.y q (xo S).1 (body.ok e) (xo S).2.1 (xo S).2.2 a⟩
def gF5(N:aF)(d:g=fb np n b)(q:GD B.G.K x st)(e:vV st=s0::l)(body:π B N x st (s0::l) k b)(S:okO N (psO st) st np n=γ:=by kernel_rfl)(a:θ x x st (psO st):=by (repeat intro _);rfl):Df B (k+1) x (fu B.G g):=
 ⟨_,gF d Y.y q (xo S).1 (body.ok e) (xo S).2.1 (xo S).2.2 a⟩
def T3(d:g=yq np n b)(q:GD B.G.K x st)(e:vV st=s0::l)(body:π B (S' st) x st (s0::l) k b)(S:okO (S' st) (psO st) st np n=γ:=by kernel_rfl)(a:θ x x st (psO st):=by (repeat intro _);rfl):Df B (k+1) x (ub B.G g):=
 ⟨_,gN' d Y.y q (xo S).1 (body.ok e) (xo S).2.1 (xo S).2.2 a⟩
def gM4(d:g=t? np n b)(q:GD B.G.K x st)(e:vV st=s0::l)(f:psO st=p::ps)(body:π B (S' st) x st (s0::l) k b)(S:okO (S' st) (p::ps) st (np+1) n=γ:=by kernel_rfl)(a:θ x x st (p::ps):=by (repeat intro _);rfl):Df B (k+1) x (u7 B.G g):=
 ⟨_,gM d Y.y q (xo S).1 (body.ok e) (iU (xo S).2.1) (xo S).2.2 a⟩
theorem rp(C:CF B.G.K (B.G.ca c) xs)(h:g=fb np n b)(q:GM B.G.K (B.G.ca c) m qual st)(j:vV st=s0::l)(body:π B (S' st) qual st (s0::l) k b)(S:okO (S' st) (psO st) st np n=γ:=by kernel_rfl)(d:θ m qual st (psO st):=by (repeat intro _);rfl):B4 B.G B.P B.w B.mg B.b? (k+1) m c g:=by obtain⟨f,e,a,i,F⟩:=q;exact⟨f,e,_,C.ci.cl,⟨a,i,F.kp⟩,d.ok F,Te h (xo S).2.1 (xo S).2.2 F (xo S).1 (body.ok j f)⟩
def gI4(C:CF B.G.K (B.G.ca c) xs)(a:i7 B.G.K bf x=Z (Z (.ref (B.G.ca c))))(e:g=v? c np n b)(q:GM B.G.K (B.G.ca c) "__init__" qual st)(f:vV st=s0::l)(h:psO st=p::ps)(body:π B (S' st) qual st (s0::l) k b)(S:okO (S' st) (p::ps) st (np+1) n=γ:=by kernel_rfl)(d:θ "__init__" qual st (p::ps):=by (repeat intro _);rfl):Kf B (k+1) x c g []:=
 ⟨⟨_,gI e Y.y C a q (xo S).1 (body.ok f) (iU (xo S).2.1) (xo S).2.2 d⟩,O⟩
def gJ4{dds:bp}(C:CF B.G.K (B.G.ca c) xs)(a:i7 B.G.K bf x=Z (Z (.ref (B.G.ca c))))(t:g=v? c np n b)(q:GJ B.G.K (B.G.ca c) qual st (dds.map vD))(u:vV st=s0::l)(z:psO st=p::ps)(body:π B (S' st) qual st (s0::l) k b)(j:Nat)(S:okO (S' st) (p::ps) st (np+1) n=γ:=by kernel_rfl)(e:dds.all yb=γ:=by rfl)
  (o:OD (dds.map vD).length λdl=>OD ((p::ps).length - ((dds.map vD).drop j).length) λf=>∀(T:Addr) (kV doc w:ab) (i:Option Addr) (cdv r:ab),∃k,bindArgs (fnOf "__init__" qual (y4 st) (vV st) (vt st) (.ref T) kV doc w i cdv r) ⟨f,[]⟩=seqItems? (.ref T)>>=k/\k (Z dl.toArray)=pure ((p::ps).zip (f++dl.drop j)):=by (repeat intro _);exact⟨_,O,O⟩):Kf B (k+1) x c g (dds.drop j):=
 ⟨⟨_,by rw[mm];exact gJ t Y.y C a q (xo S).1 (body.ok u) j (iU (xo S).2.1) (xo S).2.2 o⟩,by
  rw[aS]at e ⊢;exact λd h=>e d (oO h)⟩
def Dk(n:Nat)(a:Nat->Addr):∀k,k<n->((aU n).map a).getD k 0=a k:=λk h=>by rw[cX,bA,oX h];rfl
def injR{n:Nat}{a:Nat->Addr}(h:decide ((aU n).map a).Nodup=γ):∀j k,j<n->k<n->a j=a k->j=k:=λj k d f e=>by rw[<-Dk n a j d,<- Dk n a k f]at e;exact aad (bB h) (by simpa using d) (by simpa using f) e
def B8:Nat->(Nat->Prop)->Prop
 |0,_=>True
 |n+1,Q=>Q 0/\B8 n λk=>Q (k+1)
theorem B8.at:∀{n:Nat} {Q:Nat->Prop},B8 n Q->∀k,k<n->Q k
 |_+1,_,h,0,_=>h.1
 |_+1,_,h,k+1,a=>B8.at (Q:=λk=>_) h.2 k (Nat.lt_of_succ_lt_succ a)
end
section
variable{X:Cx}{B:Bz}{k j i n:Nat}{x y:Str}{e e' tg:Expr}{es:List Expr}{p p2 p3 pos apos:Pos}{f f':FE}{a:FA}{st:Stmt}{sts:List Stmt}{fs fs':FS}{ft:FT}
def abp [C:Cz X B k](m:ZE X B e f)(o:ZE X B e' f')(q:ZE X B b d)(h:Az X e "get")(l:Ez apos pos)(c:aC [e',b] X.b1=[(δ,eval e' X.b1),(δ,eval b X.b1)]):ZE X B (.Call (.Attribute e "get" apos) [e',b] [] pos) (KF f f' d):=⟨Tv (MM C.r) m.p o.p q.p ⟨h,by rw[c];rfl,l,by rw[c];rfl⟩⟩
def abq(o:X.N.length=n)(d:ZE X B e f)(h:ZG X B tg n b)(l:swapsWithSole [tg] e pos.line X.b1=pure δ)(m:swappedStores [tg] e X.b1=pure J)(c:(cc [tg] X.b1).map (·.2)=[assign tg X.b1]):ZS X B (.Assign [tg] e pos) (EY f b):=⟨Wj (RZ d.p h.p l m c)⟩
def abr [C:Cz X B k][N:Nb B "int"](d:Gz X "int")(b:S1 X e)(c:ZE X B e f):ZE X B (.Call (.Name "int" p) [e] [] pos) (c1 IS f):=⟨S6 ZR (ctI d (by decide) b QH ra (wZ c.p yD b))⟩
end
end L4
namespace L4
open PySem PySem.Spec PyProof.Rows L2 L3
def LV(f:FE)(lo c:Option Int):FE:=λd=>match f d with
 |some (.du a,b)=>if HT.j0 a.length 0 lo=0/\HT.j0 a.length a.length c=a.length then J else Z (.du (rl a lo c),b)
 |_=>J
section
variable{X:Cx}{G:Bg}
def Rw{lo:Option Int}(h:PE X e (tSl (YX G.K) (tF G f) (tO lo) (tO t))):PE X e (tF G (LV f lo t)):=PE.d? h λC H Q q=>by
 obtain⟨F,w,j,A,x,R,e,k⟩:=q;unfold LV at e;split at e
 .rename_i B y m;split at e
  .cases e
  .rename_i i;cases e;refine⟨F,w,j,_,_,R,m,λv z l s b r=>?_⟩;unfold cb at r;obtain⟨a,u,rfl,o,d⟩:=r;rw[uV d]at i;exact⟨a,u,O,ij.mono b.sub o,i,λp c=>k _ _ _ (s.t (vw (b.f5 c) _)) (b.P? c _) (EV (ij.of vb) (uQ.mono (vw (b.f5 c) _) _ _ (M8 d)))⟩
 .cases e
def sl_T(hK:X.K=G.K:=by rfl):SlR X (YX G.K):=by rw[<-hK];exact YY
end
section
variable{X:Cx}{B:Bz}{k:Nat}{e:Expr}{f:FE}{p pos:Pos}
def abt{lo:Option Expr}[C:Cz X B k](a:ZE X B e f)(d:ZK X lo l)(b:ZK X c h):ZE X B (.Subscript e (.Slice lo c J p) pos) (LV f l h):=⟨Rw (MI (sl_T C.K) a.p d.p b.p)⟩
end
theorem Nt{f:Type}[DecidableEq f]:∀{l L:List f},l.Nodup->(∀x∈l,x∈L)->l.length<=L.length
 |[],L,_,_=>cq _
 |a::l,L,i,h=>by have c:=h a bb;have b:=dB.1 i;have:=Nt (l:=l) (L:=L.erase a) b.2 λx d=>(oP (λe:x=a=>b.1 (by rw[<-e];exact d))).2 (h x (ba _ d));rw[oh c]at this;have:=jw c;rw[aN];omega
structure Tb(t:bC)(m n:Nat):Prop where
 mask:t.mask=m
 dm:t.dummies=#[]
 pl:t.place.size=n
section
variable{t:bC}{m n:Nat}
theorem Tb.slot(T:Tb t m n)(j:Nat):(∃i,t.slot j=.live i/\t.place[i]?=Z j)\/t.slot j=.empty:=by
 unfold SetTable.slot;by_cases h:(t.place[dU t.place j]?==Z j)=γ
 .left;simp only[h,if_true];exact⟨_,O,gm h⟩
 .right;rw[pZ]at h;rw[T.dm];simp[h,qP]
def Tb.free(T:Tb t m n)(h:n<=m):∃r,r<=m/\t.slot r=.empty:=by
 apply oe;intro no;have:(aU (m+1)).length<=t.place.toList.length:=Nt p6 λr a=>by
  rcases T.slot r with ⟨i,_,e⟩|e
  .rw[<-ix]at e;exact cn e
  .exact aq ⟨r,by have:=bL.1 a;omega,e⟩ no
 rw[cH,bO,T.pl]at this;omega
def rr(t:bC):Nat->fH->Prop
 |0,_=>False
 |f+1,p=>t.slot p.j=.empty\/rr t f (t.advance p)
theorem rr.mono:∀{f a:Nat} {p:fH},rr t f p->f<=a->rr t a p
 |0,_,_,h,_=>h.elim
 |f+1,0,_,_,h=>aq h (by omega)
 |f+1,a+1,p,h,b=>h.imp id λh=>h.mono (by omega)
def rs(m i q:Nat):fH:=⟨i,fG m i - i,i,q,J⟩
def abu(m i:Nat):fG m i - i<=9:=by unfold fG;split<;>omega
theorem rr.run(T:Tb t m n)(h:rr t f (rs m ((i * 5+1+q / 32) % (m+1)) (q / 32))):∀(k j:Nat),rr t (f+k+1) ⟨j,k,i,q,J⟩
 |0,j=>.inr (by
   have e:t.advance ⟨j,0,i,q,J⟩=rs m ((i * 5+1+q / 32) % (m+1)) (q / 32):=by unfold lI SetTable.leap;rw[T.mask];rfl
   rw[e];exact h)
 |k+1,j=>.inr (by
   have e:t.advance ⟨j,k+1,i,q,J⟩=⟨j+1,k,i,q,J⟩:=by unfold lI;rw[ak (mK k)];rfl
   rw[e];exact rr.run T h k (j+1))
def rr.leap(T:Tb t m n)(h:rr t f (rs m ((i * 5+1+q / 32) % (m+1)) (q / 32))):rr t (f+10) (rs m i q):=
 (rr.run T h (fG m i - i) i).mono (by have:=abu m i;omega)
def orb(m:Nat):Nat->Nat->List Nat
 |0,_=>[]
 |k+1,i=>i::orb m k ((i * 5+1) % (m+1))
theorem rr.orb(T:Tb t m n)(a:t.slot r=.empty):∀(k i:Nat),r∈orb m k i->rr t (10 * k) (rs m i 0)
 |0,i,h=>by cases h
 |k+1,i,h=>by
  rcases aL.1 h with e|h
  .exact rr.mono (f:=1) (.inl (by rw[e]at a;exact a)) (by omega)
  .have:=rr.leap T (q:=0) (i:=i) (rr.orb T a k _ h);exact this.mono (by omega)
def PQ(a:m=7\/m=31)(b:i<=m)(c:r<=m):r∈orb m (m+1) i:=by
 have h:∀m∈[7,31],((aU (m+1)).all λi=>(aU (m+1)).all λr=>(orb m (m+1) i).contains r)=γ:=by decide +kernel
 have:=aS.1 (aS.1 (h m (by rcases a with rfl|rfl<;>simp)) i (bL.2 (by omega))) r (bL.2 (by omega));exact kN.1 this
theorem rr.all(T:Tb t m n)(c:m=7\/m=31)(d:n<=m):∀(k i q:Nat),i<=m->q<32 ^ k->rr t (10 * (k+(m+1))) (rs m i q)
 |0,i,q,b,a=>by
  obtain⟨r,f,e⟩:=T.free d;have h:q=0:=by simpa using a
  rw[h,mx];exact rr.orb T e _ _ (PQ c b f)
 |k+1,i,q,b,a=>by have:=rr.leap T (rr.all T c d k ((i * 5+1+q / 32) % (m+1)) (q / 32) (pG (gj _ (mK m))) (by rw[qQ]at a;omega));exact this.mono (by omega)
def rr.start(T:Tb t m n)(b:m=7\/m=31)(c:n<=m)(h:Int):rr t (10 * (m+14)) (t.probeStart h):=by
 have a:cM h<32 ^ 13:=by unfold cM;omega
 have:=rr.all T b c 13 (cM h % (m+1)) (cM h) (pG (gj _ (mK m))) a;have e:t.probeStart h=rs m (cM h % (m+1)) (cM h):=by unfold SetTable.probeStart;rw[T.mask];rfl
 rw[e];exact this.mono (by omega)
def Ub{p:fH}(h:p.dummy=J):(t.advance p).dummy=J:=by unfold lI;split<;>exact h
theorem Uc(T:Tb t m n)(F:Nat->Int)(h:Int):∀(f:Nat) (p:fH),p.dummy=J->rr t f p->∀g,f<=g->(∃j,t.slot j=.empty/\iI t F h g p=Z (.empty j J))\/
  ∃j i next c,c<f/\t.slot j=.live i/\t.place[i]?=Z j/\F i=h/\iI t F h g p=Z (.candidate j i next)/\next.dummy=J/\rr t c next
 |0,p,_,a,g,_=>a.elim
 |f+1,p,hd,a,0,o=>aq o (by omega)
 |f+1,p,hd,a,g+1,o=>by
  unfold iI;rcases T.slot p.j with ⟨i,b,q⟩|b
  .have a:rr t f (t.advance p):=a.resolve_left λe=>by rw[b]at e;cases e
   rw[b];dsimp only;by_cases d:F i=h
   .right;exact⟨p.j,i,t.advance p,f,dA f,b,q,d,by rw[ak (by rw[d];simp)],Ub hd,a⟩
   .rw[ao (by simpa using d)];rcases Uc T F h f (t.advance p) (Ub hd) a g (by omega)with l|⟨j,w,x,c,l,r,u⟩
    .exact .inl l
    .exact .inr ⟨j,w,x,c,by omega,r,u⟩
  .left;rw[b];exact⟨p.j,b,by rw[hd]⟩
end
def abv(e:∀i,F i=F' i)(g:Nat)(p:fH):iI t F h g p=iI t F' h g p:=by obtain rfl:F=F':=funext e;rfl
section
variable{prog:aH}{w:az}{A:aI}{E:ab->ae->Prop}{s:ae}
def Fh(b:∀v∈l,∃k a,v=.ref a/\TK prog w s.heap k a)(f:TK prog w s.heap j i)(h:Q δ s):ai (model prog w) A (searchCouldBeSeen (.ref i) l) Q E s:=by
 unfold searchCouldBeSeen;refine af ?_;show ai _ _ (forIn l _ _) _ _ s;refine lE _ (λer r c=>r=(J,())/\c=s/\∀v∈er,∃k a,v=.ref a/\TK prog w s.heap k a) _ ?_ ?_ _ _ ⟨O,O,b⟩
 .rintro v er r c ⟨rfl,rfl,hall⟩;obtain⟨k,a1,rfl,b⟩:=hall v bb;have e:∀v∈er,∃k a,v=Value.ref a/\TK prog w c.heap k a:=λu d=>hall u (ba _ d);dsimp only;split
  .exact ar ⟨O,O,e⟩
  .refine af (oH f ?_);refine af (oH b ?_);refine af (PB f ?_);refine af (PB b ?_);exact ar ⟨O,O,e⟩
 .rintro r c ⟨rfl,rfl,_⟩;exact ar h
structure Els(prog:aH)(w:az)(h:Heap)(L:List (List fc×Addr))(es:Array (Int×ab)):Prop where
 tk:∀q∈L,TK prog w h q.1 q.2
 p:(es.toList.map bH).Perm (L.map λq=>Value.ref q.2)
variable{L:List (List fc×Addr)}{es:Array (Int×ab)}{t:bC}{m n ep:Nat}{S a2:Addr}{k2:List fc}{o:Obj}{h:Int}
theorem Nu(G:A.units<cLine)(T:Tb t m n)(F:m=7\/m=31)(c:t.fits es.size=γ)(l:Els prog w s.heap L es)(B:TK prog w s.heap k2 a2)(H:k2∉L.map cQ)
  (z:s.heap.get? S=Z o) (hd:o.data=.set es ep t) (hQ:∀j,t.slot j=.empty->Q (.free j δ) s):∀(fuel f:Nat) (st:Option fH),f<fuel->f<=10 * gS m->(st.getD (t.probeStart h)).dummy=J->rr t f (st.getD (t.probeStart h))->
   ai (model prog w) A (setSearchFrom S (.ref a2) h γ fuel st) Q E s
 |0,f,st,C,_,_,_=>aq C (by omega)
 |fuel+1,f,st,C,hg,hdm,b=>by
  have sz:es.size=n:=by unfold iO at c;rw[aW,beq_iff_eq,T.pl]at c;exact c.1.symm
  unfold setSearchFrom;refine af (df z hd c ?_);dsimp only;rw[ao (by unfold SetTable.gaveWay;rw[T.mask];rcases F with rfl|rfl<;>decide)];unfold SetTable.probe;rw[abv (F':=λi=>(es[i]?.map (·.1)).getD 0),T.mask]
  rotate_left
  .intro i;rfl
  rcases Uc T (λi=>(es[i]?.map (·.1)).getD 0) h f _ hdm b (10 * gS m) hg with ⟨j,M,u⟩|⟨j,i,I,N,h1,R,U,h4,W,X,Y⟩
  .rw[u];exact ar (hQ j M)
  .rw[W];dsimp only;have hi:i<es.size:=by rw[sz,<- T.pl];exact(n4.1 U).1
   obtain⟨⟨P,y⟩,d⟩:∃e,es[i]?=Z e:=⟨es[i],jo hi⟩;have my:y∈es.toList.map bH:=au.2 ⟨(P,y),by rw[<-ix]at d;exact cn d,O⟩;obtain⟨q,r,rfl⟩:=au.1 (l.p.mem_iff.1 my);have t1:=l.tk q r;have nk:q.1≠k2:=λe=>H (au.2 ⟨q,r,e⟩);have si:t.sameMemory t.moves m=Z γ:=by unfold SetTable.sameMemory;simp
   have er:ai (model prog w) A (setSearchFrom S (.ref a2) h γ fuel (Z I)) Q E s:=Nu G T F c l B H z hd hQ fuel N (Z I) (by omega) (by omega) X Y;have sb:∀v∈dH (λx:Int×ab=>x.snd) (Array.filter (λx=>x.fst==h) es).toList,∃k a,v=Value.ref a/\TK prog w s.heap k a:=λv hv=>by
    obtain⟨e,b,rfl⟩:=au.1 hv;have b:e∈es.toList:=by rw[Array.toList_filter]at b;exact(aY.1 b).1
    obtain⟨q,r,u⟩:=au.1 (l.p.mem_iff.1 (au.2 ⟨e,b,O⟩));exact⟨q.1,q.2,u.symm,l.tk q r⟩
   cases hb:t.led;refine af (Fh sb B ?_)
   all_goals
    rw[d];refine af (bP (wpAny_eqBool_tuple G t1 B ?_));refine af (df z hd c ?_);rw[aX nk];dsimp only;rw[ao (by decide),si];dsimp only;rw[ak O,R];dsimp only;rw[d];refine af (wpAny_isSame_ref_self ?_);refine af (ar ?_);exact er
end
def Nn(ow:Array (Option Nat))(j:Nat):Prop:=(ow.getD j (Z 0)).isNone=γ
section
variable{ow:Array (Option Nat)}
def abw(i:Nat):0<fG 31 i+1 - i:=by unfold fG;split<;>omega
def KN:(∃j,Nn ow j/\eB 31 ow (f+1) i q=Z j)\/(¬Nn ow i/\eB 31 ow (f+1) i q=eB 31 ow f ((i * 5+1+q / 32) % 32) (q / 32)):=by
 have a:eB 31 ow (f+1) i q=match (aU (fG 31 i+1 - i)).find? λk=>(ow.getD (i+k) (Z 0)).isNone with
  |some k=>Z (i+k)
  |none=>eB 31 ow f ((i * 5+1+q / 32) % 32) (q / 32):=rfl
 rw[a];cases e:(aU (fG 31 i+1 - i)).find? λk=>(ow.getD (i+k) (Z 0)).isNone with
 |some k=>exact .inl ⟨i+k,qf (p:=λk=>(ow.getD (i+k) (Z 0)).isNone) e,O⟩
 |none=>refine .inr ⟨λh=>?_,O⟩;have:=pq.1 e 0 (bL.2 (abw i));exact this h
theorem Nv(c:Nn ow r):∀(k f i:Nat),k<=f->r∈orb 31 k i->∃j,Nn ow j/\eB 31 ow f i 0=Z j
 |0,f,i,_,h=>by cases h
 |k+1,0,i,b,_=>aq b (by omega)
 |k+1,f+1,i,b,h=>by
  rcases KN (ow:=ow) (f:=f) (i:=i) (q:=0)with a|⟨a,d⟩
  .exact a
  .rcases aL.1 h with e|h
   .exact aq (e▸c) a
   .rw[d];exact Nv c k f _ (by omega) h
theorem Nw(e:Nn ow r)(a:r<=31):∀(k f i q:Nat),k+32<=f->i<=31->q<32 ^ k->∃j,Nn ow j/\eB 31 ow f i q=Z j
 |0,f,i,q,b,d,c=>by
  have o:q=0:=by simpa using c
  rw[o];exact Nv e 32 f i (by omega) (PQ (m:=31) (.inr O) d a)
 |k+1,0,i,q,b,_,_=>aq b (by omega)
 |k+1,f+1,i,q,b,d,c=>by
  rcases KN (ow:=ow) (f:=f) (i:=i) (q:=q)with h|⟨_,l⟩
  .exact h
  .rw[l];exact Nw e a k f _ _ (by omega) (by omega) (by rw[qQ]at c;omega)
def lv(ow:Array (Option Nat)):List (Nat×Nat):=(aU 32).filterMap λj=>(ow.getD j J).map (j,·)
def adt(b:ow.size=32)(h:Nn ow j):j<32/\ow.getD j J=J:=by
 unfold Nn at h;by_cases a:j<ow.size
 .refine⟨by omega,?_⟩;rw[gx,jo a]at h ⊢;simpa using h
 .rw[gx,Array.getElem?_eq_none (by omega)]at h;cases h
def abx(q:ow.size=32)(h:Nn ow j):(lv (ow.setIfInBounds j (Z k))).Perm ((j,k)::lv ow):=by
 obtain⟨p,e⟩:=adt q h;have get:∀i,(ow.setIfInBounds j (Z k)).getD i J=if i=j then Z k else ow.getD i J:=λi=>by
  rw[gx,gx,Array.getElem?_setIfInBounds];by_cases c:j=i
  .subst c;rw[ak O,ak (by omega),ak O];rfl
  .rw[ao c,ao (λe=>c e.symm)]
 obtain⟨a,b,o⟩:=List.append_of_mem (bL.2 p);have d:(aU 32).Nodup:=p6;rw[o,cp,dB]at d;unfold lv;rw[o,oI,oI,eD,eD,get j,ak O,e];have f:∀l:List Nat,j∉l->l.filterMap (λi=>((ow.setIfInBounds j (Z k)).getD i J).map (i,·))=l.filterMap λi=>(ow.getD i J).map (i,·):=λl m=>by
  induction l with
  |nil=>rfl
  |cons i l r=>rw[eD,eD,r λz=>m (ba _ z),get i,ao λe=>m (by rw[<-e];exact bb)]
 rw[f a λz=>d.2.2 j z j bb O,f b d.2.1.1];exact List.perm_middle
theorem Ud:∀(b:List Int) (ow:Array (Option Nat)) (k:Nat),ow.size=32->((lv ow).map bH).Perm (aU k)->k+b.length<=31->∃a,a.size=32/\((lv a).map bH).Perm (aU (k+b.length))/\
  (b.foldl (λacc h=>do
   let (owner,k)<-acc;let j<-eB 31 owner (gS 31) (cM h % (31+1)) (cM h)
   pure (owner.setIfInBounds j (Z k),k+1)) (Z (ow,k)))=Z (a,k+b.length)
 |[],ow,k,c,d,_=>⟨ow,c,d,O⟩
 |h::b,ow,k,c,d,o=>by
  rw[aN]at o ⊢;have fr:∃r,r<=31/\Nn ow r:=by
   apply oe;intro no;have len:(lv ow).length=32:=by
    have:∀l:List Nat,(∀j∈l,j<=31)->(l.filterMap λj=>(ow.getD j J).map (j,·)).length=l.length:=λl i=>by
     induction l with
     |nil=>rfl
     |cons j l w=>
      have f:=i j bb;have q:¬Nn ow j:=λe=>no ⟨j,f,e⟩;cases e:ow.getD j J with
      |none=>refine aq ?_ q;unfold Nn;rw[gx,jo (by omega)]at e ⊢;simpa using e
      |some x=>rw[eD,e];show (List.filterMap _ l).length+1=l.length+1;rw[w λz u=>i z (ba _ u)]
    exact(this (aU 32) λj f=>by have:=bL.1 f;omega).t cH
   have:=d.length_eq;rw[ah,cH,len]at this;omega
  obtain⟨r,t,A⟩:=fr;have p:cM h<32 ^ 13:=by unfold cM;omega
  obtain⟨j,y,m⟩:=Nw A t 13 (gS 31) (cM h % (31+1)) (cM h) (by decide) (by omega) p;obtain⟨a,B,C,q3⟩:=Ud b (ow.setIfInBounds j (Z k)) (k+1) (by rw[Array.size_setIfInBounds];exact c) (by
   refine((abx c y).map bH).t ?_;rw[aJ,List.range_succ];exact((List.Perm.cons k d).t (kH k _).symm)) (by omega)
  refine⟨a,B,by rw[show k+(b.length+1)=k+1+b.length by omega];exact C,?_⟩;rw[iK,show k+(b.length+1)=k+1+b.length by omega,<- q3];congr 1;show (eB 31 ow (gS 31) (cM h % (31+1)) (cM h)).bind _=_;rw[m];rfl
def Xc(a:Array Int)(h:a.size<=31):∃t order,mr 31 fg mv led pl a=Z (t,order)/\Tb t 31 a.size/\t.led=led/\t.plain=pl/\order.toList.Perm (aU a.size):=by
 obtain⟨ow,f,b,c⟩:=Ud a.toList (qg 32 J) 0 (by simp) (by
  have:lv (qg 32 J)=[]:=by unfold lv;rw[List.filterMap_eq_nil_iff];intro j d;rw[gx,Array.getElem?_replicate,ak (bL.1 d)];rfl
  rw[this];exact .nil) (by rw[bO];omega)
 rw[mx,bO]at b c;have e:pH 31 a=Z ow:=by unfold pH;rw[<-Array.foldl_toList];exact bG (rq cQ) c
 refine⟨_,_,by unfold mr;rw[e];rfl,⟨O,O,?_⟩,O,O,?_⟩
 .have:=b.length_eq;rw[ah,cH]at this;show (dH _ (lv ow)).toArray.size=_;rw[bg,ah,this]
 .exact b
end
def Cz2(m n:Nat):Prop:=(m=7/\n<=4)\/(m=31/\n<=18)\/(m=127/\19<=n/\n<=63)
section
variable{prog:aH}{w:az}{A:aI}{E:ab->ae->Prop}{s:ae}
theorem Ue(d:TK prog w s.heap (Sum.inr x::q) a)(h:Q δ s):ai (model prog w) A (hashByValue 8 (.ref a)) Q E s:=by
 have hT:=d.typeIs;obtain⟨o,items,n,i,_,hd,c⟩:=d;unfold hashByValue;refine af (gR hT F.slot_tuple_hash.lookup ?_);show ai _ _ (seqItems? (.ref a)>>=_) _ _ s;refine af (l8 i hd ?_);refine af ?_;show ai _ _ (forIn items _ _) _ _ s;rw[<-pf];generalize items.toList=l at c ⊢;cases c with
 |@cons _ v _ j f p=>
  obtain⟨t,rfl⟩:∃t,v=.str x t:=PF f;refine lE _ (λer r b=>b=s/\∃u,er=.str x t::u) _ ?_ ?_ _ _ ⟨O,j,O⟩
  .rintro v er r b ⟨rfl,u,e⟩;cases e;refine af (m:=hashByValue 7 (.str x t)) (ar ?_);exact ar (ar h)
  .rintro r b ⟨rfl,u,e⟩;cases e
variable{L:List (List fc×Addr)}{es:Array (Int×ab)}{t:bC}{m n ep:Nat}{S a2:Addr}{k2:List fc}{o:Obj}{h:Int}
def Ug(p:t.mask=7)(a:s.heap.get? S=Z o)(hd:o.data=.set es ep t)(hf:t.fits es.size=γ)(j:es.size=5)
  (hQ:∀h' es' t',dD S s.heap h'->h'.get? S=Z { o with data:=.set es' (ep+1) t' }->Tb t' 31 5->t'.led=t.led->t'.plain=t.plain->es'.toList.Perm es.toList->Q () { s with heap:=h' }):ai (model prog w) A (setRelay S (dW 5)) Q E s:=by
 unfold setRelay;refine af (df a hd hf ?_);dsimp only;rw[ao (by rw[bS];decide)];obtain⟨t',order,d,T,e,f,b⟩:=Xc (fg:=t.finger) (mv:=t.movedTo 31) (led:=t.led) (pl:=t.plain) (es.map (·.1)) (by rw[qx];omega)
 rw[qx]at T b;have c:(order.filterMap (es[·]?)).toList.Perm es.toList:=by rw[Array.toList_filterMap];exact(b.filterMap _).t (by rw[kK])
 have i:t.relaid (es.map (·.1)) (dW 5)=Z (t',order):=d
 rw[i];have sz:(order.filterMap (es[·]?)).size=es.size:=by have:=c.length_eq;rw[bO,bO]at this;exact this
 refine af ?_;wp_delta;dsimp only;rw[ao (by rw[sz];simp)];refine ar ?_;refine jI a hd ?_ (by show (order.filterMap (es[·]?)).size<=aG;rw[sz,bS];omega)
 exact hQ _ _ _ (dw ..) (Ov a hd) (by rw[j]at T;exact T) e f c
def add_n(N:A.units<cLine)(T:Tb t m n)(b:Cz2 m n)(U:n<=8)(hf:t.fits es.size=γ)(l:Els prog w s.heap L es)(z:TK prog w s.heap (Sum.inr x::k2) a2)(ne:(Sum.inr x::k2)∉L.map cQ)
  (d:s.heap.get? S=Z o) (hd:o.data=.set es ep t)
  (hQ:∀h' es' t' i y,dD S s.heap h'->h'.get? S=Z { o with data:=.set es' i t' }->Tb t' y (n+1)->Cz2 y (n+1)->t'.led=t.led->t'.plain=δ->(es'.toList.map bH).Perm (.ref a2::es.toList.map bH)->Q γ { s with heap:=h' }):
  ai (model prog w) A (setAddHashed S (.ref a2) h) Q E s:=by
 have b:(m=7/\n<=4)\/(m=31/\n<=9):=by unfold Cz2 at b;omega
 have hm:m=7\/m=31:=b.imp And.left And.left;have sz:es.size=n:=by unfold iO at hf;rw[aW,beq_iff_eq,T.pl]at hf;exact hf.1.symm
 unfold setAddHashed setAddHashedIn;refine bP (af (df d hd hf ?_));dsimp only;rw[ao (by simp[byScan,Value.scannable])];have nm:n<=m:=by rcases b with ⟨rfl,h⟩|⟨rfl,h⟩<;>omega
 refine af (Nu N T hm hf l z ne d hd (λj W=>?_) 100000 (10 * (m+14)) J (by rcases hm with rfl|rfl<;>decide) (by unfold gS;omega) O (rr.start T hm nm h));dsimp only;refine af (df d hd hf ?_);dsimp only;have P:(t.put j).1.mask=m:=T.mask;have p2:(t.put j).1.dummies=#[]:=by show (if qP t.dummies j then _ else t.dummies)=_;rw[T.dm];rfl
 have p3:(t.put j).1.place.size=n+1:=by have:=(oE t.place (dU t.place j) j).length_eq;rw[bO,bO,Array.size_push,T.pl]at this;exact this
 have p:(gH es (t.put j).2 (h,Value.ref a2)).toList.Perm ((h,.ref a2)::es.toList):=by refine(oE es _ _).t ?_;rw[ly];exact kH _ _
 have q:(gH es (t.put j).2 (h,Value.ref a2)).size=n+1:=by have:=p.length_eq;rw[bO,aN,bO,sz]at this;exact this
 let c:bC:={ (t.put j).1 with plain:=δ };have a:Tb c m (n+1):=⟨P,p2,p3⟩;have M:c.fits (gH es (t.put j).2 (h,Value.ref a2)).size=γ:=by unfold iO mw;rw[q,a.pl,a.dm,a.mask,aW];exact⟨by simp,aV (by rcases b with ⟨rfl,h⟩|⟨rfl,h⟩<;>simp<;>omega)⟩
 have fin:∀f:bC,f=c->ai (model prog w) A (do
   storeSet S (gH es (t.put j).2 (h,.ref a2)) f
   if (!δ&&f.tooFull)=γ then do setRelay S (dW (es.size+1));pure γ else pure γ) Q E s:=λf e=>by
  subst e;refine af (jI d hd ?_ (by rw[q,bS];omega));have g1:=Ov (es':=gH es (t.put j).2 (h,Value.ref a2)) (t':=c) d hd;have R:c.tooFull=decide ((n+1) * 5 >= m * 3):=by unfold SetTable.tooFull mw;rw[a.pl,a.dm,a.mask];rfl
  rw[R];by_cases r:(n+1) * 5 >= m * 3
  .rw[aV r,ak (by decide)];obtain⟨rfl,rfl⟩:m=7/\n=4:=by rcases b with ⟨rfl,h⟩|⟨rfl,h⟩<;>omega
   rw[sz];refine af (Ug (s:={ s with heap:=s.heap.update S (hE (gH es (t.put j).2 (h,.ref a2)) c) }) a.mask g1 O M q λh' es' t' B C F G H I=>?_);refine ar (hQ h' es' t' _ 31 ((dw ..).t B) C F (.inr (.inl ⟨O,by decide⟩)) G H ?_);exact(I.map _).t (p.map _)
  .rw[aX r,ao (by decide)];refine ar (hQ _ _ _ _ m (dw ..) g1 a ?_ O O (p.map _));rcases b with ⟨rfl,h⟩|⟨rfl,h⟩
   .exact .inl ⟨O,by omega⟩
   .exact .inr (.inl ⟨O,by omega⟩)
 split
 .refine af (Ue z ?_);exact fin _ O
 .rename_i u;refine af (ar (fin _ ?_));rw[pZ]at u;rw[ak O];show (t.put j).1={ (t.put j).1 with plain:=δ };rw[<-u]
end
structure Kc(h:Heap)(S:Addr)(L:List (List fc×Addr))(led:Bool)(n:Nat)(o:Obj)(es:Array (Int×ab))(ep:Nat)(t:bC):Prop where
 i?:h.get? S=Z o
 ex:o.ExactSet
 d:o.data=.set es ep t
 c:∃m,Tb t m n/\Cz2 m n
 led:t.led=led
 pl:0<n->t.plain=δ
 p:(es.toList.map bH).Perm (L.map λq=>Value.ref q.2)
def Kc.sz{h:Heap}{S:Addr}{L:List (List fc×Addr)}{led:Bool}{n:Nat}{o:Obj}{es:Array (Int×ab)}{ep:Nat}{t:bC}(x:Kc h S L led n o es ep t):es.size=L.length:=by have:=x.p.length_eq;rw[ah,ah,bO]at this;exact this
theorem Kc.fits{h:Heap}{S:Addr}{L:List (List fc×Addr)}{led:Bool}{n:Nat}{o:Obj}{a:Array (Int×ab)}{b:Nat}{t:bC}(x:Kc h S L led n o a b t)(d:L.length=n):t.fits a.size=γ:=by obtain⟨m,T,c⟩:=x.c;unfold iO mw;rw[x.sz,d,T.pl,T.dm,T.mask,aW];exact⟨by simp,aV (by unfold Cz2 at c;simp;omega)⟩
section
variable{prog:aH}{w:az}{A:aI}{R:gp->ae->Prop}{I:Addr}{fp wr:List Addr}{GG:Array gn->Array gn->Prop}{n:Nat}{PP:Nat->ab->Prop}{SS:Nat->ae->Prop}
def Rx(W:WalksS prog w A.in1 I fp wr GG n PP SS){S:Addr}{led:Bool}(hSf:S∉fp)(U:A.in1.units<cLine)(L:List (List fc×Addr))(hn:L.length=n)(h8:n<=8)(nd:(L.map cQ).Nodup)(hk:∀q∈L,∃x k,q.1=Sum.inr x::k)(far:∀q∈L,q.2∉S::wr)
  (hval:∀i v,PP i v->∃q,L[i]?=Z q/\v=.ref q.2):∀(k i:Nat) (s:ae) (o:Obj) (es:Array (Int×ab)) (ep:Nat) (t:bC),n - i=k->i<=n->SS i s->(∀q∈L,TK prog w s.heap q.1 q.2)->Kc s.heap S (L.take i) led i o es ep t->
   (∀a o es ep t,Moved (S::wr) GG s a->Kc a.heap S L led n o es ep t->R (.ok (.ret .none)) a)->
   cw (model prog w) A (.builtin "set.update.loop" ⟨[.ref S,.ref I],[]⟩) R s:=by
 have hSw:S∉wr:=λz=>hSf ((W).sub _ z);have up:∀b∈wr,b∈S::wr:=λb z=>ba _ z;intro k
 induction k with
 |zero=>
  intro i s o es ep t F hi hst tk x hR;obtain rfl:i=n:=by omega
  refine dS gz ?_;rw[eC dO _];show ai _ A.in1 (pyNext (.ref I)>>=_) _ _ s;refine af (W.done s _ _ hst λa hm=>?_);show ai _ A.in1 (ret Value.none) _ _ a;rw[iw (by omega)]at x;exact ar (hR a o es ep t (hm.mono up) { x with i?:=hm.heap S _ hSw x.i? })
 |succ k ih=>
  intro i s o es ep t F hi hst tk x hR;have hlt:i<n:=by omega
  refine dS gz ?_;rw[eC dO _];show ai _ A.in1 (pyNext (.ref I)>>=_) _ _ s;refine af (W.item i s _ _ hlt hst λv a hP hst' hm=>?_);obtain⟨q,M,rfl⟩:=hval i v hP;have G:q∈L:=cn M;have f:∀q∈L,TK prog w a.heap q.1 q.2:=λq Q=>(tk q Q).g? λo=>hm.heap q.2 o λz=>far q Q (up _ z);show ai _ A.in1 (holding _ (setAdd S _)>>=_) _ _ a;refine af (bP ?_);unfold setAdd;refine bP ?_;refine af (wpAny_pyHash_tuple U (f q G) ?_);obtain⟨m,T,c⟩:=x.c;obtain⟨z,X,N⟩:=hk q G;have tq:TK prog w a.heap (Sum.inr z::X) q.2:=by rw[<-N];exact f q G
  have split:L.take (i+1)=L.take i++[q]:=by rw[lq,M];rfl
  have ne:(Sum.inr z::X)∉(L.take i).map cQ:=λw'=>by have P:((L.take (i+1)).map cQ).Nodup:=nd.sublist ((iG _ _).map _);rw[split,bu,cp]at P;exact P.2.2 _ w' _ (bj.2 N.symm) O
  have sub:∀r∈L.take i,r∈L:=λr hr=>(iG _ _).subset hr;have u:Kc a.heap S (L.take i) led i o es ep t:={ x with i?:=hm.heap S _ hSw x.i? };refine add_n (s:={ a with toks:=a.toks+(q.1.length+1) }) (L:=L.take i) U T c (by omega) (u.fits (by rw[bY];omega)) ⟨λr hr=>f r (sub r hr),u.p⟩ tq ne u.i? u.d λh' j Y h m' B b2 b3 b4 b5 b6 b7=>?_;have y:Kc h' S (L.take (i+1)) led (i+1) { o with data:=.set j h Y } j h Y:=by refine⟨b2,x.ex,O,⟨m',b3,b4⟩,b5.t x.led,λ_=>b6,b7.t ?_⟩;rw[split,bu];exact(List.Perm.cons _ x.p).t (kH _ _).symm
  refine ar ⟨f7 dO _,ih (i+1) _ _ _ _ _ (by omega) hlt (W.frame _ a h' _ hst' (gO _ _) λb z o e=>?_) (λr hr=>(f r hr).g? λo e=>?_) y λH o2 E C t2 l x2=>?_⟩
  .rw[B.2 b (λy:b=S=>hSf (by rw[<-y];exact z))];exact e
  .rw[B.2 r.2 (λy:r.2=S=>far r hr (by rw[y];exact bb))];exact e
  .refine hR H o2 E C t2 (jT W.gtrans ((hm.mono up).then_heap (gO _ _) λb o z e=>?_) l) x2;rw[B.2 b (λy:b=S=>z (by rw[y];exact bb))];exact e
end
theorem LW{b:Type}:∀(l:List b) (j:Nat) (x:b),l[j]?=Z x->(x::l.eraseIdx j).Perm l
 |[],j,x,h=>by cases h
 |a::l,0,x,h=>by cases h;exact .refl _
 |a::l,j+1,x,h=>(List.Perm.swap a x _).t (List.Perm.cons a (LW l j x h))
theorem PR{b:Type}(a:Nat->Nat):∀(f k:Nat) (l:List b) (out:Array b),l.length=f->(qR a f k l out).toList.Perm (out.toList++l)
 |0,k,l,out,h=>by obtain rfl:=js.1 h;rw[bR];exact .refl _
 |f+1,k,l,out,h=>by have hlt:a k % l.length<l.length:=gj _ (by omega);have e:l[a k % l.length]?=Z l[a k % l.length]:=bh hlt;unfold qR;rw[e];refine(PR a f (k+1) _ _ (by rw[oQ,ak hlt];omega)).t ?_;rw[ly,bX];exact List.Perm.append_left _ (LW l _ _ e)
def KO{c:Type}(b:Nat->Nat)(a:Array c):(pickOrder b a).toList.Perm a.toList:=PR b a.size 0 a.toList #[] bO
section
variable{prog:aH}{w:az}{A:aI}{E:ab->ae->Prop}{s:ae}
def Xd(hn:n≠0)(h:∀i d,i<n->Q i { s with drawn:=d }):ai (model prog w) A (choose src n) Q E s:=λΓ p hΓ=>by show Sem.wp _ Γ (.choose src n .pure) _ _ p s;rw[Sem.wp_choose];exact⟨hn,h _ _ (gj _ (Nat.pos_of_ne_zero hn))⟩
theorem PU{f:Type}:∀(n:Nat) (xs:List f) (s:ae) {Q:List f->ae->Prop},xs.length=n->(∀c d,c.Perm xs->Q c { s with drawn:=d })->ai (model prog w) A (drawOrder n xs) Q E s
 |0,xs,s,Q,b,h=>by obtain rfl:=js.1 b;unfold drawOrder;exact ar (h [] s.drawn (.refl _))
 |n+1,[],s,Q,b,h=>by cases b
 |n+1,a::xs,s,Q,b,h=>by unfold drawOrder;refine af (Xd (by simp) λi d hi=>?_);have e:(a::xs)[i]?=Z (a::xs)[i]:=bh hi;rw[e];refine af (PU n _ _ (by rw[oQ,ak hi];omega) λc j p=>?_);exact ar (h _ j ((List.Perm.cons _ p).t (LW _ _ _ e)))
end
def zb:Slot "set_iterator" "__next__" "set_iterator.__next__" :=
 .of (owner:="set_iterator") (n:="__next__") (by rw[qh,oJ];kernel_rfl) (by decide +kernel) (by decide +kernel) (by decide +kernel)
  (by first|exact .inl (by decide +kernel)|exact .inr (by decide +kernel)) (by rw[jM];kernel_rfl)
def Fi:Slot "set_iterator" "__iter__" "set_iterator.__iter__" :=
 .of (owner:="set_iterator") (n:="__iter__") (by rw[qh,oJ];kernel_rfl) (by decide +kernel) (by decide +kernel) (by decide +kernel)
  (by first|exact .inl (by decide +kernel)|exact .inr (by decide +kernel)) (by rw[jM];kernel_rfl)
def Ke:entryFor table "set_iterator.__next__" = Z dJ.«set_iterator.__next__»:=entryFor_of_tree (by kernel_rfl)
def Nx:Manifest.owners.lookup (String.ofList ['r','o','t','a','r','e','t','i','_','t','e','s'].reverse)=Z Manifest.sig_set_iterator:=by kernel_rfl
def LX(a:ab):argsOk "set_iterator.__next__" ⟨[a],[]⟩:=by unfold argsOk;rw[qJ (id:="set_iterator.__next__") (n:=['_','_','t','x','e','n','_','_']) (o:=['r','o','t','a','r','e','t','i','_','t','e','s']) (by kernel_rfl) Nx];kernel_rfl
def LY:entryFor table "set.__iter__" = Z dJ.«frozenset.__iter__»:=qy (id':="frozenset.__iter__") (by kernel_rfl) O (by decide +kernel) (by kernel_rfl)
inductive Md(w:az) (h:Heap) (S TP:Addr) (i:Nat) (kx:List ab) (es:Array (Int×ab)) (ep:Nat) (t:bC):ab->Prop
 |txt {sl:Int} {tk:Tok}:w.params.followText "set-order" = γ->kx=(pickOrder (w.params.setOrder S ep) es).toList.map bH->Md w h S TP i kx es ep t (.int sl tk)
 |drw {ps:List Nat} {vs:Array ab} {ot:Obj} {nt:Nat}:w.params.followText "set-order" = δ->h.get? TP=Z ot->ot.cls=.type "tuple" -> ot.data=.seq vs nt->vs=(ps.map λp:Nat=>rawInt p).toArray->ps.Perm (aU es.size)->kx=ps.filterMap (λp=>es[p]?.map bH)->Md w h S TP i kx es ep t (.ref TP)
 |one {sl:Int}:w.params.followText "set-order" = δ->es.size<=1->t.led=γ->(i=0->sl=0)->(∀j,i=1->t.place=#[j]->sl=(j+1:Nat))->kx=es.toList.map bH->Md w h S TP i kx es ep t (.int sl 0)
structure ItS(w:az)(I S TP:Addr)(kx:List ab)(o:Obj)(es:Array (Int×ab))(ep:Nat)(t:bC)(i:Nat)(h:Heap):Prop where
 it:∃oi first,h.get? I=Z oi/\oi.cls=.type "set_iterator" /\ oi.data=.fields #[first,.int i 0,.ref S,.int es.size 0,.int ep 0]/\Md w h S TP i kx es ep t first
 i?:h.get? S=Z o
 d:o.data=.set es ep t
 f:t.fits es.size=γ
section
variable{prog:aH}{w:az}{A:aI}{E:ab->ae->Prop}{s:ae}{I S TP:Addr}{kx:List ab}{o:Obj}{es:Array (Int×ab)}{ep:Nat}{t:bC}{i:Nat}
def Gk(h:Q (w.params.followText "set-order") s):ai (model prog w) A setsByText Q E s:=by unfold setsByText;exact af (lG (ar h))
def OG(x:ItS w I S TP kx o es ep t i s.heap)(N:Md w s.heap S TP i kx es ep t (.int y R))(H:i<=1\/w.params.followText "set-order" = γ)
  (hQ:∀(v:ab) (u:Nat),kx[i]?=Z v->Md w s.heap S TP (i+1) kx es ep t (.int u 0)->Q (Z (v,u)) s) (hN:kx[i]?=J->Q J s):ai (model prog w) A (setNext S y.toNat i ep) Q E s:=by
 unfold setNext;refine af (df x.i? x.d x.f ?_);dsimp only;refine af (Gk ?_);cases N with
 |txt a b=>
  rw[a,ak O];rw[ao (by simp)];refine af ?_;unfold setWalk;refine af (df x.i? x.d x.f ?_);dsimp only;refine af (Gk ?_);rw[a,ak O];refine af (lG ?_);refine ar ?_;refine ar ?_;show Q (rq (λe=>(e.snd,y.toNat)) (pickOrder (w.params.setOrder S ep) es)[i]?) s;have e:kx[i]?=((pickOrder (w.params.setOrder S ep) es)[i]?).map bH:=by rw[b,bA,ix]
  cases r:(pickOrder (w.params.setOrder S ep) es)[i]? with
  |none=>rw[r]at e;exact hN e
  |some q=>rw[r]at e;exact hQ q.2 _ e (.txt a b)
 |one a b p C F h=>
  have fs:t.place.size=es.size:=by have:=x.f;unfold iO at this;rw[aW,beq_iff_eq]at this;exact this.1
  rw[a,ao (by decide)];rw[ao (λG=>by
   have:(!t.plain&&decide (es.size > 1))=γ:=G;simp at this;omega)]
  refine af ?_;wp_delta;rw[ao (by rw[p];simp)];refine ar ?_;refine ar ?_;have c:es.size=0\/es.size=1:=by omega
  rcases c with c|c
  .have B:es=#[]:=Array.eq_empty_of_size_eq_zero c;subst B;exact hN (by rw[h];rfl)
  .obtain⟨e,rfl⟩:=oK.1 c;obtain⟨j,l⟩:=oK.1 (fs.t c);rw[l];have M:i<=1:=H.resolve_right λe=>by rw[a]at e;cases e
   have:i=0\/i=1:=by omega
   rcases this with rfl|rfl
   .rw[C O];show Q (match #[e][dU #[j] 0]?,#[j][dU #[j] 0]? with|some (_,x),Z j=>Z (x,j+1)|_,_=>J) s;rw[show dU #[j] 0=0 from by simp[dU,pI]];exact hQ e.2 (j+1) (by rw[h];rfl) (.one a b p (λz=>by cases z) (λP _ m=>by rw[l]at m;cases m;rfl) h)
   .rw[F j O l];show Q (match #[e][dU #[j] (j+1)]?,#[j][dU #[j] (j+1)]? with|some (_,x),Z j=>Z (x,j+1)|_,_=>J) s;rw[show dU #[j] (j+1)=1 from by simp[dU,pI]];exact hN (by rw[h];rfl)
def ItS.ty(x:ItS w I S TP kx o es ep t i s.heap):s.TypeIs (.ref I) "set_iterator" := let ⟨⟨c,_,a,b,_⟩,_,_,_⟩:=x;⟨c,a,b⟩
def ItS.ordlen(x:ItS w I S TP kx o es ep t i s.heap):kx.length=es.size:=by
 obtain⟨⟨l,first,_,_,_,j⟩,_,_,_⟩:=x;cases j with
 |txt c a=>rw[a,ah,(KO _ es).length_eq,bO]
 |drw c a d e f b h=>rw[h,(b.filterMap _).length_eq];have:=kK es;rw[show (aU es.size).filterMap (λp=>es[p]?.map bH)=((aU es.size).filterMap λp=>es[p]?).map bH from(px ..).symm,this,ah,bO]
 |one c a d e f b=>rw[b,ah,bO]
theorem Uh{b d:Type}(f:b->Option d):∀(a:List b),(∀p∈a,∃v,f p=Z v)->∀i:Nat,(a.filterMap f)[i]?=a[i]?.bind f
 |[],_,i=>rfl
 |p::a,h,i=>by
  obtain⟨v,e⟩:=h p bb;rw[eD,e];cases i with
  |zero=>show Z v=f p;rw[e]
  |succ i=>exact Uh f a (λq c=>h q (ba _ c)) i
def Md.mv(m:Md w h S TP i kx es ep t (.int j l)):Md w p S TP i kx es ep t (.int j l):=by
 cases m with
 |txt a b=>exact .txt a b
 |one a b c d e f=>exact .one a b c d e f
def PV{B:aI}{R:Fin->ae->Prop}{c:ae}{Q:Option ab->ae->Prop}(d:B.handled=J)(hN:∀h',(∀b o,c.heap.get? b=Z o->h'.get? b=Z o)->Q J { c with heap:=h' }):
  ai (model prog w) B (do let e<-newExc (.type "StopIteration") [];raiseNew e) R (λe f=>ai (model prog w) A (do if<-isInstance e (.type "StopIteration")then pure J else throw e) Q E f) c:=by
 refine af ?_;simp only[newExc,newTuple];refine af (dQ ?_ (by size_fits));refine af (m:=firstArgMember _ _) (wpAny_of_eq (a:=Value.none) (by first|rfl|(simp only[firstArgMember];rfl)) ?_);refine dQ ?_ (by size_fits);simp only[raiseNew];refine af (wpAny_handled ?_);rw[d];refine af (ar (wpAny_throw ?_));refine af (p8 (T:="StopIteration") (b:=γ) ⟨_,br _ O,O⟩ isSubtype_stop ?_);exact ar (hN _ λb o e=>aK _ (aK _ e))
def Ui(T:A.handled=J)(x:ItS w I S TP kx o es ep t i s.heap)(hi:i<=kx.length)(hS:S≠I)(hT:TP≠I)
  (hQ:∀v h',kx[i]?=Z v->dD I s.heap h'->ItS w I S TP kx o es ep t (i+1) h'->Q (Z v) { s with heap:=h' }) (hN:∀h',kx[i]?=J->rb I s.heap h'->Q J { s with heap:=h' }):
  ai (model prog w) A (pyNext (.ref I)) Q E s:=by
 have X:=x.ordlen;obtain⟨W,first,hoi,hci,hdi,hm⟩:=x.it;unfold pyNext;refine af (wpAny_attempt (om (name:=jP "__next__") x.ty zb (fW zb x.ty Ke ?_ (LX _))));show ai _ _ (fieldsOf (.ref I)>>=_) _ _ s;refine af (wpAny_fieldsOf hoi hdi ?_);show ai _ _ (setEntries S>>=_) _ _ s;refine af ?_;unfold setEntries;refine af (df x.i? x.d x.f ?_);refine ar ?_;dsimp only;rw[ao (by simp)];simp only[gE];have byint:∀(sl:Int) (tk:Tok),first=.int sl tk->(i<=1\/w.params.followText "set-order" = γ)->ai (model prog w) A.in1 (do
   let r<-setNext S sl.toNat i ep
   match r with
    |some (x,next)=>do
     setField (Value.ref I) 0 (rawInt ↑next)
     setField (Value.ref I) 1 (rawInt (↑i+1))
     ret x
    |none=>do
     setField (Value.ref I) 2 Value.none
     let e<-newExc (Value.type "StopIteration") []
     raiseNew e) (λfin M=>∃v,fin=Fin.done (Flow.ret v)/\ai (model prog w) A (pure (Z v)) Q E M) (λe M=>ai (model prog w) A (do if<-isInstance e (.type "StopIteration")then pure J else throw e) Q E M) s:=λsl tk e H=>by
  subst e;refine af (OG x hm H (λv nx a m=>?_) λa=>?_)
  .refine af (gU hoi hdi (by simp) ?_);have g1:=fi (h:=s.heap) (f9 (·.setIfInBounds 0 (rawInt (nx:Int)))) hoi (jy (fo hdi _))
   have d1:=fo hdi (·.setIfInBounds 0 (rawInt (nx:Int)))
   refine af (gU g1 d1 (by simp) ?_);have g2:=fi (f9 (·.setIfInBounds 1 (rawInt ((i:Int)+1)))) g1 (jy (fo d1 _))
   have d2:=fo d1 (·.setIfInBounds 1 (rawInt ((i:Int)+1)))
   have j:=(dw s.heap I (f9 (·.setIfInBounds 0 (rawInt (nx:Int))))).t (dw _ I (f9 (·.setIfInBounds 1 (rawInt ((i:Int)+1)))))
   refine ar ⟨v,O,ar (hQ v _ a j ⟨⟨_,.int nx 0,g2,(lC ..).t ((lC ..).t hci),?_,m.mv⟩,?_,x.d,x.f⟩)⟩
   .rw[d2];simp[rawInt]
   .rw[j.2 S hS];exact x.i?
  .refine af (gU hoi hdi (by simp) ?_);exact PV (by simp[T]) λh' k=>hN h' a λb o hb e=>k b o (by rw[(dw ..).2 b hb];exact e)
 cases hm with
 |txt u y=>exact byint _ _ O (.inr u)
 |one u y P C F G=>exact byint _ _ O (.inl (by omega))
 |@drw ps vs ot nt u y P C F G R=>
  show ai _ _ (seqItems? (.ref TP)>>=_) _ _ s;refine af (l8 y C ?_);have N:∀p∈ps,∃v,(es[p]?.map bH)=Z v:=λp U=>by have:=bL.1 (G.mem_iff.1 U);exact⟨es[p].2,by rw[jo this];rfl⟩
  have l:kx[i]?=ps[i]?.bind λp=>es[p]?.map bH:=by rw[R];exact Uh _ ps N i
  have a:vs[i]?=ps[i]?.map λp:Nat=>rawInt p:=by rw[F,jx,bA]
  cases c:ps[i]? with
  |none=>
   rw[c]at a l;dsimp only;rw[a];refine af (gU hoi hdi (by simp) ?_);have g1:=fi (h:=s.heap) (f9 (·.setIfInBounds 0 (rawInt 0))) hoi (jy (fo hdi _))
   have d1:=fo hdi (·.setIfInBounds 0 (rawInt 0))
   refine af (gU g1 d1 (by simp) ?_);exact PV (by simp[T]) λh' k=>hN h' l λb o hb e=>k b o (by rw[(dw ..).2 b hb,(dw ..).2 b hb];exact e)
  |some p=>
   rw[c]at a l;obtain⟨v,z⟩:=N p (cn c);dsimp only;rw[a];show ai _ _ (setNextDrawn S (p:Int).toNat ep>>=_) _ _ s;rw[gE];refine af ?_;unfold setNextDrawn;refine af (df x.i? x.d x.f ?_);dsimp only;rw[ao (by simp)];cases B:es[p]? with
   |none=>rw[B]at z;cases z
   |some q=>
    rw[B]at z;refine ar ?_;refine af (gU hoi hdi (by simp) ?_);have g1:=fi (h:=s.heap) (f9 (·.setIfInBounds 1 (rawInt ((i:Int)+1)))) hoi (jy (fo hdi _))
    have d1:=fo hdi (·.setIfInBounds 1 (rawInt ((i:Int)+1)))
    have j:=dw s.heap I (f9 (·.setIfInBounds 1 (rawInt ((i:Int)+1))))
    refine ar ⟨_,O,ar (hQ _ _ (by rw[l];show es[p]?.map bH=_;rw[B];rfl) j ⟨⟨_,.ref TP,g1,(lC ..).t hci,?_,.drw u (by rw[j.2 TP hT];exact y) P C F G R⟩,?_,x.d,x.f⟩)⟩
    .rw[d1];simp[rawInt]
    .rw[j.2 S hS];exact x.i?
end
def Kg:entryFor table "set_iterator.__iter__" = Z dJ.«dict_keyiterator.__iter__»:=qy (id':="dict_keyiterator.__iter__") (by kernel_rfl) O (by decide +kernel) (by kernel_rfl)
def LZ(a:ab):argsOk "set_iterator.__iter__" ⟨[a],[]⟩:=by unfold argsOk;rw[qJ (id:="set_iterator.__iter__") (n:=['_','_','r','e','t','i','_','_']) (o:=['r','o','t','a','r','e','t','i','_','t','e','s']) (by kernel_rfl) Nx];kernel_rfl
section
variable{prog:aH}{w:az}{A:aI}{E:ab->ae->Prop}{s:ae}{I S TP:Addr}{kx:List ab}{o:Obj}{es:Array (Int×ab)}{ep:Nat}{t:bC}
def Md.at{h':Heap}(m:Md w h S TP i kx es ep t f)(k:∀o,h.get? TP=Z o->h'.get? TP=Z o):Md w h' S TP i kx es ep t f:=by
 cases m with
 |txt a b=>exact .txt a b
 |one a b c d e j=>exact .one a b c d e j
 |drw a b c d e j l=>exact .drw a (k _ b) c d e j l
def aby(j:A.handled=J)(hS:S≠I)(hT:TP≠I):Walks prog w A I [I,S,TP] [I] kx.length (λi v=>kx[i]?=Z v) (λi h=>ItS w I S TP kx o es ep t i h/\i<=kx.length) where
 sub:=λb hb=>by simp at hb;simp[hb]
 frame:=λi h h' st c=>by obtain⟨⟨⟨B,f,l,m,p,hm⟩,q,r,u⟩,y⟩:=st;exact⟨⟨⟨B,f,c I (by simp) _ l,m,p,hm.at λo e=>c TP (by simp) o e⟩,c S (by simp) _ q,r,u⟩,y⟩
 item:=λi s Q E hi st hQ=>Ui j st.1 st.2 hS hT (λv h' a C x=>hQ v h' s.toks a ⟨x,by omega⟩ λb o hb e=>by rw[C.2 b λz=>hb (by simp[z])];exact e) λh' d _=>by rw[bh hi]at d;cases d
 done:=λs Q E st hQ=>Ui j st.1 st.2 hS hT (λv h' a _ _=>by rw[gB (aO _)]at a;cases a) λh' _ k=>hQ h' s.toks λb o hb e=>k b o (λz=>hb (by simp[z])) e
 self:=λi s Q E st h=>by refine pJ st.1.ty Fi (fW Fi st.1.ty Kg ?_ (LZ _));show ai _ _ (ret (.ref I)) _ _ s;exact ar ⟨_,O,"set_iterator", _,st.1.ty,zb.lookup,h⟩
end
end L4
namespace L4
open PySem PySem.Spec PySem.Calls PyProof.Rows PySem.W L2 L3
section
variable{prog:aH}{w:az}{A:aI}{E:ab->ae->Prop}{s:ae}
abbrev TkS(k:aF):List fc:=k.map Sum.inr
end
section
variable{X:Cx}{G:Bg}{H:Hp}{pins:cD}{σ:St}{s:ae}
def c3.drw(I:c3 X pins σ H s)(d:Drawn):c3 X pins σ H { s with drawn:=d }:=⟨I.ok,I.os,I.l',I.b?,I.L',I.cell,I.free,I.m2,I.O?,I.fx,I.len⟩
def setP{A:aI}{L:List (aF×Addr)}(I:c3 X pins σ H s)(hh:A.handled=J)(hu:A.units+8<cLine)(f:gd X.K H a (L.map λq=>V.ref q.2))(h8:L.length<=8)(nd:(L.map cQ).Nodup)
  (T:∀q∈L,∃p r,q.1=[p,r]/\ij X.K H q.2 [.str p,.str r])
  (h:∀d k2 o es ep t,Kc d s.heap.objs.size (L.map λq=>(TkS q.1,q.2)) (!X.w.params.followText "set-order") L.length o es ep t->(∀b o,b<s.heap.objs.size->s.heap.get? b=Z o->d.get? b=Z o)->Q (.ref s.heap.objs.size) { s with heap:=d,toks:=k2 }):
  ai (model X.prog X.w) A (call (.type "set") [.ref a]) Q E s:=by
 have h3:A.in1.in1.in1.handled=J:=by simp[hh]
 obtain⟨c,r,pp,_⟩:=I.list f;obtain⟨o,l,C,n,hd⟩:=pp.isList;have hne:a≠s.heap.objs.size+1:=bc (eI (aR l));have tk:∀q∈L,TK X.prog X.w s.heap (TkS q.1) q.2:=λq f=>by obtain⟨p,r,e,h1⟩:=T q f;rw[e];exact ade (ks:=[.inr p,.inr r]) I h1
 have M:L.length=c.length:=by have:=r.length;rw[ah]at this;exact this
 have ev:∀(i:Nat) (v:ab),c[i]?=Z v->∃q,L[i]?=Z q/\v=.ref q.2:=λi v e=>by
  have hi:i<L.length:=by rw[M];exact(cj.1 e).1
  obtain⟨u,j,ru⟩:=r.get (i:=i) (x:=V.ref L[i].2) (by rw[bA,bh hi];rfl);rw[e]at j;cases j;exact⟨L[i],bh hi,ru⟩
 have notin:s.heap.objs.size∉[s.heap.objs.size+1,a]:=by
  intro z;rcases aL.1 z with z|z
  .exact aq z (bc (dA _))
  .exact aq (bj.1 z) (gb (aR l))
 let PS:Heap->Prop:=λd=>∃o es ep t,Kc d s.heap.objs.size (L.map λq=>(TkS q.1,q.2)) (!X.w.params.followText "set-order") L.length o es ep t;refine E9 (PS:=PS) l C l9 kT (by decide) (itO:={ cls:=.type "list_iterator", data:=.fields #[.ref a,.int 0 0] })
  (λA Q E s1 e k=>fT ⟨o,e,C,n,hd⟩ k) (λtk' R hR=>?_) λd k2 ⟨o,es,ep,t,x⟩ kk=>h d k2 o es ep t x kk
 have F:∀{b:Addr} {U:Obj},s.heap.get? b=Z U->((s.heap.push (Ar (!X.w.params.followText "set-order"))).push { cls:=.type "list_iterator", data:=.fields #[.ref a,.int 0 0] }).get? b=Z U:=λe=>aK _ (aK _ e);have it:((s.heap.push (Ar (!X.w.params.followText "set-order"))).push { cls:=.type "list_iterator", data:=.fields #[.ref a,.int 0 0] }).get? (s.heap.objs.size+1)=Z { cls:=.type "list_iterator", data:=.fields #[.ref a,.int 0 0] }:=by rw[show s.heap.objs.size+1=(s.heap.push (Ar (!X.w.params.followText "set-order"))).objs.size from(cZ _ _).symm];exact br _ O
 refine Rx (S:=s.heap.objs.size) (led:=!X.w.params.followText "set-order") (iZ h3 _ a hne c.toArray).toS notin (by show A.units+1+1+1<cLine;omega) (L.map λq=>(TkS q.1,q.2)) (by rw[ah,bg,M]) (by rw[bg];omega) ?_ ?_ ?_ ?_ (c.toArray.size - 0) 0 _ (Ar (!X.w.params.followText "set-order")) #[] 0 (.fresh 0 0 (!X.w.params.followText "set-order")) O (cq _) ⟨⟨_,it,O,O⟩,⟨o,F l,C,n,hd⟩⟩ ?_ ?_ λs2 o2 B m t2 mv P=>?_
 .rw[aZ,show (cQ∘λq:aF×Addr=>(TkS q.1,q.2))=λq=>TkS q.1 from O];have:(L.map λq=>TkS q.1)=(L.map cQ).map TkS:=by rw[aZ];rfl
  rw[this];exact uD _ (λx y hxy e=>hxy ((List.map_inj_right λ_ _ h=>jR h).1 e)) nd
 .intro q f;obtain⟨r,hr,rfl⟩:=au.1 f;obtain⟨p,z,e,_⟩:=T r hr;exact⟨p,[.inr z],by show TkS r.1=_;rw[e];rfl⟩
 .intro q f z;obtain⟨r,hr,rfl⟩:=au.1 f;obtain⟨ob,_,_,e,_⟩:=tk r hr;have:=aR e;rcases aL.1 z with z|z
  .exact aq z (bc this)
  .exact aq (bj.1 z) (bc (eI this))
 .intro i v e;rw[jx]at e;obtain⟨q,W,j⟩:=ev i v e;exact⟨(TkS q.1,q.2),by rw[bA,W];rfl,j⟩
 .intro q f;obtain⟨r,hr,rfl⟩:=au.1 f;exact(tk r hr).g? λo=>F
 .exact⟨aK _ (br _ O),⟨O,O,O⟩,O,⟨7,⟨O,O,O⟩,.inl ⟨O,by decide⟩⟩,O,λz=>aq z (by decide),.nil⟩
 .obtain⟨d,g2,d2,k2,N⟩:=s2;have eg:g2=s.gens:=mv.gens;have Y:d2=s.drawn:=mv.drawn;have eo:N=s.os:=mv.os;subst eg Y eo;have el:c.toArray.size=L.length:=by rw[bg,M]
  rw[el]at P;refine hR d k2 ⟨o2,B,m,t2,P⟩ λb o hb e=>mv.heap b o (λz=>?_) (F e);rcases aL.1 z with z|z
  .exact aq z (bc hb)
  .exact aq (bj.1 z) (bc (eI hb))
end
section
variable{X:Cx}{G:Bg}{H:Hp}{pins:cD}{σ:St}{s:ae}
theorem PX:∀{b:bp} {f:List aF} {h:bN},uQ G H b h->zp b=Z f->∃L:List (aF×Addr),h=L.map (λq=>V.ref q.2)/\f=L.map cQ/\∀q∈L,∃p r,q.1=[p,r]/\ij G.K H q.2 [.str p,.str r]
 |[],f,h,r,e=>by cases e;unfold uQ at r;subst r;exact⟨[],O,O,λq o=>by cases o⟩
 |d::b,f,h,r,e=>by
  unfold zp at e;cases c:Rv d with
  |none=>rw[c]at e;cases e
  |some k=>
   cases i:zp b with
   |none=>rw[c,i]at e;cases e
   |some t=>
    rw[c,i]at e;cases e;unfold uQ at r;obtain⟨v,x,rfl,u,w⟩:=r;obtain⟨L,rfl,rfl,m⟩:=PX w i;obtain⟨a,p,q,rfl,rfl,l⟩:=Nq u c;refine⟨([p,q],a)::L,O,O,λz j=>?_⟩;rcases aL.1 j with rfl|j
    .exact⟨p,q,O,l⟩
    .exact m z j
end
noncomputable abbrev cS(s:Str):FE:=cC (.str s)
noncomputable abbrev a1(e:FE):FA:=ax e vB
section
variable{X:Cx}{G:Bg}{H:Hp}{pins:cD}{σ:St}{s:ae}
def SrcG(K:av)(H:Hp)(a:Addr)(n:Nat):Prop:=Z6 K H a n\/
 ∃L:List (aF×Addr),gd K H a (L.map λq=>V.ref q.2)/\L.length<=8/\(L.map cQ).Nodup/\(∀q∈L,∃p r,q.1=[p,r]/\ij K H q.2 [.str p,.str r])/\n=L.length
def adv:Z7 X SrcG:=by
 intro pins σ H s A E Q a n I c e b h;rcases b with b|⟨L,j,m,u,p,rfl⟩
 .exact adf I c e b h
 .refine setP I c e j m u p λl q o i f t x r=>h l q ⟨o,i,f,t,x.i?,x.ex,x.d,?_,x.fits (ah _),x.sz.t (ah _)⟩ r;rw[x.sz,ah];unfold scanBound;omega
def Eu(ds:bp):Option D:=match zp ds with
 |some a=>if a.Nodup/\ds.length<=8 then Z (.int ds.length)else J
 |none=>J
def Ry(hK:X.K=G.K):∀{c d f b a j},Eu c=Z d->gd X.K b a j->uQ G f c j->ve f b->∃n:Nat,SrcG X.K b a n/\d=.int n:=λ{c d f b a j} e i l s=>by
 unfold Eu at e;cases h:zp c with
 |none=>simp only[h]at e;cases e
 |some w=>
  simp only[h]at e;split at e
  .rename_i u;cases e;obtain⟨L,rfl,rfl,t⟩:=PX l h;have o:=uV l;rw[ah]at o;refine⟨_,.inr ⟨L,i,by omega,u.1,λq i=>?_,o⟩,O⟩;obtain⟨p,r,e,m⟩:=t q i;rw[<-hK]at m;exact⟨p,r,e,ij.mono s m⟩
  .cases e
end
section
variable{X:Cx}{B:Bz}{k:Nat}{e:Expr}{f:FE}{p p2 p3 pos:Pos}
def abz [C:Cz X B k][N:Nb B "len"][b:Nb B "set"](i:S1 X e)(h:Gz X "len")(a:Gz X "set")(d:ZE X B e f)(z:aC [Expr.Call (.Name "set" p2) [e] [] p3] X.b1=[(δ,eval (.Call (.Name "set" p2) [e] [] p3) X.b1)]):ZE X B (.Call (.Name "len" p) [.Call (.Name "set" p2) [e] [] p3] [] pos) (c1 (Fb Eu) f):=⟨Ox C.K .inl (Ry C.K) (Rj adv C.r.units C.c h (C.mg▸N.p) a (C.mg▸b.p) d.p z i)⟩
end
section
variable{X:Cx}{G:Bg}{C:Addr}{x:Str}{p pos:Pos}{e:Expr}{c:Nat}
structure Mk0(K:av)(C:Addr):Prop where
 Z':makesIn K C=γ
 init:findIn K (.ref C) "__init__" = Z (Z (.builtin "object.__init__"))
 kp:keepIn K (.ref C)=γ
def RA(M:Mk0 X.K C)(l:Gl X x)(m:X.mg x=Z (.ref C))(d:(x==("__debug__" : Str))=δ):PE X (.Call (.Name x p) [] [] pos) (λt H Q=>∀y a,H y=J->H a=J->a≠y->Q (.ref y) (ff (ff H a (.jj y)) y (.nj C a []))):=by
 intro f s t H Q I h;refine dP (EM I l m ?_ d);refine mh I.qi M.kp ?_;have q:=h (s.heap.objs.size+1) s.heap.objs.size (I.fx.fresh (iW _)) (I.fx.fresh (aO _)) (bc (dA _));have i:=c3.made (C:=C) I;have Y:=mZ (M:=model X.prog X.w) I.qi M.Z';refine jW (QJ I.qi M.Z' M.init (λself=>Looks.of_pure (oi_bind self)) ?_);have j:((s.heap.push emptyDict).push (instObj C s.heap.objs.size)).get? (s.heap.objs.size+1)=Z (instObj C s.heap.objs.size):=by rw[<-cZ s.heap emptyDict];exact br _ O
 have r:Looks (model X.prog X.w) ((s.heap.push emptyDict).push (instObj C s.heap.objs.size)) (isInstance (.ref (s.heap.objs.size+1)) (.type "object")) γ:=
  ((Looks.ld j).andThen .now:Looks (model X.prog X.w) _ (typeOf (.ref (s.heap.objs.size+1))) (.ref C)).andThen (Y.top.keeps λb o e=>aK _ (aK _ e))
 refine oN oi_plain entry_oi (check_slot oi_kind oi_split r (oi_args _) ?_);rw[oi_run];exact ar (And.intro rfl ⟨V.ref (s.heap.objs.size+1),_,i,rfl,q⟩)
def Xe(c:Nat):FE:=λa=>Z (.obj c [] [],a)
def RB(h:PE X e (λB H Q=>∀y a,H y=J->H a=J->a≠y->Q (.ref y) (ff (ff H a (.jj y)) y (.nj (G.ca c) a [])))):PE X e (tF G (Xe c)):=PE.d? h λB H Q u=>by
 obtain⟨F,I,E,d,A,R,e,k⟩:=u;cases e;intro x a f hdx w;have j:(ff H a (.jj x)) x=J:=by rw[vn (λz=>w z.symm)];exact f
 have m:ve H (ff (ff H a (.jj x)) x (.nj (G.ca c) a [])):=(vw hdx _).t (vw j _);have R2:=R.i0 m (λ_ _ e=>e) (R.sub.t m) (λb o e=>.inl e);have l:=R.f5 f;have q:=R2.ri vb l (R.i1 f) (λi t r to z=>R.apart f i t r to z);refine k _ _ _ (vw l _) q ?_;unfold cb;exact⟨x,a,[],O,vb,O,vM⟩
end
section
variable{X:Cx}{B:Bz}{k:Nat}{p pos:Pos}{x:Str}{c:Nat}
class K0f(B:Bz)(x:Str)(c:Nat):Prop where p:Mk0 B.G.K (B.G.ca c)/\B.mg x=Z (.ref (B.G.ca c))
def abA [C:Cz X B k][Q:K0f B x c](a:Gz X x)(hd:(x==("__debug__" : Str))=δ):ZE X B (.Call (.Name x p) [] [] pos) (Xe c):=⟨RB (RA (by rw[C.K];exact Q.p.1) a (by rw[C.mg];exact Q.p.2) hd)⟩
end
end L4
namespace L4
open PySem PySem.Spec PyProof.Rows L2 L3
section
variable{X:Cx}{B:Bz}{k j i m:Nat}{x:Str}{e e':Expr}{es:List Expr}{d:D}{p pos:Pos}{g:D->D->Option D}
def adw:ZB X B l Tg:=⟨λa s f H D I h=>by
 obtain⟨F,c,b,o,R,e,_⟩:=h;cases e⟩
end
theorem B4.mono(M:B4 G P w i b? j m c h)(e:eU j k=γ):B4 G P w i b? k m c h:=by obtain⟨f,d,l,a,b,c,F⟩:=M;exact⟨f,d,l,a,b,c,F.mono (eQ.mp e)⟩
section
variable{X:Cx}{G:Bg}
def F?(g:bp->bp->Option (D×bp))(a n:FA):FE:=λh=>match a h with
 |some (e,b)=>match n b with
  |some (f,c)=>match g f e with
   |some (d,_)=>Z (d,c)
   |none=>J
  |none=>J
 |none=>J
theorem vy.temp(R:vy G F σ ρ H0 H)(hb:F.B b=J)(ap:rf σ ρ b)(j:ve H0 a)(s2:ve a H')(d:∀c o,H c=Z o->c≠b->H' c=Z o)(fr:∀c o,a c=Z o->H0 c=Z o\/H c=J)(m:H' b=Z (.bt p)):vy G F σ ρ a H' where
 sub:=s2
 g0:=R.g0.t j
 keep:=λc o e n=>d c o (R.keep c o e n) λz=>by rw[z,hb]at e;cases e
 fr:=λc o e=>(fr c o e).elim (R.fr c o) λh=>.inr (R.i1 h)
 am:=λc l=>by
  obtain⟨o,q⟩:=R.am c l;by_cases z:c=b
  .exact⟨_,z▸m⟩
  .exact⟨o,d c o q z⟩
 len:=R.len
 sl:=λi t e=>(R.sl i t e).i0 j (λc u z so q=>d c u q λw=>ap i t e so (by rw[z,w])) λc u z so q f=>by
  cases w:a c with
  |none=>rfl
  |some o=>
   rcases fr c o w with v|v
   .rw[v]at f;cases f
   .rw[v]at q;cases q
 ap:=R.ap
end
mutual
def Jh:D->Bool
 |.E=>γ
 |.I _=>γ
 |.int _=>γ
 |.str _=>γ
 |.du a=>Ji a
 |.bt a=>Ji a
 |_=>δ
def Ji:bp->Bool
 |[]=>γ
 |d::a=>Jh d&&Ji a
end
mutual
theorem cb.but(e:∀b o,H b=Z o->(∀u kvs,o≠HO.n? u (.dK kvs))->p b=Z o):∀(d:D) (v:V),Jh d=γ->cb G H d v->cb G p d v
 |.E,v,_,h=>by unfold cb at h ⊢;exact h
 |.I b,v,_,h=>by unfold cb at h ⊢;exact h
 |.int i,v,_,h=>by unfold cb at h ⊢;exact h
 |.str x,v,_,h=>by unfold cb at h ⊢;exact h
 |.du f,v,n,h=>by
  unfold cb at h ⊢;unfold Jh at n;obtain⟨a,j,rfl,l,m⟩:=h;refine⟨a,j,O,?_,uQ.but e f j n m⟩;rcases l with (h|⟨o,h⟩)|h
  .exact .inl (.inl (e _ _ h λ_ _ z=>nomatch z))
  .exact .inl (.inr ⟨o,e _ _ h λ_ _ z=>nomatch z⟩)
  .exact .inr h
 |.bt f,v,n,h=>by unfold cb at h ⊢;unfold Jh at n;obtain⟨a,j,rfl,l,m⟩:=h;exact⟨a,j,O,e _ _ l (λ_ _ z=>nomatch z),uQ.but e f j n m⟩
 |.R f,v,n,h=>by unfold Jh at n;cases n
 |.obj c r f,v,n,h=>by unfold Jh at n;cases n
 |.Q q f,v,n,h=>by unfold Jh at n;cases n
theorem uQ.but(e:∀b o,H b=Z o->(∀u kvs,o≠HO.n? u (.dK kvs))->f b=Z o):∀(a:bp) (c:bN),Ji a=γ->uQ G H a c->uQ G f a c
 |[],c,_,h=>by unfold uQ at h ⊢;exact h
 |d::a,c,n,h=>by unfold uQ at h ⊢;unfold Ji at n;rw[aW]at n;obtain⟨v,r,rfl,i,j⟩:=h;exact⟨v,r,O,cb.but e d v n.1 i,uQ.but e a r n.2 j⟩
end
section
variable{t:bC}{m n:Nat}
def tM(m:Nat):bC:=⟨m,#[],#[],0,δ,0,δ⟩
def Wy(m:Nat)(a:Nat->Prop)(j:Nat):Nat->fH->Prop
 |0,_=>False
 |f+1,p=>p.j=j\/(a p.j/\Wy m a j f ((tM m).advance p))
end
section
variable{κ α:Type}[DecidableEq κ]
def x?(l:List κ):List κ:=l.foldl (λacc k=>if k∈acc then acc else acc++[k]) []
theorem Ii:∀(l acc:List κ),acc.Nodup->(l.foldl (λacc k=>if k∈acc then acc else acc++[k]) acc).Nodup/\∀x,x∈l.foldl (λacc k=>if k∈acc then acc else acc++[k]) acc ↔ x∈acc\/x∈l
 |[],acc,h=>⟨h,λx=>⟨.inl,λh=>h.resolve_right (by simp)⟩⟩
 |k::l,acc,h=>by
  rw[iK];split
  .rename_i f;obtain⟨c,d⟩:=Ii l acc h;refine⟨c,λx=>(d x).t ⟨λh=>h.imp id (ba _),λh=>?_⟩⟩;rcases h with h|h
   .exact .inl h
   .rcases aL.1 h with rfl|h
    .exact .inl f
    .exact .inr h
  .rename_i f;obtain⟨c,d⟩:=Ii l (acc++[k]) (cp.2 ⟨h,dB.2 ⟨cA,.nil⟩,λa i b j e=>f (by rw[<-bj.1 j,<- e];exact i)⟩);refine⟨c,λx=>(d x).t ?_⟩;rw[aT,bj,aL,or_assoc]
def OH(l:List κ):(x? l).Nodup:=(Ii l [] .nil).1
def L6{l:List κ}{x:κ}:x∈x? l ↔ x∈l:=((Ii l [] .nil).2 x).t ⟨λh=>h.resolve_left (by simp),.inr⟩
end
end L4
namespace L4
open PySem PySem.Spec PySem.Calls PyProof.Rows PySem.W L2 L3
section
variable{prog:aH}{w:az}{A:aI}{E:ab->ae->Prop}{s:ae}
theorem RD(h:Q 0xFCA86420 { s with toks:=s.toks+1 }):ai (model prog w) A (pyHash .none) Q E s:=by
 show ai _ _ (pyHashByItsType .none) Q E s;unfold pyHashByItsType;refine af ?_;rw[cRoomFor,ao (by rw[show [Value.none].any Value.onHeap=δ from O];exact bq)];refine ar ?_;refine af (gR (jU s) jz.lookup ?_);show ai _ _ (if (Z (Value.builtin "NoneType.__hash__")==Z Value.none)=γ then _ else _) Q E s;rw[ao (by rw[beq_builtin_none];exact bq)];refine af (gR (jU s) jz.lookup ?_);show ai _ _ (callSpecialIfBoundUnlessNone? .none "__hash__" _>>=_) Q E s;refine af (wpAny_callSpecialIfBoundUnlessNone?_slot (jU s) jz
  (fW jz (jU s) F.entry_NoneType_hash
   (show ai _ _ (do ret (<-mkInt 0xFCA86420)) _ _ s from wpAny_ret_mkInt ?_) (F.args_NoneType_hash_1 _)))
 exact ar h
def Xf(h:Q γ s):ai (model prog w) A (eqBool .none .none) Q E s:=by unfold eqBool;refine bP ?_;rw[ak (show (Value.none==Value.none)=γ from O)];exact af (hG (ar h))
def oIs:Option fc->ab->Bool
 |none,.none=>γ
 |none,_=>δ
 |some k,v=>Ip k v
def Ag(h:oIs k v=γ):(k=J/\v=.none)\/(∃i t,k=Z (Sum.inl i)/\v=Value.int i t)\/∃x t,k=Z (Sum.inr x)/\v=Value.str x t:=by
 cases k with
 |none=>cases v<;>first|exact .inl ⟨O,O⟩|cases h
 |some k=>
  rcases we (k:=k) h with ⟨i,t,rfl,rfl⟩|⟨x,t,rfl,rfl⟩
  .exact .inr (.inl ⟨i,t,O,O⟩)
  .exact .inr (.inr ⟨x,t,O,O⟩)
def ζ(prog:aH)(w:az):qA prog w (Option fc) where
 is:=oIs
 hash:=λk=>match k with|none=>0xFCA86420|some k=>keyH w k
 inj:=λv a b ha hb=>by rcases Ag ha with ⟨rfl,rfl⟩|⟨i,t,rfl,rfl⟩|⟨x,t,rfl,rfl⟩<;>rcases Ag hb with ⟨rfl,e⟩|⟨j,u,rfl,e⟩|⟨y,u,rfl,e⟩<;>first|rfl|(cases e;rfl)|cases e
 byValue:=λk v h=>by rcases Ag h with ⟨rfl,rfl⟩|⟨i,t,rfl,rfl⟩|⟨x,t,rfl,rfl⟩<;>rfl
 pyHash:=λ{A E s k v Q} c h=>by
  cases k with
  |some k=>exact(vA prog w).pyHash (k:=k) c h
  |none=>
   rcases Ag c with ⟨_,rfl⟩|⟨i,t,e,_⟩|⟨x,t,e,_⟩
   .exact RD h
   .cases e
   .cases e
 eqBool:=λ{A E s a b u v Q} d c h=>by
  rcases Ag d with ⟨rfl,rfl⟩|⟨i,t,rfl,rfl⟩|⟨x,t,rfl,rfl⟩<;>rcases Ag c with ⟨rfl,rfl⟩|⟨j,u,rfl,rfl⟩|⟨y,u,rfl,rfl⟩
  .exact Xf h
  .exact oR j u _ _ _ _ h
  .exact oT y u _ _ _ _ h
  .exact oU i t _ _ _ _ h
  .exact(vA prog w).eqBool (a:=Sum.inl i) (b:=Sum.inl j) d c (by simpa using h)
  .exact(vA prog w).eqBool (a:=Sum.inl i) (b:=Sum.inr y) d c (by simpa using h)
  .exact oV x t _ _ _ _ h
  .exact(vA prog w).eqBool (a:=Sum.inr x) (b:=Sum.inl j) d c (by simpa using h)
  .exact(vA prog w).eqBool (a:=Sum.inr x) (b:=Sum.inr y) d c (by simpa using h)
 «strs»:=λk x t v h=>by
  cases k with
  |none=>cases h
  |some k=>exact(vA prog w).strs k x t v h
def Xg{h:Heap}(m:h.MapOf (vA prog w) a f):h.MapOf (ζ prog w) a (λk=>match k with|none=>J|some k=>f k):=by
 obtain⟨o,p,l,q,r,u,j,y⟩:=m;refine⟨o,p,l,q,r,u,λe b=>?_,λk=>?_⟩
 .obtain⟨k,c,z⟩:=j e b;exact⟨Z k,c,z⟩
 .cases k with
  |some k=>exact y k
  |none=>
   unfold findBy;rw[Array.find?_eq_none.2 λe b=>?_]
   .rfl
   .obtain⟨k,c,_⟩:=j e b;rcases we c with ⟨i,t,_,d⟩|⟨x,t,_,d⟩<;>(rw[d];exact bq)
end
section
variable{X:Cx}{G:Bg}{H:Hp}{pins:cD}{σ:St}{s:ae}
def abB(I:c3 X pins σ H s)(e:Rd H a (.dK kvs))(h:∀c,c3 X pins σ H c->Q .none c):ai (model X.prog X.w) A (call (.builtin "dict.get") [.ref a,.none]) Q E s:=by obtain⟨z,hd,d,rel,b⟩:=GP I.fx e;exact gY fF b.typeIs iJ (lp _ _) (qq (ζ X.prog X.w) a (k:=J) O hd) ⟨_,Xg b.mapOf,h _ (I.xr _)⟩
def abC(d ty:TE):TE:=λσ H Q=>d σ H λx c=>∃a,x=.ref a/\IsD c a/\ty σ c λy b=>(∃o,sx b a y o/\Q (o.getD .E) b)\/(y=.E/\(∃kvs,Rd b a (.dK kvs))/\Q .E b)
def Uj(B:X.A.units+1<cLine)(z:PE X o S)(w:PE X e ty)(m:M1 X o "get" apos e cpos):PE X (.Call (.Attribute o "get" apos) [e] [] cpos) (abC S ty):=by
 intro pins s σ H Q I h;refine jE m.b? m.few m.line jF fF lY (fy (z pins s σ H _ I h) λu M c=>?_);obtain⟨x,r,l,F,a,t,d,E⟩:=c;subst t;obtain rfl:u=Value.ref a:=F;obtain⟨P,R,_⟩:=LG l d;refine⟨P,R,?_⟩;rw[m.Rk];refine ir O (iy (eE (fy (w pins M σ r _ l E) λC U c=>fV ?_)));obtain⟨y,j,p,q,⟨T,g,f⟩|⟨rfl,⟨kvs,e⟩,f⟩⟩:=c
 .exact Sv B p g q λW N b i=>⟨_,j,b,i,f⟩
 .obtain rfl:C=.none:=q;exact abB p e λN b=>⟨.E,j,b,O,f⟩
def Ny:D->D->Option D:=λx y=>match y with
 |.E=>match x with
  |.Q _ _=>Z .E
  |_=>J
 |y=>CG x y
def Uk(hu:X.A.units+1<cLine)(ha:PE X a (tF G f))(hb:PE X b (tF G f'))(m:M1 X a "get" apos b cpos):PE X (.Call (.Attribute a "get" apos) [b] [] cpos) (tF G (c2 Ny f f')):=PE.d? (Uj hu ha hb m) λσ H Q hh=>by
 obtain⟨F,ρ,T,d,I,R,e,k⟩:=hh;obtain⟨x,y,q,Y,e2,c⟩:=EX e;cases x with
 |Q l N=>
  refine⟨F,ρ,T,_,q,R,Y,λv U W E M r1=>?_⟩;have o:=r1;unfold cb at o;obtain⟨p,ob,xs,rfl,B,h2,h3⟩:=o;refine⟨p,O,.inl ⟨_,.inr ⟨_,M.sub _ _ B⟩⟩,F,q,U,y,I,M,e2,λu r h i R2 C=>?_⟩;by_cases S:y=.E
  .subst S;cases c;unfold cb at C;subst C;exact .inr ⟨O,⟨_,.inr ⟨_,R2.sub _ _ (i _ _ B)⟩⟩,k _ r h (E.t i) R2 AW⟩
  .left;have c:CG (.Q l N) y=Z d:=by
    unfold Ny at c;split at c
    .exact aq O S
    .exact c
   unfold CG at c;cases t:BE y with
   |none=>simp only[t]at c;cases c
   |some j=>
    simp only[t]at c;cases c;have lv:=De (ks:=l) j (uQ.mono i _ _ h3) h2;refine⟨y3 (l.zip xs) j,?_,?_⟩
    .rw[B5 C t];exact sx.kf (R2.sub _ _ (i _ _ B))
    .cases P:xk l N j with
     |none=>rw[P]at lv k;rw[lv];exact k _ r h (E.t i) R2 AW
     |some z=>rw[P]at lv k;obtain⟨w,w1,w2⟩:=lv;rw[w1];exact k _ r h (E.t i) R2 w2
 |_=>
  unfold Ny at c;split at c
  .cases c
  .unfold CG at c;cases c
end
section
variable{X:Cx}{B:Bz}{k:Nat}{e e':Expr}{f f':FE}{apos pos:Pos}
def abD [C:Cz X B k](d:ZE X B e f)(h:ZE X B e' f')(b:Az X e "get")(c:Ez apos pos)(a:S1 X e'):ZE X B (.Call (.Attribute e "get" apos) [e'] [] pos) (c2 Ny f f'):=⟨Uk (MM C.r) d.p h.p ⟨b,by rw[a];rfl,c,by rw[a];rfl⟩⟩
end
section
variable{X:Cx}{G:Bg}
def I1:D->Option D
 |.int i=>if i.natAbs.log2<1920 then Z (.str (toString i))else J
 |_=>J
def cd_str:IR G (λc H Q=>∃i,c=[.int i]/\i.natAbs.log2<1920/\Q (.str (toString i)) H) I1:=λx z d H v Q e s a k=>by
 cases x with
 |int i=>
  rw[show I1 (.int i)=if i.natAbs.log2<1920 then Z (.str (toString i))else J from O]at e;split at e
  .rename_i b;cases e;unfold cb at a;subst a;exact⟨i,O,b,k _ λ_ _=>zB _⟩
  .cases e
 |_=>cases e
def pf_b2{e:Expr}{r:bN->Hp->VK->Prop}{g:Int->Int->Int}{f m:FE}(B:∀i j H Q,Q (.int (g i j)) H->r [.int i,.int j] H Q)(h:PE X e (tCB r (vo G (ax f (ax m vB))))):PE X e (tF G (c2 (λx y=>match x,y with|.int i,.int j=>Z (.int (g i j))|_,_=>J) f m)):=PE.d? h λT H Q A=>by
 obtain⟨F,C,q,d,l,R,e,k⟩:=A;obtain⟨x,y,E,w,z,c⟩:=EX e;split at c
 .cases c;rename_i i j;refine⟨F,C,q,[.int i,.int j],l,R,by unfold ax;rw[w];simp only[z];rfl,λS I t s u rs=>?_⟩;unfold uQ at rs;obtain⟨v,M,rfl,p,o⟩:=rs;unfold uQ at o;obtain⟨P,N,rfl,b,a⟩:=o;unfold uQ at a;subst a;unfold cb at p b;subst p b;exact B i j _ _ (k _ _ _ s u (xt _))
 .cases c
def Y?:D->D->Option D:=λx y=>match x,y with|.int i,.int j=>Z (.int (if j > i then j else i))|_,_=>J
def Z?:D->D->Option D:=λx y=>match x,y with|.int i,.int j=>Z (.int (if j<i then j else i))|_,_=>J
def iR2(f c:FE):FA:=λd=>match f d with
 |some (.int i,a)=>match c a with
  |some (.int j,b)=>if (-1000000<=i/\i<=1000000)/\-1000000<=j/\j<=1000000 then Z (B2 i (j - i).toNat,b)else J
  |_=>J
 |_=>J
def V?(h:PI X u e (XJ (vo G (ax f (ax r vB))))):PI X u e (μ G (iR2 f r)):=PI.d? h λP H R t=>by
 obtain⟨F,w,l,B,x,R,e,k⟩:=t;unfold iR2 at e;split at e
 .rename_i i y p;split at e
  .rename_i j z q;split at e
   .rename_i C;cases e;refine⟨F,w,l,[.int i,.int j],_,R,by unfold ax;rw[p];simp only[q];rfl,λN A m s o rs=>?_⟩;unfold uQ at rs;obtain⟨v,E,rfl,d,c⟩:=rs;unfold uQ at c;obtain⟨M,I,rfl,b,a⟩:=c;unfold uQ at a;subst a;unfold cb at d b;subst d b;refine⟨i,j,O,⟨by omega,by omega,by omega,by omega⟩,?_⟩;exact k _ _ _ s o M5
   .cases e
  .cases e
 .cases e
end
section
variable{X:Cx}{B:Bz}{k:Nat}{e e' tg:Expr}{f f':FE}{p p2 p3 pos apos:Pos}
def zr_srI [C:Cz X B k][N:Nb B "str"](c:Gz X "str")(a:S1 X e)(b:ZE X B e f):ZE X B (.Call (.Name "str" p) [e] [] pos) (c1 I1 f):=⟨S6 cd_str (ctI c (by decide) a Lu (by decide +kernel) (wZ b.p yD a))⟩
def zr_mxI [C:Cz X B k][N:Nb B "max"](l:Gz X "max")(b:aC [e,e'] X.b1=[(δ,eval e X.b1),(δ,eval e' X.b1)])(a:S1 X e')(d:ZE X B e f)(h:ZE X B e' f'):ZE X B (.Call (.Name "max" p) [e,e'] [] pos) (c2 Y? f f'):=
 ⟨pf_b2 (g:=λi j=>if j > i then j else i) (λi j H Q q=>⟨i,j,O,q⟩) (BA (QF C.c) l (C.mg▸N.p) boot_max (wZ d.p (wZ h.p yD a) (by rw[b,a])) (by decide) (by decide) (by rw[b,a]) (by rw[a];rfl))⟩
def zr_mnI [C:Cz X B k][N:Nb B "min"](l:Gz X "min")(b:aC [e,e'] X.b1=[(δ,eval e X.b1),(δ,eval e' X.b1)])(a:S1 X e')(d:ZE X B e f)(h:ZE X B e' f'):ZE X B (.Call (.Name "min" p) [e,e'] [] pos) (c2 Z? f f'):=
 ⟨pf_b2 (g:=λi j=>if j<i then j else i) (λi j H Q q=>⟨i,j,O,q⟩) (BA (QG C.c) l (C.mg▸N.p) boot_min (wZ d.p (wZ h.p yD a) (by rw[b,a])) (by decide) (by decide) (by rw[b,a]) (by rw[a];rfl))⟩
def zr_r2I [C:Cz X B k][N:Nb B "range"](h:Gz X "range")(b:aC [e,e'] X.b1=[(δ,eval e X.b1),(δ,eval e' X.b1)])(a:S1 X e')(c:ZE X B e f)(d:ZE X B e' f'):ZI X B tg (.Call (.Name "range" p) [e,e'] [] pos) (iR2 f f'):=⟨V? (QD h (C.mg▸N.p) (wZ c.p (wZ d.p yD a) (by rw[b,a])) b a)⟩
end
def tOr(t a:Ty->Option Bool):Ty->Option Bool:=λy=>match t y with
 |some γ=>match a y with
  |some _=>Z γ
  |none=>J
 |some δ=>a y
 |none=>J
def inst_or(h:IW G c t)(l:IW G d i):Py G [c,d] (tOr t i):=by
 refine⟨λy b e=>?_,λj b e=>?_⟩
 .unfold tOr at e;show kitAny G.K (y.val G) [.ref (G.ca c),.ref (G.ca d)]=Z b;unfold kitAny;cases a:t y with
  |none=>simp only[a]at e;cases e
  |some v=>
   simp only[a]at e;rw[h.1 y v a];cases v with
   |true=>
    cases f:i y with
    |none=>simp only[f]at e;cases e
    |some w=>simp only[f]at e;cases e;rfl
   |false=>simp only at e;unfold kitAny;simp only;rw[l.1 y b e];cases b<;>rfl
 .unfold tOr at e;cases a:t (.c j)with
  |none=>simp only[a]at e;cases e
  |some v=>exact h.2 j v a
section
variable{X:Cx}{B:Bz}{k:Nat}{e:Expr}{f:FE}{p p2 p3 p4 pos:Pos}{x y:Str}
def zr_i2I{d}[Q:Ic B x t][o:Ic B y F][C:Cz X B k][N:Nb B "isinstance"](u:Gz X "isinstance")(r:Gz X x)(i:Gz X y)(m:aC [e,.Tuple [.Name x p2,.Name y p3] d p4] X.b1=[(δ,eval e X.b1),(δ,eval (.Tuple [.Name x p2,.Name y p3] d p4) X.b1)])(a:S1 X (.Tuple [.Name x p2,.Name y p3] d p4))(j:aC [.Name x p2,.Name y p3] X.b1=[(δ,eval (.Name x p2) X.b1),(δ,eval (.Name y p3) X.b1)])(b:S1 X (.Name y p3))(q:ZE X B e f)(hd:Dz x)(h:Dz y):ZE X B (.Call (.Name "isinstance" p) [e,.Tuple [.Name x p2,.Name y p3] d p4] [] pos) (c1 (v5 (tOr t F)) f):=by
 obtain⟨c,w,z⟩:=Q.p;obtain⟨l,A,E⟩:=o.p;refine⟨TC (cs:=[c,l]) (BA (Ou (inst_or w A) C.K) u (C.mg▸N.p) l4 (xi q.p (xi (Si (xi (HY (v:=.ref (B.G.ca c)) r (C.mg▸z) O hd) (xi (HY (v:=.ref (B.G.ca l)) i (C.mg▸E) O h) zP b) ?_)) zP a) ?_) (by decide) (by decide) ?_ ?_) (by show 2<=1000;decide)⟩
 .rw[j,b]
 .rw[m,a]
 .rw[m,a]
 .rw[a];rfl
end
section
variable{P:aH}{w:az}{mg:Str->Option ab}{b?:Heap}{G:Bg}{x:Str}
def GX(K:av)(x s:Str):Prop:=∃t:Tok,nsIn K bf x=Z (Z (.str s t))
def const_str(X:G.K.In h)(a:h.Ns bf mg)(e:nsIn G.K bf x=Z (Z (.str z t))):AY G mg x (.str z):=
 ⟨.str z,_,i6 X a e,⟨_,O⟩,λ_=>zB _⟩
def Yw.cx(y:Yw P w mg b? G)(q:GX G.K x s):AY G mg x (.str s):=by obtain⟨h,X,a⟩:=y.m;obtain⟨t,e⟩:=q;exact const_str X a e
end
section
variable{X:Cx}{G:Bg}
theorem Rn{K:av}:∀{l:List L3.Dq} {f:bN} {c:List ab},L3.uQ K H l f->ef f c->(∀u∈c,∃e∈l,∃x,L3.cb K H e x/\et x u)/\∀e∈l,∃u∈c,∃x,L3.cb K H e x/\et x u
 |[],f,c,r,v=>by unfold L3.uQ at r;subst r;cases v;exact⟨λu b=>(by cases b),λe a=>(by cases a)⟩
 |d::l,f,c,r,v=>by
  unfold L3.uQ at r;obtain⟨x,q,rfl,h,j⟩:=r;cases v with
  |cons i p=>
   obtain⟨m,o⟩:=Rn j p;refine⟨λu b=>?_,λe a=>?_⟩
   .rcases aL.1 b with rfl|b
    .exact⟨d,bb,x,h,i⟩
    .obtain⟨e,a,z⟩:=m u b;exact⟨e,ba _ a,z⟩
   .rcases aL.1 a with rfl|a
    .exact⟨_,bb,x,h,i⟩
    .obtain⟨u,b,z⟩:=o e a;exact⟨u,ba _ b,z⟩
end
section
variable{X:Cx}{B:Bz}{k i:Nat}{e:Expr}{f:FE}{a:FA}{x:Str}{p p2 p3 pos apos:Pos}
def zr_xsI{b}(h:wh X i x=γ)(d:ZE X B e f)(l:swapsWithSole [.Subscript (.Name x p) (.Constant (.int j) b p2) p3] e pos.line X.b1=pure δ)(m:swappedStores [.Subscript (.Name x p) (.Constant (.int j) b p2) p3] e X.b1=pure J)
  (c:(cc [.Subscript (.Name x p) (.Constant (.int j) b p2) p3] X.b1).map (·.2)=[assign (.Subscript (.Name x p) (.Constant (.int j) b p2) p3) X.b1]):ZS X B (.Assign [.Subscript (.Name x p) (.Constant (.int j) b p2) p3] e pos) (Bd i j f):=⟨Re (RZ d.p (YG (S3 h) Lq set_list) l m c)⟩
def zr_xeI [C:Cz X B k](h:wh X i x=γ)(d:Az X (.Name x p) "extend")(j:Ez apos pos)(b:S1 X e)(c:ZN X B e a):ZE X B (.Call (.Attribute (.Name x p) "extend" apos) [e] [] pos) (HP i a):=
 ⟨Q2 (bmI d j b jH jB pj QO (S3 h) (xi c.p zP b))⟩
end
section
variable{B:Bz}[Y:Yb B]{k np n:Nat}{b:FS}{x p:Str}{ps:aF}{st s0:Stmt}{l:List Stmt}
def gM5(N:aF)(c:g=t? np n b)(q:GD B.G.K x st)(d:vV st=s0::l)(e:psO st=p::ps)(body:π B N x st (s0::l) k b)(S:okO N (p::ps) st (np+1) n=γ:=by kernel_rfl)(a:θ x x st (p::ps):=by (repeat intro _);rfl):Df B (k+1) x (u7 B.G g):=
 ⟨_,gM c Y.y q (xo S).1 (body.ok d) (iU (xo S).2.1) (xo S).2.2 a⟩
end
def sOf:ab->Str
 |.str x _=>x
 |_=>""
structure ke(w:az)(h:Heap)(S:Addr)(ss:aF)(led:Bool)(o:Obj)(es:Array (Int×ab))(ep:Nat)(t:bC):Prop where
 i?:h.get? S=Z o
 ex:o.ExactSet
 d:o.data=.set es ep t
 f:t.fits es.size=γ
 led:t.led=led
 pl:0<ss.length->t.plain=δ
 el:∀e∈es.toList,∃x tk,e=(hashStr w x,Value.str x tk)
 p:(es.toList.map λe=>sOf e.2).Perm ss
def ke.sz{w:az}{h:Heap}{S:Addr}{a:aF}{led:Bool}{o:Obj}{es:Array (Int×ab)}{ep:Nat}{t:bC}(x:ke w h S a led o es ep t):es.size=a.length:=by have:=x.p.length_eq;rw[ah,bO]at this;exact this
def lay_led(t:bC)(a:Array (Int×ab))(h:Int)(x:ab):(layNew t a h x).2.1.led=t.led/\(t.plain=δ->(layNew t a h x).2.1.plain=δ):=by
 unfold layNew;split
 .rename_i b c e;show ((t.put b).1.orStandIn _).led=_/\(_->((t.put b).1.orStandIn _).plain=δ);unfold SetTable.orStandIn;split
  .exact⟨O,id⟩
  .exact⟨O,λ_=>O⟩
 .exact⟨O,λ_=>O⟩
def relay_led(t:bC)(a:Array (Int×ab))(n:Nat):(relayAll t a n).2.1.led=t.led/\(t.plain=δ->(relayAll t a n).2.1.plain=δ):=by
 unfold relayAll;split
 .rename_i c order e;unfold SetTable.relaid mr at e;obtain⟨b,_,e⟩:=ju.1 e;cases e;dsimp only;split
  .exact⟨O,id⟩
  .exact⟨O,λ_=>O⟩
 .exact⟨O,λ_=>O⟩
section
variable{prog:aH}{w:az}{A:aI}{E:ab->ae->Prop}{s:ae}{S:Addr}{o:Obj}{es:Array (Int×ab)}{ep:Nat}{t:bC}{ss:aF}{led:Bool}
def ke.elems(x:ke w s.heap S ss led o es ep t):ElemsOf (dX prog w) es.toList:=λe a=>by obtain⟨z,b,rfl⟩:=x.el e a;exact⟨⟨z,by simp[dX,gV],O⟩,O⟩
def ke.mem(x:ke w s.heap S ss led o es ep t)(z:Str):z∈ss ↔ ∃e∈es.toList,(dX prog w).is z e.2=γ:=by
 rw[<-x.p.mem_iff,au];constructor
 .rintro⟨e,a,rfl⟩;obtain⟨y,b,rfl⟩:=x.el e a;exact⟨_,a,by simp[dX,gV,sOf]⟩
 .rintro⟨e,a,h⟩;obtain⟨y,b,rfl⟩:=x.el e a;exact⟨_,a,by simpa [dX,gV,sOf]using h⟩
def ke.stored(x:ke w s.heap S ss led o es ep t){a:Array (Int×ab)}{b:bC}{ss':aF}(f:b.fits a.size=γ)(l:b.led=led)(pl:0<ss'.length->b.plain=δ)(el:∀e∈a.toList,∃x tk,e=(hashStr w x,Value.str x tk))(p:(a.toList.map λe=>sOf e.2).Perm ss'):
  ke w (s.heap.update S (hE a b)) S ss' led { o with data:=.set a (ep+1) b } a (ep+1) b:=
 ⟨Ov x.i? x.d,x.ex,O,f,l,pl,el,p⟩
def tail_x{g:Bool->Sem Unit}(hg:∀(b:Bool) (i:ae) (B:Unit->ae->Prop),B () i->ai (model prog w) A (g b) B E i)(X:ke w s.heap S ss led o es ep t)
  {a:Array (Int×ab)} {c:bC} {ss':aF} (f:c.fits a.size=γ) (l:c.led=led) (pl:c.plain=δ) (el:∀e∈a.toList,∃x tk,e=(hashStr w x,Value.str x tk)) (p:(a.toList.map λe=>sOf e.2).Perm ss') (hb:a.size<scanBound)
  {wasDummy:Bool} {R:Option Bool->ae->Prop} (h:∀h' G u r H,dD S s.heap h'->ke w h' S ss' led G u r H->R (Z γ) { s with heap:=h' }):
  ai (model prog w) A (do
    storeSet S a c
    if (!wasDummy&&c.tooFull)=γ then do
      g (relayAll c a (dW a.size)).2.2
      storeSet S (relayAll c a (dW a.size)).1 (relayAll c a (dW a.size)).2.1
      pure (Z γ)
     else pure (Z γ)) R E s:=by
 refine af (jI X.i? X.d ?_ (pK hb));have m:=X.stored (ss':=ss') f l (λ_=>pl) el p;have hsb1:=dw s.heap S (hE a c);split
 .have j:=relayAll_perm c a (dW a.size);have hfr:=relayAll_fits c a (dW a.size);have q:=relay_led c a (dW a.size);generalize relayAll c a (dW a.size)=C at j hfr q ⊢;obtain⟨y,I,gave2⟩:=C;dsimp only at j hfr q ⊢;have z:y.size=a.size:=by rw[<-bO,j.length_eq,bO]
  refine af (hg _ _ _ ?_);refine af (jI m.i? m.d ?_ (pK (by rw[z];exact hb)));exact ar (h _ _ _ _ _ (hsb1.t (dw _ S _)) (ke.stored (s:={ s with heap:=s.heap.update S (hE a c) }) (ss':=ss') m hfr (q.1.t l) (λ_=>q.2 pl) (λe F=>el e (j.mem_iff.1 F)) ((j.map _).t p)))
 .exact ar (h _ _ _ _ _ hsb1 m)
def add_x(X:ke w s.heap S ss led o es ep t)(hb:ss.length+1<scanBound)
  (G:x∈ss->Q δ s)
  (H:x∉ss->∀h' q h c r,dD S s.heap h'->ke w h' S (ss++[x]) led q h c r->Q γ { s with heap:=h' }):ai (model prog w) A (setAddHashed S (.str x tk) (hashStr w x)) Q E s:=by
 have sz:=X.sz;have hkey:(dX prog w).is x (.str x tk)=γ:=by simp[dX,gV]
 unfold setAddHashed setAddHashedIn;refine bP (af (df X.i? X.d X.f ?_));dsimp only;rw[byScan_of (knd:=dX prog w) O (by omega) X.elems];simp only[↓reduceIte];unfold setAddByScan;refine af ?_;refine af (hG ?_);refine af (wpAny_setScan_of (knd:=dX prog w) hkey X.i? X.d X.f X.elems ?_);cases hr:List.findIdx? (λe=>(dX prog w).is x e.2) es.toList with
 |some j=>dsimp only;obtain⟨I,hpj,_⟩:=List.findIdx?_eq_some_iff_getElem.1 hr;exact ar (ar (G ((X.mem (prog:=prog) x).2 ⟨es.toList[j],fz I,hpj⟩)))
 |none=>
  dsimp only;have nin:x∉ss:=λN=>by obtain⟨e,l,M⟩:=(X.mem (prog:=prog) x).1 N;have:=List.findIdx?_eq_none_iff.1 hr e l;rw[M]at this;exact Bool.noConfusion this
  have hgw:∀(b:Bool) {a:ae} {u:Unit->ae->Prop},u () a->ai (model prog w) A (match b with|true=>rule "set.scan.the-table-gave-way" |false=>pure ()) u E a:=
   λb a u m=>by cases b<;>first|exact ar m|exact hG m
  have hperm:=layNew_perm t es (hashStr w x) (.str x tk);have hfits:=layNew_fits t es (hashStr w x) (.str x tk);have hled:=lay_led t es (hashStr w x) (.str x tk);show ai _ _ (match layNew t es (hashStr w x) (.str x tk)with|(es,t,wasDummy,gave)=>_) _ _ _;generalize layNew t es (hashStr w x) (.str x tk)=L at hperm hfits hled ⊢;obtain⟨i,P,wasDummy,gave⟩:=L;dsimp only at hperm hfits hled ⊢;rw[ly]at hperm;have y:∀e∈i.toList,∃x tk,e=(hashStr w x,Value.str x tk):=λe l=>by
   rcases aT.1 (hperm.mem_iff.1 l)with l|l
   .exact X.el e l
   .rw[bj]at l;exact⟨x,tk,l⟩
  have F:(i.toList.map λe=>sOf e.2).Perm (ss++[x]):=by have:=hperm.map λe:Int×ab=>sOf e.2;rw[bu]at this;exact this.t (X.p.append_right _)
  have z:i.size<scanBound:=by rw[<-bO,hperm.length_eq,aE,bO,sz];exact hb
  refine af (hgw _ ?_);have end_:∀(h':Heap) (q:Obj) (h:Array (Int×ab)) (c:Nat) (r:bC),dD S s.heap h'->ke w h' S (ss++[x]) led q h c r->Q γ { s with heap:=h' }:=H nin;split
  .refine af ?_;rw[hashByValue_scannable 8 O];refine ar ?_;show ai _ _ (storeSet S i { P with plain:=δ }>>=_) _ _ _;refine tail_x ?_ X (SetTable.fits_plain_off hfits) (hled.1.t X.led) O y F z ?_
   .intro b a u m;cases b<;>first|exact ar m|exact hG m
   .intro h' q h c r C B;dsimp only;exact ar (end_ h' q h c r C B)
  .rename_i hpl;refine af (ar ?_);simp only[↓reduceIte];refine tail_x ?_ X hfits (hled.1.t X.led) (by simpa using hpl) y F z ?_
   .intro b a u m;cases b<;>first|exact ar m|exact hG m
   .intro h' q h c r C B;dsimp only;exact ar (end_ h' q h c r C B)
end
section
variable{prog:aH}{w:az}{A:aI}{E:ab->ae->Prop}{s:ae}{S:Addr}{o:Obj}{es:Array (Int×ab)}{ep:Nat}{t:bC}
theorem iter_X(x:ke w s.heap S ss (!w.params.followText "set-order") o es ep t)(C:ss.length<64)
  (hQ:∀(h':Heap) (I TP:Addr) (kx:List ab) (d:Drawn),s.heap.objs.size<=I->I<h'.objs.size->TP≠I->(TP=S\/s.heap.objs.size<=TP)->(∀b o,s.heap.get? b=Z o->h'.get? b=Z o)->ItS w I S TP kx o es ep t 0 h'->kx.Perm (es.toList.map bH)->Q (.ref I) { s with heap:=h',drawn:=d }):
  ai (model prog w) A (pyIter (.ref S)) Q E s:=by
 have hf:=x.f;have ty:s.TypeIs (.ref S) "set" := ⟨o,x.i?,x.ex.1⟩;have hlt:=aR x.i?;refine pJ ty qj (fW qj ty LY ?_ (F.args_set_iter_1 _));unfold dJ.«frozenset.__iter__»;refine af (m:=tL _ _) (ar ?_);refine af ?_;unfold tJ setEntries;refine af (af (df x.i? x.d hf (ar ?_)));refine ar ?_;refine af ?_;unfold setDrawn;refine af (df x.i? x.d hf ?_);dsimp only;refine af (Gk ?_);refine ar ?_;have plain0:(w.params.followText "set-order" = γ\/(w.params.followText "set-order" = δ/\es.size<=1))->ai (model prog w) A.in1 (do
   let first<-pure (rawInt 0)
   let e<-setEpoch S;let r<-newFields "set_iterator" [first,rawInt 0,Value.ref S,rawInt ↑es.size,rawInt ↑e]
   ret r) (λfin i=>∃v,fin=Fin.done (Flow.ret v)/\∃a r,i.TypeIs v a/\typeLookup (Value.type a) (jP "__next__")=pure (Z r)/\Q v i) E s:=λc=>by
  refine af (ar ?_);refine af (pL x.i? x.d hf ?_);refine af (dQ ?_);have h:∀(l:Obj) (b:Addr) (o:Obj),s.heap.get? b=Z o->(s.heap.push l).get? b=Z o:=λl b o e=>aK _ e;have it:∀kx,Md w (s.heap.push { cls:=.type "set_iterator", data:=.fields [rawInt 0,rawInt 0,Value.ref S,rawInt ↑es.size,rawInt ↑ep].toArray }) S S 0 kx es ep t (.int 0 0)->kx.Perm (es.toList.map bH)->_:=λkx m p=>ar (M:=model prog w) (A:=A.in1) (E:=E) (Q:=λfin i=>∃v,fin=Fin.done (Flow.ret v)/\∃a r,i.TypeIs v a/\typeLookup (Value.type a) (jP "__next__")=pure (Z r)/\Q v i) ⟨.ref s.heap.objs.size,O,"set_iterator", _,⟨_,br _ O,O⟩,zb.lookup,hQ _ s.heap.objs.size S kx s.drawn (aO _) (by rw[cZ];exact dA _) (bc hlt) (.inl O) (h _) ⟨⟨_,.int 0 0,br _ O,O,O,m⟩,h _ _ _ x.i?,x.d,hf⟩ p⟩;rcases c with c|⟨c1,c2⟩
  .exact it _ (.txt c O) ((KO _ es).map _)
  .exact it _ (.one c1 c2 (by rw[x.led,c1];rfl) (λ_=>O) (λj e=>by cases e) O) (.refl _)
 cases c:w.params.followText "set-order" with
 |true=>rw[ao (by simp)];exact plain0 (.inl c)
 |false=>
  by_cases y:es.size<=1
  .rw[ao λz=>by
    have:(!δ&&(!t.plain&&decide (es.size > 1)))=γ:=z;simp at this;omega]
   exact plain0 (.inr ⟨c,y⟩)
  .have pl:t.plain=δ:=x.pl (by have:=x.sz;omega);rw[ak (by show (!δ&&(!t.plain&&decide (es.size > 1)))=γ;rw[pl];simp;omega)];refine af (PU es.size _ s cH λB d p=>?_);refine af (qu ?_ (by
    rw[ah,p.length_eq,cH,x.sz,bS];omega))
   refine af (pL (aK _ x.i?) x.d hf ?_);refine af (dQ ?_);have h:∀(q u:Obj) (b:Addr) (o:Obj),s.heap.get? b=Z o->((s.heap.push q).push u).get? b=Z o:=λq u b o e=>aK _ (aK _ e);have kx:(B.filterMap λp=>es[p]?.map bH).Perm (es.toList.map bH):=by refine(p.filterMap _).t ?_;rw[show (aU es.size).filterMap (λp=>es[p]?.map bH)=((aU es.size).filterMap λp=>es[p]?).map bH from(px ..).symm,kK]
   refine ar ⟨_,O,"set_iterator", _,⟨_,br _ O,O⟩,zb.lookup,hQ _ _ s.heap.objs.size _ d ?_ ?_ ?_ (.inr (aO _)) (h _ _) ⟨⟨_,.ref s.heap.objs.size,br _ O,O,O,.drw c (aK _ (br _ O)) O O O p O⟩,h _ _ _ _ x.i?,x.d,hf⟩ kx⟩
   .rw[cZ];exact iW _
   .exact Nat.lt_of_lt_of_eq (dA _) (cZ _ _).symm
   .rw[cZ];exact bc (dA _)
end
section
variable{prog:aH}{w:az}{A:aI}{E:ab->ae->Prop}{s:ae}{S:Addr}{o:Obj}{es:Array (Int×ab)}{ep:Nat}{t:bC}{ss:aF}
def ke.g?{h h':Heap}{led:Bool}(x:ke w h S ss led o es ep t)(k:∀o,h.get? S=Z o->h'.get? S=Z o):ke w h' S ss led o es ep t:={ x with i?:=k _ x.i? }
theorem collect_X(M:A.handled=J)(x:ke w s.heap S ss (!w.params.followText "set-order") o es ep t)(N:ss.length<64)
  (hQ:∀c k2 d2 acc,s.heap.objs.size<=c.objs.size->(∀b o,s.heap.get? b=Z o->c.get? b=Z o)->acc.Perm (es.toList.map bH)->Q acc { s with heap:=c,toks:=k2,drawn:=d2 }):ai (model prog w) A (collect (.ref S)) Q E s:=by
 have hlt:=aR x.i?;have P:es.size<=63:=by have:=x.sz;omega
 let lO:Obj:={ cls:=.type "list", data:=.seq ([]:List ab).toArray };unfold collect;refine af (qr (dS F.entry_proto_collect ?_));rw[eC F.plain_proto_collect _];show ai _ A.in1 (newList []>>=λl=>again (.builtin "list.__iadd__" ⟨[l,.ref S],[]⟩)) _ _ s;refine af (dQ ?_);refine ar ⟨f7 pM _,dS F.entry_list_iadd ?_⟩;rw[eC pM _];show ai _ A.in1 (nW (.ref s.heap.objs.size) (.ref S) (.ref s.heap.objs.size)) _ _ _;have m:(s.heap.push lO).objs.size=s.heap.objs.size+1:=cZ _ _;have r:ke w (s.heap.push lO) S ss (!w.params.followText "set-order") o es ep t:=x.g? λo e=>aK _ e;have B:mi { s with heap:=s.heap.push lO } (.ref S) "set" := ⟨o,r.i?,x.ex.1⟩;unfold nW;refine af (jQ B ?_);rw[ao (by
  have:oj (.ref s.heap.objs.size) (.ref S)=δ:=by simp[oj];exact λe=>aq e (gb hlt)
  rw[this];decide)]
 refine af (iter_X (s:={ s with heap:=s.heap.push lO }) r N λa I TP kx i hI1 hI2 hTI hTP p it po=>?_);have hI:s.heap.objs.size+1<=I:=by rw[<-m];exact hI1
 have L3:a.get? s.heap.objs.size=Z lO:=p _ _ (br _ O);have d:mi { s with heap:=a,drawn:=i } (.ref S) "set" := ⟨o,it.i?,x.ex.1⟩;have u:∀b o,s.heap.get? b=Z o->a.get? b=Z o:=λb o e=>p b o (aK _ e);show ai _ A.in1 (holding [.ref I] (nX (.ref S))>>=_) _ _ { s with heap:=a,drawn:=i };refine af (bP ?_);unfold nX;refine af (gR d F.slot_set_len.lookup ?_);generalize hid:("set.__len__" : String)=f;wp_delta;rw[show splitId f=Z ("set", "__len__") from by subst hid;decide +kernel];subst hid;refine af (p8 d sub_set_self ?_);dsimp only;rw[ao (by decide),ak (by decide +kernel)];refine af (jQ d ?_);refine ar ?_;rw[ak (by decide +kernel)];refine af (hG ?_);refine af ?_;show ai _ A.in1 (updateSeq s.heap.objs.size (·.push .none)>>=λ_=>updateSeq s.heap.objs.size (·.pop)) _ _ _
 refine af (l3 L3 O ?_);have h:=fi (cN (·.push Value.none)) L3 O
 refine l3 h O ?_;have y:=fi (cN (·.pop)) h O
 have oth:∀b o,b≠s.heap.objs.size->a.get? b=Z o->((a.update s.heap.objs.size (cN (·.push Value.none))).update s.heap.objs.size (cN (·.pop))).get? b=Z o:=
  λb o hb e=>(gA _ _ (dj hb)).t ((gA _ _ (dj hb)).t e)
 have hSI:S≠I:=bc (cv hlt (pN hI));have hSf:s.heap.objs.size∉[I,S,TP]:=by
  intro z;rcases aL.1 z with z|z
  .exact aq z (bc hI)
  .rcases aL.1 z with z|z
   .exact aq z (gb hlt)
   .rw[bj]at z;rcases hTP with e|e
    .exact aq (z.t e) (gb hlt)
    .rw[<-z,m]at e;exact aq e (Nat.not_succ_le_self _)
 have W:=aby (prog:=prog) (w:=w) (A:=A.in1) (I:=I) (S:=S) (TP:=TP) (kx:=kx) (o:=o) (es:=es) (ep:=ep) (t:=t) (by simp[M]) hSI hTI;have U:kx.length<=63:=by rw[po.length_eq,ah,bO];exact P
 refine ar ⟨f7 F.plain_extend_loop _,codeAny_extend_loopS W.toS (by rw[bS];omega) _ hSf _ kx.length 0 _ _ _ O (cq _)
  (W.frame 0 a _ ⟨it,cq _⟩ λb hb o e=>oth b o (λz=>hSf (by rw[<-z];exact hb)) e) y (ItemsOf.nil _) λq acc' T hm hS' hacc=>?_⟩
 show ai _ A (load s.heap.objs.size>>=_) _ _ q;refine af (wpAny_load hS' ?_);have C:acc'.toList=kx:=by
  apply lj;intro j;cases e:acc'.toList[j]? with
  |none=>rw[List.getElem?_eq_none_iff,bO,hacc.1]at e;exact(gB e).symm
  |some v=>rw[ix]at e;exact(hacc.2 j v e).symm
 obtain⟨c,g2,d2,k2,R⟩:=q;have G:g2=s.gens:=hm.gens;have H:R=s.os:=hm.os;subst G H;refine ar (hQ c k2 d2 acc'.toList (iQ (aR hS')) (λb o e=>?_) (by rw[C];exact po));have hb:=aR e;exact hm.heap b o (λz=>by
  rcases aL.1 z with z|z
  .exact aq z (bc hb)
  .exact aq (bj.1 z) (bc (cv hb (pN hI)))) (oth b o (bc hb) (u b o e))
def set_loopX(W:WalksS prog w A.in1 I fp j GG n PP SS)(hSf:S∉fp)(ks:aF)(hn:ks.length=n)(M:n<64)
  (hval:∀i v,PP i v->∃x tk,ks[i]?=Z x/\v=.str x tk):∀(k i:Nat) (s:ae) (o:Obj) (es:Array (Int×ab)) (ep:Nat) (t:bC),n - i=k->i<=n->SS i s->ke w s.heap S (x? (ks.take i)) led o es ep t->
   (∀a o es ep t,Moved (S::j) GG s a->ke w a.heap S (x? ks) led o es ep t->R (.ok (.ret .none)) a)->
   cw (model prog w) A (.builtin "set.update.loop" ⟨[.ref S,.ref I],[]⟩) R s:=by
 have hSw:S∉j:=λz=>hSf ((W).sub _ z);have up:∀b∈j,b∈S::j:=λb z=>ba _ z;intro k
 induction k with
 |zero=>
  intro i s o es ep t N hi hst x hR;obtain rfl:i=n:=by omega
  refine dS gz ?_;rw[eC dO _];show ai _ A.in1 (pyNext (.ref I)>>=_) _ _ s;refine af (W.done s _ _ hst λa hm=>?_);show ai _ A.in1 (ret Value.none) _ _ a;rw[iw (by omega)]at x;exact ar (hR a o es ep t (hm.mono up) { x with i?:=hm.heap S _ hSw x.i? })
 |succ k u=>
  intro i s o es ep t N hi hst x hR;have hlt:i<n:=by omega
  refine dS gz ?_;rw[eC dO _];show ai _ A.in1 (pyNext (.ref I)>>=_) _ _ s;refine af (W.item i s _ _ hlt hst λv a hP hst' hm=>?_);obtain⟨q,tk,F,rfl⟩:=hval i v hP;show ai _ A.in1 (holding _ (setAdd S _)>>=_) _ _ a;refine af (bP ?_);unfold setAdd;refine bP ?_;refine af (pO ?_);have split:x? (ks.take (i+1))=if q∈x? (ks.take i)then x? (ks.take i)else x? (ks.take i)++[q]:=by unfold x?;rw[lq,F,pF];rfl
  have B:ke w a.heap S (x? (ks.take i)) led o es ep t:={ x with i?:=hm.heap S _ hSw x.i? };have U:(x? (ks.take i)).length<=i:=by have H:=Nt (OH (ks.take i)) λz P=>L6.1 P;rw[bY]at H;omega
  refine add_x (s:={ a with toks:=a.toks+1 }) B (by unfold scanBound;omega) (λinn=>?_) λnin h' Q G C T r y=>?_
  .have e:x? (ks.take (i+1))=x? (ks.take i):=by rw[split,ak inn]
   refine ar ⟨f7 dO _,u (i+1) _ o es ep t (by omega) hlt (W.frame _ a a.heap _ hst' (gO _ _) λb z o e=>e) (by rw[e];exact B) λh l f d m c p=>?_⟩;exact hR h l f d m (jT W.gtrans ((hm.mono up).then_heap (gO _ _) λb o z e=>e) c) p
  have e:x? (ks.take (i+1))=x? (ks.take i)++[q]:=by rw[split,ao nin]
  refine ar ⟨f7 dO _,u (i+1) _ _ _ _ _ (by omega) hlt (W.frame _ a h' _ hst' (gO _ _) λb z o e=>?_) (by rw[e];exact y) λh l f d m c p=>?_⟩
  .rw[r.2 b (λy:b=S=>hSf (by rw[<-y];exact z))];exact e
  .refine hR h l f d m (jT W.gtrans ((hm.mono up).then_heap (gO _ _) λb o z e=>?_) c) p;rw[r.2 b (λy:b=S=>z (by rw[y];exact bb))];exact e
def set_X{ks:aF}(I:c3 X pins σ H s)(Y:A.handled=J)(hq:gd X.K H a (ks.map V.str))(l:ks.length<64)
  (h:∀c k2 o es ep t,ke X.w c s.heap.objs.size (x? ks) (!X.w.params.followText "set-order") o es ep t->(∀b o,b<s.heap.objs.size->s.heap.get? b=Z o->c.get? b=Z o)->Q (.ref s.heap.objs.size) { s with heap:=c,toks:=k2 }):
  ai (model X.prog X.w) A (call (.type "set") [.ref a]) Q E s:=by
 have T:A.in1.in1.in1.handled=J:=by simp[Y]
 obtain⟨d,r,pp,_⟩:=I.list hq;obtain⟨o,p,m,n,hd⟩:=pp.isList;have hlt:=aR p;have hne:a≠s.heap.objs.size+1:=bc (eI hlt);have q:ks.length=d.length:=by have:=r.length;rw[ah]at this;exact this
 refine E9 (PS:=λc=>∃o es ep t,ke X.w c s.heap.objs.size (x? ks) (!X.w.params.followText "set-order") o es ep t) p m l9 kT (by decide) (itO:={ cls:=.type "list_iterator", data:=.fields #[.ref a,.int 0 0] })
  (λA Q E s1 e k=>fT ⟨o,e,m,n,hd⟩ k) (λtk' R hR=>?_) λc k2 ⟨o,es,ep,t,x'⟩ kk=>h c k2 o es ep t x' kk
 have C:∀{b:Addr} {F:Obj},s.heap.get? b=Z F->((s.heap.push (Ar (!X.w.params.followText "set-order"))).push { cls:=.type "list_iterator", data:=.fields #[.ref a,.int 0 0] }).get? b=Z F:=λe=>aK _ (aK _ e);have it:((s.heap.push (Ar (!X.w.params.followText "set-order"))).push { cls:=.type "list_iterator", data:=.fields #[.ref a,.int 0 0] }).get? (s.heap.objs.size+1)=Z { cls:=.type "list_iterator", data:=.fields #[.ref a,.int 0 0] }:=by rw[show s.heap.objs.size+1=(s.heap.push (Ar (!X.w.params.followText "set-order"))).objs.size from(cZ _ _).symm];exact br _ O
 have W:=(iZ (prog:=X.prog) (w:=X.w) (A:=A.in1.in1.in1) T (s.heap.objs.size+1) a hne d.toArray).toS;have notin:s.heap.objs.size∉[s.heap.objs.size+1,a]:=by
  intro z;rcases aL.1 z with z|z
  .exact aq z (bc (dA _))
  .exact aq (bj.1 z) (gb hlt)
 refine set_loopX (S:=s.heap.objs.size) (led:=!X.w.params.followText "set-order") W notin ks (by rw[bg,q]) (by rw[bg,<- q];exact l) ?_ (d.toArray.size - 0) 0 _ (Ar (!X.w.params.followText "set-order")) #[] 0 (.fresh 0 0 (!X.w.params.followText "set-order")) O (cq _) ⟨⟨_,it,O,O⟩,⟨o,C p,m,n,hd⟩⟩ ⟨aK _ (br _ O),⟨O,O,O⟩,O,O,O,λz=>aq z (eO 0),λe U=>(by cases U),.nil⟩ λs2 o2 j f t2 mv G=>?_
 .intro i v e;rw[jx]at e;have hi:i<ks.length:=by rw[q];exact(cj.1 e).1
  obtain⟨u,B,tk,ru⟩:=r.get (i:=i) (x:=V.str ks[i]) (by rw[bA,bh hi];rfl);rw[e]at B;cases B;exact⟨ks[i],tk,bh hi,ru⟩
 .obtain⟨c,g2,d2,k2,y⟩:=s2;have N:g2=s.gens:=mv.gens;have M:d2=s.drawn:=mv.drawn;have P:y=s.os:=mv.os;subst N M P;refine hR c k2 ⟨o2,j,f,t2,G⟩ λb o hb e=>mv.heap b o (λz=>?_) (C e);rcases aL.1 z with z|z
  .exact aq z (bc hb)
  .exact aq (bj.1 z) (bc (eI hb))
end
section
variable{prog:aH}{w:az}{A:aI}{E:ab->ae->Prop}{s:ae}
theorem P':∀(l:List ab),(∀v∈l,∃x a,v=.str x a)->kU l (l.map sOf)
 |[],_=>.nil
 |v::l,h=>by obtain⟨x,a,rfl⟩:=h v bb;exact .cons x a (P' l λu b=>h u (ba _ b))
def τ(sa:kU vs ss)(c:vs.length<64)(d:s.heap.get? l=Z (seqObj "list" vs.toArray n))
  (h:∀h' e out,DQ l s.heap h'->ef ((Dj ss).map V.str) out->h'.get? l=Z (seqObj "list" out.toArray e)->P (.done (.ret .none)) { s with heap:=h' }):
  ai (model prog w) A (dJ.«list.sort» ⟨[.ref l],[]⟩) P E s:=by
 refine list_sort_treeK strKind_oneLt d sa.keysOf (λf i er e=>keyKind_strs (by rw[<-e];exact sa)) c λa a1 a2=>?_;obtain⟨r,j,m,p⟩:=sorted_out_str sa a1 a2;obtain⟨e,q⟩:=sortedHeap_at (vs:=vs) (out:=(arrOf a).map (·.2)) d
 refine h _ e ((arrOf a).map (·.2)).toList (λb o hb z=>by rw[sortedHeap_old hb (aR z)];exact z) ?_ (by rw[Array.toArray_toList];exact q)
 rw[<-OF m p];exact X0 j
def sorted_X(q:A.handled=J)(X:ke w s.heap S ss (!w.params.followText "set-order") o es ep t)(h:ss.length<64)
  (hQ:∀(p:Addr) (c:Heap) (k2:Nat) (d2:Drawn) (e:Nat) (out:List ab),s.heap.objs.size<=p->(∀b o,s.heap.get? b=Z o->c.get? b=Z o)->ef ((Dj ss).map V.str) out->c.get? p=Z (seqObj "list" out.toArray e)->Q (.ref p) { s with heap:=c,toks:=k2,drawn:=d2 }):
  ai (model prog w) A (call (.builtin "sorted") [.ref S]) Q E s:=by
 refine oa kind_sorted plain_sorted entry_sorted (args_sorted1 _) ?_;unfold dJ.«sorted»;refine af (m:=checkCount "sorted" 1 1 _) (ar ?_);refine af (collect_X (by simp[q]) X h λg k2 d2 acc u i f=>?_);have l:acc.length<64:=by rw[f.length_eq,ah,bO,X.sz];exact h
 have sa:=P' acc λv r=>by obtain⟨e,d,rfl⟩:=au.1 (f.mem_iff.1 r);obtain⟨x,tk,rfl⟩:=X.el e d;exact⟨x,tk,O⟩
 have es:Dj (acc.map sOf)=Dj ss:=by
  have B:(acc.map sOf).Perm ss:=by have:=f.map sOf;rw[aZ]at this;exact this.t X.p
  exact kJ (λa b _ _=>Je a b) (jt Jd Ih _) (jt Jd Ih ss) ((iB _ L?).t (B.t (iB ss L?).symm))
 refine af (ml ?_ (by rw[bS];omega));have on:(g.push (seqObj "list" acc.toArray 0)).get? g.objs.size=Z (seqObj "list" acc.toArray 0):=br _ O;show ai _ _ _ _ _ { s with heap:=g.push (seqObj "list" acc.toArray 0),toks:=k2,drawn:=d2 };refine af (bP (fW qv ⟨_,on,O⟩ qe ?_ (qw _)));refine τ (s:={ s with heap:=g.push (seqObj "list" acc.toArray 0),toks:=k2,drawn:=d2 }) sa l on λh' e out y j d=>?_;rw[es]at j;exact⟨_,O,ar ⟨_,O,hQ g.objs.size h' k2 d2 e out u (λb o z=>y b o (bc (aR (i b o z))) (aK _ (i b o z))) j d⟩⟩
end
section
variable{X:Cx}{G:Bg}
def tSortX(K:av)(d:TE):TE:=λe H Q=>d e H λx b=>∃(a:Addr) (c:aF),x=.ref a/\gd K b a (c.map V.str)/\c.length<64/\∀(p:Addr),b p=J->Q (.ref p) (ff b p (.bt ((Dj (x? c)).map V.str)))
def pe_sortX{p2 p3:Pos}(l:X.nq=γ)(g1:Gl X "sorted")(R:X.mg "sorted" = J)(g2:Gl X "set")(S:X.mg "set" = J)(E:PE X e U)
  (w:aC [Expr.Call (.Name "set" p2) [e] [] p3] X.b1=[(δ,eval (.Call (.Name "set" p2) [e] [] p3) X.b1)]:=by rfl) (y:aC [e] X.b1=[(δ,eval e X.b1)]:=by rfl):PE X (.Call (.Name "sorted" p1) [.Call (.Name "set" p2) [e] [] p3] [] p4) (tSortX X.K U):=by
 intro pins s σ H Q I h;refine dP (BV I g1 R boot_sorted ?_ (by decide) (by decide));refine callWith_builtin1 ?_ w O;rw[w];show ai _ _ (spliced [(δ,eval (.Call (.Name "set" p2) [e] [] p3) X.b1)]) _ _ s;refine eE ?_;refine dP (BV I g2 S q9 ?_ (by decide) (by decide));refine callWith_type1 (fy (xi E zP y p3 pins s σ H (λvs H1=>match vs with
  |[x]=>∃(a:Addr) (ks:aF),x=.ref a/\gd X.K H1 a (ks.map V.str)/\ks.length<64/\∀(p:Addr),H1 p=J->Q (.ref p) (ff H1 p (.bt ((Dj (x? ks)).map V.str)))
  |_=>False) I h) λus r F=>?_) y O
 obtain⟨vs,H1,d,r1,f⟩:=F
 match vs,r1,f with
 |[x],r1,f=>
 obtain⟨a,ks,C,M,c,q⟩:=f;subst C;obtain⟨u,rfl,T⟩:=m1 r1;cases T;have W:(x? ks).length<64:=jD (Nt (OH ks) λz N=>L6.1 N) c;refine set_X d (d.ok.hd l) M c λj k2 o es ep t x P=>?_;refine fV ?_;have i:c3 X pins σ H1 { r with heap:=j,toks:=k2 }:=d.g? λb o e=>P b o (aR e) e;refine sorted_X (s:={ r with heap:=j,toks:=k2 }) (d.ok.hd l) x W λp h3 k3 B e out m k4 Y hg=>?_;have A:=i.laid (t':=k3) (o:=.bt ((Dj (x? ks)).map V.str)) k4 m ⟨by
  rw[ah,bS,show (Dj (x? ks)).length=_ from(iB _ L?).length_eq];omega,out,e,Y,hg⟩
 exact⟨.ref p,_,c3.drw A B,O,q p (i.fx.fresh m)⟩
def u6(f:FE):FA:=λd=>match f d with
 |some (.bt c,a)=>match G1 c with
  |some b=>if b.length<64 then Z ((Dj (x? b)).map D.str,a)else J
  |none=>J
 |_=>J
def pfn_sortX(h:PE X e (tSortX G.K (tF G f))):PE X e (z3 G (u6 f)):=PE.d? h λI H Q u=>by
 obtain⟨F,y,j,C,z,R,e,k⟩:=u;unfold u6 at e;split at e
 .rename_i m A o;cases d:G1 m with
  |none=>simp only[d]at e;cases e
  |some x=>
   simp only[d]at e;split at e
   .rename_i i;cases e;refine⟨F,y,j,_,_,R,o,λv B l s b r=>?_⟩;unfold cb at r;obtain⟨a,E,rfl,q,t⟩:=r;have w:=I0 t d;subst w;exact⟨a,x,O,gd.of (b.sub _ _ q),i,λp c=>k p _ _ _ s (b.l7 c _) vb (b.f5 c) (b.i1 c) (b.apart c) (Jf _)⟩
   .cases e
 .cases e
end
section
variable{X:Cx}{B:Bz}{k:Nat}{e:Expr}{f:FE}{p p2 p3 pos:Pos}
def zr_wxI [C:Cz X B k][N:Nb B "sorted"][b:Nb B "set"](i:S1 X e)(h:Gz X "sorted")(a:Gz X "set")(d:ZE X B e f)(z:aC [Expr.Call (.Name "set" p2) [e] [] p3] X.b1=[(δ,eval (.Call (.Name "set" p2) [e] [] p3) X.b1)]):ZN X B (.Call (.Name "sorted" p) [.Call (.Name "set" p2) [e] [] p3] [] pos) (u6 f):=⟨pfn_sortX (by rw[<-C.K];exact pe_sortX C.c h (C.mg▸N.p) a (C.mg▸b.p) d.p z i)⟩
end
end L4
namespace HT
open PySem PySem.Spec PyProof.Rows
section
variable{prog:aH}{w:az}{A:aI}{E:ab->ae->Prop}{s:ae}
theorem E'(hne:l≠it):∀(n i:Nat) (s:ae) (Q:List ab->ae->Prop),s.heap.IsListIter it l i->s.heap.IsList l items->i+n<=items.size->
  (∀h',h'.IsListIter it l (i+n)->dD it s.heap h'->Q ((items.toList.drop i).take n) { s with heap:=h' })->ai (model prog w) A (draw (.ref it) n) Q E s
 |0,i,s,Q,hit,_,_,hQ=>by show ai _ _ (pure []) Q E s;exact ar (by simpa using hQ s.heap hit (uE ..))
 |n+1,i,s,Q,hit,d,hle,hQ=>by
  have hlt:i<items.size:=by omega
  show ai _ _ (pyNext (.ref it)>>=_) Q E s;refine af (oq hit d (x:=items[i]) (by simp[hlt]) λe hit₁ a=>?_);refine af (bP (E' hne n (i+1) _ _ hit₁ (pz d a.extBut hne) (by omega) λc hit₂ b=>ar ?_));have hd:items.toList.drop i=items[i]::items.toList.drop (i+1):=by simp[jn,hlt]
  have:=hQ c (by rw[show i+(n+1)=i+1+n by omega];exact hit₂) (a.t b);rw[hd,List.take_succ_cons]at this;exact this
def P0(j:A.handled=J)(f:s.heap.IsList l items)
  (hQ:∀h',rb s.heap.objs.size s.heap h'->Q items.toList { s with heap:=h' }):ai (model prog w) A (unpackItems (.ref l) items.size J) Q E s:=by
 have hlt:l≠s.heap.objs.size:=by obtain⟨o,m,_⟩:=f;exact bc (aR m)
 unfold unpackItems;refine af ?_;unfold notIterableAtAll;refine af (gR f.typeIs slot_list_iter.lookup ?_);refine ar ?_;simp only[eG,if_false];refine af (bP (fT f ?_));refine af (bP (E' hlt items.size 0 _ _ ⟨_,br _ O,O,O⟩ (f.push _) (by omega) λh hit₁ a=>?_));have hall:List.take items.size (List.drop 0 items.toList)=items.toList:=by rw[qz];exact iw (by simp)
 rw[hall];rw[ao (by simp)];have d:h.IsList l items:=pz (f.push _) a.extBut hlt;refine af (bP (oG j hit₁ d (by simp) λi c=>?_));simp only[Option.isSome_none,eG,if_false];exact ar (hQ i λb o hb e=>c b o hb (a.extBut b o hb (aK _ e)))
end
end HT
namespace L2
open PySem PySem.Spec PyProof.Rows
section
variable{X:Cx}{pos:Pos}
def gLst(K:av)(n:Nat)(t:TGs):TG:=λv c H Q=>∃a b,v=.ref a/\gd K H a b/\b.length=n/\t b c H Q
def pg_lst(l:X.nq=γ)(h:R' X es t)
  (hn:(cc es X.b1).length=n) (hst:(cc es X.b1).findIdx? (·.1)=J):PG X (.Tuple es k pos) (gLst X.K n t):=by
 intro pins s σ H v u Q I r hw;obtain⟨a,xs,i,p,m,hw⟩:=hw;subst i;cases r;obtain⟨c,d,q,x⟩:=I.list p;have j:(cc es X.b1).length=c.toArray.size:=by simp[hn,<- m,d.length]
 rw[assign_Tuple];refine af (jN ?_);unfold unpack;rw[j,hst];refine af (bP (HT.P0 (I.ok.hd l) q.isList λh' w=>?_));have f:c3 X pins σ H { s with heap:=h' }:=I.g? (t':=s.toks) λb o e=>w b o (bc (aR e)) e;exact h pins _ σ H xs _ Q f (by simpa using d) hw
end
end L2
namespace L4
open PySem PySem.Spec PyProof.Rows L2 L3
section
variable{X:Cx}{G:Bg}
def gTL(b:bp->aQ->Option aQ)(n:Nat):FG:=λd c=>match d with
 |.bt a=>if a.length=n then b a c else J
 |_=>J
def pfg_lst(h:PG X (.Tuple j k pos) (gLst G.K m (QX G n l))):PG X (.Tuple j k pos) (tFG G n (gTL l m)):=PG.d? h λv w H Q p=>by
 obtain⟨F,u,f,d,b,R,r,e,k⟩:=p;cases d with
 |bt i=>
  unfold gTL at e;simp only at e;split at e
  .rename_i q;unfold cb at r;obtain⟨a,t,rfl,o,c⟩:=r;exact⟨a,t,O,gd.of (R.sub _ _ o),by rw[<-uV c];exact q,F,u,f,i,b,R,c,e,k⟩
  .cases e
 |_=>cases e
def cRep(f g:FE):FA:=λd=>match f d with
 |some (.bt c,a)=>match g a with
  |some (.int k,b)=>if c.length * k.toNat<=1000/\-1000<=k/\k<=1000 then Z ((bU k.toNat c).flatten,b)else J
  |_=>J
 |_=>J
theorem G'(r:uQ G H a b):∀k:Nat,uQ G H (bU k a).flatten (bU k b).flatten
 |0=>vM
 |k+1=>by rw[fS,fS,gG,gG];exact xj r (G' r k)
def pfn_rep(E:PE X a (tF G f))(I:PE X b (tF G g)):PE X (.BinOp a .Mult b pos) (z3 G (cRep f g)):=PE.d? (O5 Y4 E I) λY H Q M=>by
 obtain⟨F,P,t,d,S,R,e,k⟩:=M;unfold cRep at e;split at e
 .rename_i W c A;split at e
  .rename_i m T B;split at e
   .rename_i N;cases e;refine⟨F,P,t,_,c,R,A,λv w x s z r=>⟨F,c,w,_,_,z,B,λu U y q R2 o=>?_⟩⟩;have l:=cb.mono q _ _ r;unfold cb at l o;obtain⟨a1,i,rfl,C,j⟩:=l;subst o;refine⟨a1,m,i,O,O,R2.sub _ _ C,by omega,by omega,by rw[<-uV j];exact x8 N.1,λp h=>?_⟩;exact k p _ _ _ (s.t q) (R2.l7 h _) vb (R2.f5 h) (R2.i1 h) (R2.apart h) (G' j _)
   .cases e
  .cases e
 .cases e
def tFAq(G:Bg)(i:Int)(n:FA):TA:=λd H Q=>∃F j e f b,vy G F d j e H/\n j=Z (f,b)/\∀p h a c,ve e a->vy G F d b a c->c p=Z (.bt h)->a p=J->F.B p=J->rf d b p->uQ G a f h->Q [.ref p,.int i] c
def pfaq{j p}(h:PE X e (z3 G n))(w:aC [e,.Constant (.int i) j p] X.b1=(δ,eval e X.b1)::aC [.Constant (.int i) j p] X.b1)(a:aC [.Constant (.int i) j p] X.b1=[(δ,eval (.Constant (.int i) j p) X.b1)]):PA X [e,.Constant (.int i) j p] (tFAq G i n):=PA.d? (xi h (xi Lq zP a) w) λB H Q u=>by obtain⟨F,z,c,x,b,R,l,k⟩:=u;exact⟨F,z,c,x,b,R,l,λp y A d s f m o q r t=>k p y _ _ s f m o q r t⟩
def pf_mutQ(h:PE X e (EO (u7 G g) [] E (tFAq G i n))):PE X e (tF G (F? g (ax (cC (.int i)) vB) n)):=PE.d? h λσ H Q A=>by
 obtain⟨F,c,m,d,P,R,e,k⟩:=A;unfold F? at e;rw[show ax (cC (.int i)) vB c=Z ([.int i],c) from O]at e;dsimp only at e;split at e
 .rename_i j S r;split at e
  .rename_i U a t;cases e;refine⟨F,c,m,j,_,R,r,λb M o p s f u w x y z=>?_⟩;refine⟨b,[.int i],M,o,j,[.int i],_,a,O,u,w,f.sub,z,vR (xt i) vM,t,λv N T q l B C fr W I Y w3=>?_⟩;exact k _ _ _ (s.t l) (f.temp x y l B C fr I) w3
  .cases e
 .cases e
end
section
variable{X:Cx}{B:Bz}{k j n' k':Nat}{x:Str}{e e':Expr}{es:List Expr}{f f':FE}{a n:FA}{p p' pos:Pos}{g:bp->bp->Option (D×bp)}{gs:bp->aQ->Option aQ}{i:Int}{m:Nat}
def zr_gtuL [C:Cz X B k](h:ZH X B es m gs)(b:(cc es X.b1).length=n')(d:(cc es X.b1).findIdx? (·.1)=J):ZG X B (.Tuple es k' pos) m (gTL gs n'):=⟨pfg_lst (by rw[<-C.K];exact pg_lst C.c h.p b d)⟩
def zr_rpN(b:ZE X B e f)(c:ZE X B e' f'):ZN X B (.BinOp e .Mult e' pos) (cRep f f'):=⟨pfn_rep b.p c.p⟩
def zr_mqI{b}[C:Cz X B k][Q:Df B j x (u7 B.G g)](d:Gz X x)(hd:Dz x)(w:ZN X B e n)(h:Sz X e [.Constant (.int i) b p'])(c:S1 X (.Constant (.int i) b p'))(z:Lz X pos [.Constant (.int i) b p'])(y:eU j k=γ):ZE X B (.Call (.Name x p) [e,.Constant (.int i) b p'] [] pos) (F? g (ax (cC (.int i)) vB) n):=by obtain⟨E,q⟩:=dz d hd (X:=X) (Q:=Q);obtain⟨f,A,l,o,t,u⟩:=q;exact⟨pf_mutQ (HZ (p:=p) (pos:=pos) u (C.r.mono (eQ.mp y)) d l o t .nil IC (pfaq w.p h c) hd h z)⟩
end
section
variable{X:Cx}{G:Bg}
def rNiT(K:av):R2:=λx y H Q=>∃p a d l,y=.ref p/\gd K H p a/\L3.cb K H d x/\L3.uQ K H l a/\lb d<=20/\(∀e∈l,lb e<=20)/\Q (.I (!l.any λe=>nr e d)) H
def op_niT(W:X.A.units+64<cLine):ki X (bz .NotIn) (rNiT X.K):=by
 intro C s σ H x y v u Q I T U h;obtain⟨p,xs,d,l,rfl,M,R,S,hd,F,q⟩:=h;cases U;obtain⟨j,r,pl,Y⟩:=I.list M;obtain⟨N,P⟩:=Rn S r;have B:∀e∈l,∀z w,L3.cb X.K H e z->et z w->iX X.A.in1 s w v (nr e d):=λe a z w b c=>SC I e d z x w v X.A.in1 b R c T (by have:=F e a;show X.A.units+1+_+_<_;omega);let f:ab->Bool:=λw=>@decide (∃e∈l,∃z,L3.cb X.K H e z/\et z w/\nr e d=γ) (iq _);refine pd f pl.isList (λw o=>?_) ⟨.I _,H,I,O,?_⟩
 .by_cases m:∃e∈l,∃z,L3.cb X.K H e z/\et z w/\nr e d=γ
  .have t:f w=γ:=@aV _ (iq _) m;obtain⟨e,a,z,b,c,i⟩:=m;have:=B e a z w b c;rw[i]at this;rw[t];exact this
  .have t:f w=δ:=@aX _ (iq _) m;obtain⟨e,a,z,b,c⟩:=N w (by simpa using o);have:=B e a z w b c;rw[lu.2 λi=>m ⟨e,a,z,b,c,i⟩]at this;rw[t];exact this
 .have E:j.toArray.any f=l.any λe=>nr e d:=by
   rw[show j.toArray.any f=j.any f by simp];refine dg.2 ?_;rw[fD,fD];constructor
   .rintro⟨w,o,m⟩;obtain⟨e,a,z,b,c,i⟩:=@bB _ (iq _) m;exact⟨e,a,i⟩
   .rintro⟨e,a,i⟩;obtain⟨w,o,z,b,c⟩:=P e a;exact⟨w,o,@aV _ (iq _) ⟨e,a,z,b,c,i⟩⟩
  rw[E];exact q
def K?:D->D->Option D:=λx y=>match y with
 |.bt a=>match rh x,zr a with
  |some d,Z l=>if decide (lb d<=20)&&l.all (λe=>decide (lb e<=20))then Z (.I (!l.any λe=>nr e d))else J
  |_,_=>J
 |_=>J
def od_niT:mn G (rNiT G.K) K?:=λx y z r H v u Q e s q c k=>by
 unfold K? at e;split at e
 .rename_i i;cases b:rh x with
  |none=>simp only[b]at e;cases e
  |some d=>
   cases f:zr i with
   |none=>simp only[b,f]at e;cases e
   |some l=>
    simp only[b,f]at e;split at e
    .rename_i h;cases e;rw[aW,bQ,aS]at h;have c:=cb.mono s _ _ c;unfold cb at c;obtain⟨a,j,rfl,m,o⟩:=c;exact⟨a,j,d,l,O,gd.of m,Ib x v d (cb.mono s _ _ q) b,E6 i j l o f,h.1,λe p=>bB (h.2 e p),k _ λ_ _=>x9 _⟩
    .cases e
 .cases e
instance niT2:L1 .NotIn K?:=⟨λX G h a=>⟨_,by rw[<-h];exact op_niT a,od_niT⟩⟩
end
end L4
namespace K37x
open PySem L2 L3 L4
abbrev D:=L4.D
def top(i:Nat):Stmt:=PySem.Challenge.pw_tellworld_k37_unseen_things.main.body.getD i (.Pass ⟨0,0,0,0⟩)
def BG:Nat->Bool:=λc=>c==14
def BH:Nat->Bool:=λc=>c==13
def xQ:Nat->Bool:=λc=>c==2
def Gm:Nat->Bool:=λc=>c==9
def xn:Nat->Bool:=λc=>c==2
def Eb:Nat->Bool:=λc=>c==14
def As:Nat->Bool:=λc=>c==14
def xf:Nat->Bool:=λc=>c==14
def Dl:Nat->Bool:=λc=>c==14
def Bi:Nat->Bool:=λc=>c==14
def vJ:Nat->Bool:=λc=>c==0||c==7
def Au:Nat->Bool:=λc=>c==1
def AZ:Nat->Bool:=λc=>c==14
def vd:Nat->Bool:=λc=>c==0||c==1||c==2
def Ik:Nat->Bool:=λc=>c==10
def DU:Nat->Bool:=λc=>c==10
def yc:Nat->Bool:=λc=>c==2
def DV:Nat->Bool:=λc=>c==3||c==11
def zH:Nat->Bool:=λc=>c==13
def zc:Nat->Bool:=λc=>c==14
def BI:Nat->Bool:=λc=>c==14
def BJ:Nat->Bool:=λc=>c==14
def wD:Nat->Bool:=λc=>c==0||c==1
def BK:Nat->Bool:=λc=>c==3||c==4||c==5||c==6||c==7||c==11||c==12
def DW:Nat->Bool:=λc=>c==13
def Fj:Nat->Bool:=λc=>c==13
def Av:Nat->Bool:=λc=>c==14
def DX:Nat->Bool:=λc=>c==6||c==12
def zd:Nat->Bool:=λc=>c==13
def A0:Nat->Bool:=λc=>c==14
def Jj:Nat->Bool:=λc=>c==8
def xT:Nat->Bool:=λc=>c==0
def Bj:Nat->Bool:=λc=>c==14
abbrev t_At:Ty->Option Bool:=za 16 3
abbrev OI:Ty->Option Bool:=za 16 10
abbrev X3:Ty->Option Bool:=za 16 4
abbrev Ul:Ty->Option Bool:=za 16 7
abbrev X4:Ty->Option Bool:=za 16 15
abbrev Um:Ty->Option Bool:=za 16 1
abbrev NA:Ty->Option Bool:=za 16 6
abbrev Uo:Ty->Option Bool:=za 16 11
abbrev Up:Ty->Option Bool:=za 16 9
abbrev X5:Ty->Option Bool:=za 16 12
abbrev Uq:Ty->Option Bool:=za 16 13
abbrev Ur:Ty->Option Bool:=za 16 5
abbrev PY:Ty->Option Bool:=za 16 0
abbrev Us:Ty->Option Bool:=za 16 2
abbrev Ut:Ty->Option Bool:=za 16 8
def Dm:L4.D:=(D.int 8)
def Dn:L4.D:=(D.int 12)
def Jk:L4.D:=(D.du [(D.str "it"),(D.str "other"),(D.str "here"),(D.str "the"),(D.str "a"),(D.str "undo"),(D.str "restart")])
def Jl:L4.D:=(D.du [(D.str "the"),(D.str "a")])
def CH:L4.D:=(D.str "Nothing comes of it.")
def G2:L4.D:=(D.str "That cannot be.")
def B9:L4.D:=(D.du [(D.str "room"),(D.str "plain"),(D.str "fixed"),(D.str "box"),(D.str "lamp"),(D.str "you")])
def PZ:L4.D:=(D.du [(D.str "alone"),(D.str "one"),(D.str "two"),(D.str "way")])
def A1:L4.D:=(D.du [(D.str "room"),(D.str "box"),(D.str "you")])
def A2:L4.D:=(D.du [(D.str "box"),(D.str "lamp")])
def Ec:L4.D:=(D.du [(D.str "room"),(D.str "you")])
def Fk:L4.D:=(D.int 5)
def Fl:L4.D:=(D.int 4)
def G3:L4.D:=(D.int 4)
def Fm:L4.D:=(D.int 60)
def A3:L4.D:=(D.int 3)
def Fn:L4.D:=(D.int 5)
def Ed:L4.D:=(D.int 7)
def z8:L4.D:=(D.int 4)
def Do:L4.D:=(D.int 3)
def Dp:L4.D:=(D.int 10)
def Fo:L4.D:=(D.int 6)
def Fp:L4.D:=(D.int 4)
def Aw:L4.D:=(D.du [(D.str "the"),(D.str "a"),(D.str "undo"),(D.str "restart")])
def Fq:L4.D:=(D.int 20)
abbrev aa:=(cV 0)
abbrev ag:=(cV 1)
abbrev aM:=(cC (.int 1))
def Ax:FS:=(uT (v7 (c1 (v5 (wL "str")) aa) (v7 (yK z7 z7 aM (c1 wU aa) ag) (c1 zR (cL (uX 1 [] (iS aa) (gN 0) vN (yK S0 S0 (cS "a") aa (cS "z"))))))))
def yN:=fb 2 2 Ax
def KP:FS:=(uT (v7 (uM yN (ax aa (a1 (cC Dm)))) (c2 (n6 γ) aa (cC Jk))))
def yi:=fb 1 1 KP
def KQ:FS:=(uT (v7 (uM yN (ax aa (a1 (cC Dn)))) (c2 (n6 γ) aa (cC Jl))))
def yj:=fb 1 1 KQ
def G4:FS:=(uT (v7 (c1 (v5 (wL "str")) aa) (c2 (n6 δ) aa ag)))
def vQ:=fb 2 2 G4
def Jm:FS:=(uT (v7 (c1 (v5 (wL "int")) aa) (D5 (c1 (v5 (wL "bool")) aa))))
def Ay:=fb 1 1 Jm
def CJ:FS:=(uT (v7 (c1 (v5 (wL "list")) aa) (c2 z7 (c1 wU aa) ag)))
def vY:=fb 2 2 CJ
def Jn:FS:=(uT (yr (cT (c1 (v5 (wL "list")) aa)) (cL (AX aa)) aa))
def Ew:=fb 1 1 Jn
abbrev aj:=(cV 2)
abbrev aw:=(cV 3)
abbrev ay:=(cV 4)
def Ca:FS:=(uO (vU 0 0 "name" ag)
 (uO (vU 0 0 "words" aj)
 (uO (vU 0 0 "kind" aw)
 (vU 0 0 "start" ay))))
def yk:=v? 0 4 5 Ca
def G5:FS:=(uO (vU 1 0 "name" ag)
 (uO (vU 1 0 "start" aj)
 (vU 1 0 "most" aw)))
def Dr:=v? 1 3 4 G5
abbrev aA:=(cC D.E)
def Dt:FS:=(uO (vU 2 0 "name" ag)
 (uO (vU 2 0 "others" (yr (cT (c2 y8 aj aA)) (vC vB) aj))
 (uO (vU 2 0 "form" aw)
 (vU 2 0 "joining" ay))))
def v8:=v? 2 4 5 Dt
def KR:FS:=(uO (vU 3 0 "term" ag)
 (vU 3 0 "place" aj))
def DY:=v? 3 2 3 KR
def Jo:FS:=(vU 4 0 "term" ag)
def Cb:=v? 4 1 2 Jo
def G6:FS:=(vU 5 0 "term" ag)
def G7:=v? 5 1 2 G6
def Ee:FS:=(uO (vU 6 0 "term" ag)
 (vU 6 0 "value" aj))
def wV:=v? 6 2 3 Ee
def G8:FS:=(uO (vU 7 0 "term" ag)
 (vU 7 0 "kind" aj))
def xI:=v? 7 2 3 G8
def G9:FS:=(vU 8 0 "word" ag)
def Du:=v? 8 1 2 G9
def Jp:FS:=(vU 9 0 "inner" ag)
def xK:=v? 9 1 2 Jp
def He:FS:=(uO (vU 10 0 "one" ag)
 (vU 10 0 "other" aj))
def Hf:=v? 10 2 3 He
def Hg:FS:=(uO (vU 11 0 "term" ag)
 (vU 11 0 "place" aj))
def yd:=v? 11 2 3 Hg
def Jq:FS:=(uO (vU 12 0 "term" ag)
 (vU 12 0 "value" aj))
def yO:=v? 12 2 3 Jq
abbrev bw:=(cV 5)
abbrev cy:=(a1 aj)
abbrev dN:=(a1 aw)
def Hh:FS:=(uO (vU 13 0 "verb" ag)
 (uO (vU 13 0 "tests" (uM Ew cy))
 (uO (vU 13 0 "deeds" (uM Ew dN))
 (uO (vU 13 0 "text" ay)
 (vU 13 0 "refuses" bw)))))
def yT:=v? 13 5 6 Hh
def BL:FS:=(uT (c2 (n6 δ) (c1 (uS vJ "kind") aa) (cC A1)))
def zv:=fb 1 1 BL
def wa:Nat->Option (List D->Option D):=λc=>match c with
 |0=>Z zv
 |_=>J
def BM:FS:=(uT (c2 (n6 δ) (c1 (uS vJ "kind") aa) (cC A2)))
def BN:=fb 1 1 BM
def xD:Nat->Option (List D->Option D):=λc=>match c with
 |0=>Z BN
 |_=>J
def AA:FS:=(uT (c2 (n6 γ) (c1 (uS vJ "kind") aa) (cC Ec)))
def yP:=fb 1 1 AA
def v3:Nat->Option (List D->Option D):=λc=>match c with
 |0=>Z yP
 |_=>J
def CK:FS:=(fh (wg (cT aa)) Tg uZ)
def u5:=fb 2 2 CK
def Jr:FS:=(uT (c1 wU (cL (uX 1 [1] (iL aa) (gN 0) (cT (c2 (e? δ) (c1 (uS vJ "kind") aa) ag)) aa))))
def Cc:=fb 2 2 Jr
def Fs:FS:=(wJ (uX 1 [] (iL aa) (gN 0) (cT (vh v3 "is_plainly" aa vB)) aa))
def ym:=yq 1 1 Fs
abbrev aP:=(cC (.int 0))
abbrev bI:=(cC (.I δ))
abbrev sm:=(a1 (c1 (uS Au "most") aa))
def Gp:FS:=(uO (fh (ya (wg (cT (c1 (v5 Um) aa))) (ya (wg (cT (uM Ay (a1 (c1 (uS wD "start") aa))))) (wg (cT (uM Ay sm))))) (uT bI) uZ)
 (uT (v7 (yK z7 z7 aM (c1 (uS Au "most") aa) (cC Do)) (yK z7 z7 aP (c1 (uS wD "start") aa) (c1 (uS Au "most") aa)))))
def Gq:=fb 1 1 Gp
abbrev dc:=(cS "room")
abbrev jb:=(a1 (cS "you"))
abbrev bM:=(a1 aa)
abbrev jh:=(a1 dc)
def AB:FS:=(uO (vc 1 (v7 (c1 (v5 (wL "list")) aa) (c1 zR (cL (uX 1 [] (iL aa) (gN 0) vN (c1 (v5 PY) aa))))))
 (uO (vG (uM u5 (ax ag (a1 (cS "things are a list of things")))))
 (uO (vG (uM u5 (ax (c1 zR (cL (uX 1 [] (iL aa) (gN 0) vN (uM vQ (ax (c1 (uS vJ "kind") aa) (a1 (cC B9))))))) (a1 (cS "a thing is of no kind")))))
 (uO (vG (uM u5 (ax (yK z7 z7 aM (uM Cc (ax aa jh)) (cC Fn)) (a1 (cS "a world has 1 to 5 rooms")))))
 (uO (vG (uM u5 (ax (c2 (e? δ) (uM Cc (ax aa jb)) aM) (a1 (cS "a world has just one you")))))
 (vG (uM u5 (ax (c2 z7 (c1 wU (cL (vK ym bM))) (cC Ed)) (a1 (cS "a world has at most 7 things beside rooms and you"))))))))))
def AC:=fb 1 2 AB
def Bk:FS:=(uO (vc 1 (v7 (uM vY (ax aa (a1 (cC z8)))) (c1 zR (cL (uX 1 [] (iL aa) (gN 0) vN (uM Gq bM))))))
 (vG (uM u5 (ax ag (a1 (cS "marks are a list of at most 4 marks, each from 0 to at most 3"))))))
def Bl:=fb 1 2 Bk
def Ft:FS:=(uT (c2 (e? δ) (c1 (Fb Eu) aa) (c1 wU aa)))
def xM:=fb 1 1 Ft
def Bm:FS:=(uO (vc 2 (cL (xq (cL (uX 1 [] (iL aa) (gN 0) vN (c1 (uS vd "name") aa))) (cL (uX 1 [] (iL ag) (gN 0) vN (c1 (uS vd "name") aa))))))
 (uO (vG (uM u5 (ax (c1 zR (cL (uX 1 [] (iL aj) (gN 0) vN (uM yi bM)))) (a1 (cS "a name is no name")))))
 (vG (uM u5 (ax (uM xM cy) (a1 (cS "two things or marks have one name")))))))
def Bn:=fb 2 3 Bm
def Fu:FS:=(wJ (xq (cL (uX 1 [] (iL aa) (gN 0) (cT (vh xD "has_mark" aa vB)) (c1 (uS vd "name") aa))) (cL (uX 1 [] (iL ag) (gN 0) vN (c1 (uS vd "name") aa)))))
def yn:=yq 2 2 Fu
def Ex:FS:=(uO (fh (cT (c2 (e? δ) (c1 (uS vJ "kind") ag) dc)) (uT (c2 y8 (c1 (uS wD "start") ag) aA)) uZ)
 (uO (fh (cT (c2 (e? δ) (c1 (uS vJ "kind") ag) (cS "you"))) (uT (uM vQ (ax (c1 (uS wD "start") ag) (a1 (cL (uX 1 [] (iL aa) (gN 0) (cT (c2 (e? δ) (c1 (uS vJ "kind") aa) dc)) (c1 (uS vd "name") aa))))))) uZ)
 (uT (uM vQ (ax (c1 (uS wD "start") ag) (a1 (cL (uX 1 [] (iL aa) (gN 0) (cT (vh wa "can_hold" aa vB)) (c1 (uS vd "name") aa)))))))))
def Ey:=fb 2 2 Ex
abbrev cR:=(cC (.I γ))
def CL:FS:=(uO (vc 2 (c2 BF aa ag))
 (uO (yx (I' (c1 wU aa)) (gN 3) (uO (fh (cT (c2 y8 aj aA)) (uT cR) uZ)
 (vc 2 (c2 BF aa aj))))
 (uT (c2 y8 aj aA))))
def zT:=fb 2 4 CL
abbrev eZ:=(ax ag bM)
def AD:FS:=(uO (vG (uM u5 (ax (c1 zR (cL (uX 1 [0] (iL aa) (gN 0) vN (uM Ey eZ)))) (a1 (cS "a start is none")))))
 (uO (GU 1)
 (uO (yx (iL aa) (gN 2) (y9 1 (c1 (uS vd "name") aj) (c1 (uS wD "start") aj)))
 (vG (uM u5 (ax (c1 zR (cL (uX 1 [1] (iD (D' 1)) (gN 0) vN (uM zT eZ)))) (a1 (cS "a thing starts within itself"))))))))
def AE:=fb 1 3 AD
def Hk:FS:=(uO (fh (ya (wg (cT (c1 (v5 (wL "tuple")) aa))) (wg (cT (yK z7 z7 aM (c1 wU aa) (cC Fp))))) (uT bI) uZ)
 (uT (v7 (c1 zR (cL (uX 1 [] (iT aa) (gN 0) vN (uM yj bM)))) (uM xM bM))))
def A4:=fb 1 1 Hk
def KU:FS:=(uT (c1 zR (cL (uX 1 [0] (iT ag) (gN 0) vN (c2 (n6 δ) aa ag)))))
def BO:=fb 2 2 KU
def zU:FS:=(uO (vc 2 (cL (uX 1 [1] (iL aa) (gN 0) (cT (c2 (e? γ) (c1 (uS vd "name") aa) (c1 (uS vd "name") ag))) aa)))
 (uT (D5 (c1 HU (cL (uX 1 [1] (iL aj) (gN 0) vN (uM BO (ax (c1 (uS xT "words") aa) (a1 (c1 (uS xT "words") ag))))))))))
def zV:=fb 2 3 zU
def xE:FS:=(uO (vG (uM u5 (ax (c1 zR (cL (uX 1 [] (iL aa) (gN 0) vN (uM A4 (a1 (c1 (uS xT "words") aa)))))) (a1 (cS "a thing has 1 to 4 unlike words, as a tuple")))))
 (uO (vc 1 (cL (vK ym bM)))
 (vG (uM u5 (ax (c1 zR (cL (uX 1 [1] (iL ag) (gN 0) vN (uM zV eZ)))) (a1 (cS "one thing has all words of another")))))))
def xF:=fb 1 2 xE
abbrev cz:=(ax aa (a1 ag))
def Cd:FS:=(uO (vc 2 (v7 (c1 (v5 (wL "list")) aa) (v7 (c1 zR (cL (uX 1 [1] (iL aa) (gN 0) vN (uM vQ cz)))) (uM xM bM))))
 (vG (uM u5 (ax aj (a1 (cS "dark is a list of rooms' names, each once"))))))
def Ce:=fb 2 3 Cd
abbrev b0:=(cC (.int 2))
abbrev fN:=(cC (.int 3))
abbrev bK:=(a1 ag)
abbrev sq:=(ax (c2 f3 aa fN) cy)
def Js:FS:=(uO (fh (ya (wg (cT (c1 (v5 (wL "tuple")) aa))) (cT (c2 (e? γ) (c1 wU aa) (cC (.int 4))))) (uT bI) uZ)
 (uO (vc 3 (S? (c2 y8 (c2 f3 aa fN) aA) (uM vQ sq)))
 (uT (v7 (uM vQ (ax (c2 f3 aa aP) bK)) (v7 (uM yj (a1 (c2 f3 aa aM))) (v7 (uM vQ (ax (c2 f3 aa b0) bK)) aw))))))
def Jt:=fb 3 4 Js
abbrev cB:=(ax ag (a1 aj))
abbrev fP:=(ax aa cB)
def Cf:FS:=(uO (vc 3 (v7 (uM vY (ax aa (a1 (cC Dp)))) (c1 zR (cL (uX 1 [1,2] (iL aa) (gN 0) vN (uM Jt fP))))))
 (uO (vG (uM u5 (ax aw (a1 (cS "ways are a list of at most 10 tuples (room, word, room, mark)")))))
 (vG (uM u5 (ax (uM xM (a1 (cL (uX 1 [] (iL aa) (gN 0) vN (vC (ax (c2 f3 aa aP) (a1 (c2 f3 aa aM)))))))) (a1 (cS "two ways lead from one room by one word")))))))
def Cg:=fb 3 4 Cf
abbrev eW:=(cS "two")
abbrev nJ:=(a1 (c1 (uS vd "name") aa))
def KW:FS:=(uO (fh (ya (wg (cT (c1 (v5 Us) aa))) (ya (wg (cT (uM yi nJ))) (wg (cT (c1 (v5 (wL "tuple")) (c1 (uS yc "others") aa)))))) (uT bI) uZ)
 (uO (fh (ya (wg (cT (c1 zR (cL (uX 1 [] (iT (c1 (uS yc "others") aa)) (gN 0) vN (uM yi bM)))))) (wg (cT (uM vQ (ax (c1 (uS xQ "form") aa) (a1 (cC PZ))))))) (uT bI) uZ)
 (uT (yr (cT (c2 (e? δ) (c1 (uS xQ "form") aa) eW)) (uM yj (a1 (c1 (uS xn "joining") aa))) (c2 y8 (c1 (uS xn "joining") aa) aA)))))
def KY:=fb 1 1 KW
def Ef:FS:=(uO (vc 1 (v7 (uM vY (ax aa (a1 (cC Fo)))) (c1 zR (cL (uX 1 [] (iL aa) (gN 0) vN (uM KY bM))))))
 (vG (uM u5 (ax ag (a1 (cS "verbs are a list of at most 6 verbs"))))))
def yA:=fb 1 2 Ef
def Hl:FS:=(uT (D5 (c1 HU (cL (uX 1 [1] (iL aa) (gN 0) vN (c2 (n6 δ) aa ag))))))
def zI:=fb 2 2 Hl
abbrev bJ:=(cV 7)
abbrev bT:=(cV 6)
abbrev km:=(a1 (c1 (uS vd "name") bT))
def yQ:FS:=(uO (yw 3 (vp vB))
 (uO (yx (iL (cL (vK ym bM))) (gN 4) (vG (Dg 3 (c1 (uS xT "words") ay))))
 (uO (yw 5 (vp vB))
 (uO (yx (iL aj) (gN 6) (vG (Dg 5 (GV (vC km) (c1 (uS yc "others") bT)))))
 (uO (vc 7 (cL (xq (cL (uX 1 [] (iL aj) (gN 0) (cT (c2 wz (c1 (uS xn "joining") aa) aA)) (c1 (uS xn "joining") aa))) (cL (uX 1 [] (iL ag) (gN 0) vN (c2 f3 aa aM))))))
 (uO (vG (uM u5 (ax (uM xM (a1 (D' 5))) (a1 (cS "two verbs' names are alike")))))
 (uO (vG (uM u5 (ax (uM zI (ax (cL (xq (D' 5) bJ)) (a1 (D' 3)))) (a1 (cS "a verb's, way's or joining word is a word of a thing")))))
 (uO (vG (uM u5 (ax (uM zI (ax (cL (xq (D' 5) bJ)) (a1 (cC Aw)))) (a1 (cS "the, a, undo or restart is a word of the world")))))
 (vG (uM u5 (ax (uM zI (ax bJ (a1 (D' 5)))) (a1 (cS "a way's or joining word is a verb's name")))))))))))))
def xN:=fb 3 8 yQ
abbrev eA:=(a1 ay)
def Bo:FS:=(uO (vG (uM AC bM))
 (uO (vG (uM Bl bK))
 (uO (vG (uM Bn cz))
 (uO (vG (uM AE bM))
 (uO (vG (uM xF bM))
 (uO (vc 6 (cL (uX 1 [] (iL aa) (gN 0) (cT (c2 (e? δ) (c1 (uS vJ "kind") aa) dc)) (c1 (uS vd "name") aa))))
 (uO (vG (uM Ce (ax aj (a1 bT))))
 (uO (vG (uM Cg (ax aw (ax bT (a1 (cL (vK yn cz)))))))
 (uO (vG (uM yA eA))
 (vG (uM xN (ax aa (ax aw (a1 (cL (xq ay bw))))))))))))))))
def Bp:=fb 6 7 Bo
def Uu:FS:=(uT (vE 13 (λa=>yT (a++[])) (ax aa (ax ag (ax aj (ax aw (a1 bI)))))))
def AF:=fb 4 4 Uu
def KZ:FS:=(uT (vE 13 (λa=>yT (a++[])) (ax aa (ax ag (ax (cL (vp vB)) (ax aj (a1 cR)))))))
def wt:=fb 3 3 KZ
abbrev cg:=(cS "it")
abbrev j6:=(cS "fixed")
abbrev j8:=(a1 (cS "here"))
abbrev jd:=(cS "take")
abbrev ji:=(a1 cg)
def Fv:FS:=(wJ (vp (ax (uM wt (ax jd (ax (cL (vp (a1 (vE 7 (λa=>xI (a++[])) (ax cg (a1 j6)))))) (a1 (cS "That stays."))))) (ax (uM wt (ax jd (ax (cL (vp (a1 (vE 3 (λa=>DY (a++[])) (ax cg bM))))) (a1 (cS "You have that."))))) (ax (uM AF (ax jd (ax (cL (vp vB)) (ax (cL (vp (a1 (vE 11 (λa=>yd (a++[])) (ax cg bM))))) (a1 (cS "Taken.")))))) (ax (uM AF (ax (cS "drop") (ax (cL (vp (a1 (vE 4 (λa=>Cb (a++[])) ji)))) (ax (cL (vp (a1 (vE 11 (λa=>yd (a++[])) (ax cg j8))))) (a1 (cS "Dropped.")))))) (a1 (uM wt (ax (cS "drop") (ax (cL (vp vB)) (a1 (cS "You lack that."))))))))))))
def Ci:=yq 1 1 Fv
abbrev cU:=(cS "box")
abbrev eX:=(cS "other")
abbrev ie:=(cS "put")
abbrev kn:=(a1 aP)
def Hm:FS:=(wJ (vp (ax (uM wt (ax ie (ax (cL (vp (a1 (vE 9 (λa=>xK (a++[])) (a1 (vE 4 (λa=>Cb (a++[])) ji)))))) (a1 (cS "You lack that."))))) (ax (uM wt (ax ie (ax (cL (vp (a1 (vE 9 (λa=>xK (a++[])) (a1 (vE 7 (λa=>xI (a++[])) (ax eX (a1 cU)))))))) (a1 (cS "It holds nothing."))))) (ax (uM wt (ax ie (ax (cL (vp (a1 (vE 6 (λa=>wV (a++[])) (ax eX kn))))) (a1 (cS "It is shut."))))) (a1 (uM AF (ax ie (ax (cL (vp vB)) (ax (cL (vp (a1 (vE 11 (λa=>yd (a++[])) (ax cg (a1 eX)))))) (a1 (cS "Done."))))))))))))
def Dv:=yq 0 0 Hm
abbrev je:=(cS "open")
abbrev jg:=(ax cg (a1 aM))
abbrev kC:=(ax cg kn)
def Hn:FS:=(wJ (vp (ax (uM wt (ax je (ax (cL (vp (a1 (vE 9 (λa=>xK (a++[])) (a1 (vE 7 (λa=>xI (a++[])) (ax cg (a1 cU)))))))) (a1 (cS "It has no lid."))))) (ax (uM wt (ax je (ax (cL (vp (a1 (vE 6 (λa=>wV (a++[])) jg)))) (a1 (cS "It is open."))))) (ax (uM AF (ax je (ax (cL (vp vB)) (ax (cL (vp (a1 (vE 12 (λa=>yO (a++[])) jg)))) (a1 (cS "Opened.")))))) (ax (uM wt (ax (cS "shut") (ax (cL (vp (a1 (vE 9 (λa=>xK (a++[])) (a1 (vE 7 (λa=>xI (a++[])) (ax cg (a1 cU)))))))) (a1 (cS "It has no lid."))))) (ax (uM wt (ax (cS "shut") (ax (cL (vp (a1 (vE 6 (λa=>wV (a++[])) kC)))) (a1 (cS "It is shut."))))) (a1 (uM AF (ax (cS "shut") (ax (cL (vp vB)) (ax (cL (vp (a1 (vE 12 (λa=>yO (a++[])) kC)))) (a1 (cS "Shut."))))))))))))))
def Dx:=yq 0 0 Hn
abbrev i8:=(cS "lamp")
abbrev ip:=(a1 i8)
def Eg:FS:=(wJ (vp (ax (uM wt (ax (cS "light") (ax (cL (vp (a1 (vE 9 (λa=>xK (a++[])) (a1 (vE 7 (λa=>xI (a++[])) (ax cg ip))))))) (a1 (cS "It burns not."))))) (ax (uM wt (ax (cS "light") (ax (cL (vp (a1 (vE 6 (λa=>wV (a++[])) jg)))) (a1 (cS "It is lit."))))) (ax (uM AF (ax (cS "light") (ax (cL (vp vB)) (ax (cL (vp (a1 (vE 12 (λa=>yO (a++[])) jg)))) (a1 (cS "Lit.")))))) (ax (uM wt (ax (cS "douse") (ax (cL (vp (a1 (vE 9 (λa=>xK (a++[])) (a1 (vE 7 (λa=>xI (a++[])) (ax cg ip))))))) (a1 (cS "It burns not."))))) (ax (uM wt (ax (cS "douse") (ax (cL (vp (a1 (vE 6 (λa=>wV (a++[])) kC)))) (a1 (cS "It is out."))))) (a1 (uM AF (ax (cS "douse") (ax (cL (vp vB)) (ax (cL (vp (a1 (vE 12 (λa=>yO (a++[])) kC)))) (a1 (cS "Doused."))))))))))))))
def Bq:=yq 0 0 Eg
abbrev ik:=(a1 (c2 f3 ag aP))
def Ho:FS:=(uO (yw 2 (vp (ax (vE 3 (λa=>DY (a++[])) (ax aa ik)) (a1 (vE 8 (λa=>Du (a++[])) (a1 (c2 f3 ag aM)))))))
 (uO (fh (cT (c2 wz (c2 f3 ag fN) aA)) (vG (AQ 2 (vE 9 (λa=>xK (a++[])) (a1 (vE 6 (λa=>wV (a++[])) (ax (c2 f3 ag fN) kn)))))) uZ)
 (wJ (J5 2))))
def Dy:=yq 2 3 Ho
abbrev ig:=(cS "go")
def EA:FS:=(uO (vc 2 (cL (uX 1 [0] (iL ag) (gN 0) vN (uM AF (ax ig (ax (cL (vK Dy eZ)) (ax (cL (vp (a1 (vE 11 (λa=>yd (a++[])) (ax ag (a1 (c2 f3 aa b0))))))) (a1 (cS "You go.")))))))))
 (wJ (xq aj (cL (vp (a1 (uM wt (ax ig (ax (cL (vp vB)) (a1 (cS "No way there.")))))))))))
def EB:=yq 2 3 EA
def Fw:FS:=(wJ (vp (a1 (uM AF (ax (cS "wait") (ax (cL (vp vB)) (ax (cL (vp vB)) (a1 (cS "Time goes by.")))))))))
def Fy:=yq 0 0 Fw
def DA:FS:=(wJ (xq (cL (xq (cL (xq (cL (xq (cL (xq (cL (vK Ci bM)) (cL (vK Dv vB)))) (cL (vK Dx vB)))) (cL (vK Bq vB)))) (cL (vK EB cz)))) (cL (vK Fy vB))))
def AG:=yq 2 2 DA
abbrev dM:=(cS "way")
abbrev i9:=(a1 (cS "alone"))
abbrev rX:=(ax (vC vB) (ax eW (a1 (cS "in"))))
def DB:FS:=(wJ (xq (cL (uX 1 [] (iT (vC (ax jd (ax (cS "drop") (ax je (ax (cS "shut") (ax (cS "light") (a1 (cS "douse"))))))))) (gN 0) vN (vE 2 (λa=>v8 (a++[D.E,(D.str "one"),D.E])) bM))) (cL (vp (ax (vE 2 (λa=>v8 (a++[])) (ax ie rX)) (ax (vE 2 (λa=>v8 (a++[D.E])) (ax ig (ax (vC vB) (a1 dM)))) (a1 (vE 2 (λa=>v8 (a++[D.E])) (ax (cS "wait") (ax (vC vB) i9))))))))))
def ze:=yq 0 0 DB
def Gr:FS:=(uO (GU 1)
 (uO (yx (iL aa) (gN 2) (y9 1 (c1 (uS vd "name") aj) aj))
 (uT (D' 1))))
def Gs:=fb 1 3 Gr
def zW:FS:=(uO (GU 2)
 (uO (yx (iL aa) (gN 3) (fh (cT (vh xD "has_mark" aw vB)) (y9 2 (c1 (uS vd "name") aw) aM) uZ))
 (uO (yx (iL ag) (gN 4) (y9 2 (c1 (uS vd "name") ay) (c1 (uS Au "most") ay)))
 (uT (D' 2)))))
def zX:=fb 2 5 zW
def CM:FS:=(uO (GU 1)
 (uO (yx (iL aa) (gN 2) (yx (iT (GV (vC (a1 (c1 (uS vd "name") aj))) (c1 (uS yc "others") aj))) (gN 3) (y9 1 aw aj)))
 (uT (D' 1))))
def yF:=fb 1 4 CM
def K0:FS:=(Oz (uS zd "verb"))
def K1:=fb 1 3 K0
def CN:FS:=(wJ (uX 1 [1] (iL (c1 (uS xf "kept_things") aa)) (gN 0) (cT (c2 (e? δ) (c1 (uS vJ "kind") aa) ag)) (c1 (uS vd "name") aa)))
def zY:=fb 2 2 CN
def yB:Nat->Option (List D->Option D):=λc=>match c with
 |14=>Z zY
 |_=>J
def A5:FS:=(wJ (xq (c1 (uS Dl "kept_verbs") aa) (c1 (uS BJ "shared_verbs") aa)))
def xY:=fb 1 1 A5
def xR:Nat->Option (List D->Option D):=λc=>match c with
 |14=>Z xY
 |_=>J
def DC:FS:=(uT (v7 (c1 (v5 (wL "str")) aa) (c2 (e? δ) aa ag)))
def zf:=fb 2 2 DC
def K2:FS:=(uT (vE 13 (λa=>yT (a++[])) (ax (c1 (uS zd "verb") aa) (ax (c1 (uS DW "tests") aa) (ax (c1 (uS BH "deeds") aa) (ax (c1 (uS Fj "text") aa) (a1 (c1 (uS zH "refuses") aa))))))))
def Gu:=fb 1 1 K2
def BP:FS:=(uT (c2 Ny (c1 (uS Av "things_by_name") aa) ag))
def wF:=fb 2 2 BP
def vq:Nat->Option (List D->Option D):=λc=>match c with
 |14=>Z wF
 |_=>J
def CO:FS:=(uT (c2 CG (c1 (uS AZ "mosts_by_name") aa) ag))
def xg:=fb 2 2 CO
def wW:Nat->Option (List D->Option D):=λc=>match c with
 |14=>Z xg
 |_=>J
def CP:FS:=(uT (c2 CG (c1 (uS A0 "verbs_by_word") aa) ag))
def xh:=fb 2 2 CP
def wb:Nat->Option (List D->Option D):=λc=>match c with
 |14=>Z xh
 |_=>J
def Hr:FS:=(uT (c1 (uS Bj "your_name") aa))
def NB:=fb 1 1 Hr
def Ah:Nat->Option (List D->Option D):=λc=>match c with
 |14=>Z NB
 |_=>J
abbrev jk:=(cS "one")
abbrev gr:=(ax jk (a1 (cS "two")))
def CQ:FS:=(uO (fh (cT (uM zf (ax ag ji))) (uT (c2 (n6 δ) aa (vC gr))) uZ)
 (uT (v7 (uM zf (ax ag (a1 eX))) (c2 (e? δ) aa eW))))
def wc:=fb 2 2 CQ
def K4:FS:=(uT (v7 (c2 wz aa aA) (uM zf (ax ag j8))))
def zw:=fb 2 2 K4
def P1:FS:=(uT (yr (cT (c1 (v5 (wL "str")) ag)) (vh vq "thing_of" aa bK) aA))
def z9:=fb 2 2 P1
def FB:FS:=(uT (v7 (c2 wz (uM z9 cz) aA) (c2 (e? δ) (c1 (uS vJ "kind") (uM z9 cz)) aj)))
def Aa:=fb 3 3 FB
abbrev cW:=(ax aa cy)
def K5:FS:=(uT (S? (uM wc cB) (S? (uM zw cB) (c2 wz (uM z9 cW) aA))))
def BQ:=fb 3 3 K5
def EC:FS:=(uO (fh (ya (cT (uM wc cB)) (cT (uM zw cB))) (uT cR) uZ)
 (uT (v7 (c2 wz (uM z9 cW) aA) (vh wa "can_hold" (uM z9 cW) vB))))
def Cj:=fb 3 3 EC
def ED:FS:=(uO (fh (cT (uM wc cB)) (uT cR) uZ)
 (uT (v7 (c2 wz (uM z9 cW) aA) (D5 (uM Aa (ax aa (ax aj jh)))))))
def EE:=fb 3 3 ED
def yG:FS:=(uO (fh (ya (wg (cT (uM Ay dN))) (cT (c2 HQ aw aP))) (uT bI) uZ)
 (uO (fh (cT (uM wc cB)) (uT (c2 z7 aw (cC A3))) uZ)
 (uO (vc 4 (yr (cT (c1 (v5 (wL "str")) aj)) (vh wW "most_of" aa cy) aA))
 (uT (v7 (c2 wz ay aA) (c2 z7 aw ay))))))
def yH:=fb 4 5 yG
abbrev kh:=(ax aa (ax ag (a1 (c1 (uS BK "term") aj))))
abbrev rV:=(ax aa (ax ag (a1 (c1 (uS DV "place") aj))))
def Gv:FS:=(uO (fh (ya (wg (cT (uM EE kh))) (wg (cT (uM Cj rV)))) (uT bI) uZ)
 (uT (S? (c2 (e? γ) (c1 (uS BK "term") aj) (vh Ah "you" aa vB)) (uM Aa (ax aa (ax (c1 (uS DV "place") aj) jh))))))
def Gw:=fb 3 3 Gv
def K6:FS:=(uT (v7 (c1 (v5 (wL "str")) aa) (yK z7 z7 aM (c1 wU aa) (cC Fm))))
def BR:=fb 1 1 K6
def DD:FS:=(uT (v7 (uM yi bK) (v7 (c2 wz (vh wb "verb_of" aa bK) aA) (c2 (e? δ) (c1 (uS vd "name") (vh wb "verb_of" aa bK)) ag))))
def AH:=fb 2 2 DD
def A6:FS:=(uT (v7 (c1 (v5 (wL "bool")) (c1 (uS zH "refuses") aa)) (S? (D5 (c1 (uS zH "refuses") aa)) (c2 (e? δ) (c1 (uS BH "deeds") aa) (cL (vp vB))))))
def zg:=fb 1 1 A6
abbrev rN:=(ax aa (ax ag (ax (c1 (uS BK "term") aj) (a1 (c1 (uS DX "value") aj)))))
def wu:FS:=(uO (fh (cT (c1 (v5 t_At) aj)) (uT (v7 (uM BQ kh) (uM Cj rV))) uZ)
 (uO (fh (cT (c1 (v5 (tOr X3 Ur)) aj)) (uT (uM BQ kh)) uZ)
 (uO (fh (cT (c1 (v5 NA) aj)) (uT (uM yH rN)) uZ)
 (uO (fh (cT (c1 (v5 Ul) aj)) (uT (v7 (uM BQ kh) (uM vQ (ax (c1 (uS vJ "kind") aj) (a1 (cC B9)))))) uZ)
 (uO (fh (cT (c1 (v5 Ut) aj)) (uT (v7 (c2 (e? δ) ag dM) (uM yj (a1 (c1 (uS Jj "word") aj))))) uZ)
 (uT (c1 (v5 X4) aj)))))))
def zZ:=fb 3 3 wu
abbrev nL:=(a1 (c2 IP aw aM))
def yU(g:List D->Option D):FS:=(uO (fh (cT (c2 (e? δ) aw aP)) (uT bI) uZ)
 (uO (fh (cT (c1 (v5 Up) aj)) (uT (uM g (ax aa (ax ag (ax (c1 (uS Gm "inner") aj) nL))))) uZ)
 (uO (fh (cT (c1 (v5 OI) aj)) (uT (v7 (uM g (ax aa (ax ag (ax (c1 (uS Ik "one") aj) nL)))) (uM g (ax aa (ax ag (ax (c1 (uS DU "other") aj) nL)))))) uZ)
 (uT (uM zZ fP)))))
def yV:Nat->List D->Option D
 |0=>fb 4 4 Tg
 |n+1=>fb 4 4 (yU (yV n))
def DZ:FS:=(uO (fh (cT (c1 (v5 X5) aj)) (uT (uM yH rN)) uZ)
 (uT (v7 (c1 (v5 Uo) aj) (uM Gw fP))))
def Gx:=fb 3 3 DZ
def Ht:FS:=(uT (v7 (uM vY (ax aj (a1 (cC Fk)))) (c1 zR (cL (uX 1 [0,1] (iL aj) (gN 0) vN (uM (yV 4) (ax ag (ax aj (ax aa (a1 (cC G3)))))))))))
def DE:=fb 3 3 Ht
abbrev kz:=(ax ag (ax aj bM))
def Hu:FS:=(uT (v7 (uM vY (ax aj (a1 (cC Fl)))) (c1 zR (cL (uX 1 [0,1] (iL aj) (gN 0) vN (uM Gx kz))))))
def DF:=fb 3 3 Hu
abbrev rZ:=(a1 (c1 (uS zd "verb") ag))
def Gy:FS:=(uO (fh (ya (wg (cT (c1 (v5 Uq) ag))) (ya (wg (cT (uM AH (ax aa rZ)))) (wg (cT (uM BR (a1 (c1 (uS Fj "text") ag))))))) (uT bI) uZ)
 (uO (vc 2 (c1 (uS xQ "form") (vh wb "verb_of" aa rZ)))
 (uT (v7 (uM DE (ax aa (ax aj (a1 (c1 (uS DW "tests") ag))))) (v7 (uM DF (ax aa (ax aj (a1 (c1 (uS BH "deeds") ag))))) (uM zg bK))))))
def GA:=fb 2 3 Gy
def zh:FS:=(uO (vG (uM Bp (ax ag (ax aj (ax aw (ax ay (ax bw (a1 (cL (vK ze vB))))))))))
 (uO (vU 14 0 "kept_things" (cL (AX ag)))
 (uO (vU 14 0 "kept_marks" (cL (AX aj)))
 (uO (vU 14 0 "kept_dark" (cL (AX aw)))
 (uO (vU 14 0 "kept_ways" (cL (AX ay)))
 (uO (vU 14 0 "kept_verbs" (cL (AX bw)))
 (uO (vU 14 0 "shared_verbs" (cL (vK ze vB)))
 (uO (vU 14 0 "your_name" (Ea 16 (c2 f3 (vh yB "of_kind" aa jb) aP)))
 (uO (vU 14 0 "things_by_name" (uM Gs bK))
 (uO (vU 14 0 "mosts_by_name" (uM zX cB))
 (uO (vU 14 0 "verbs_by_word" (Ea 16 (uM yF (a1 (vh xR "all_verbs" aa vB)))))
 (uO (vc 7 (Ea 16 (v7 (uM vY (ax bT (a1 (cC Fq)))) (c1 zR (cL (uX 1 [0] (iL bT) (gN 0) vN (uM GA eZ)))))))
 (uO (vG (uM u5 (ax bJ (a1 (cS "rules are a list of at most 20 rules, each as it may be")))))
 (uO (vU 14 0 "kept_rules" (cL (AX bT)))
 (uO (vU 14 0 "shared_rules" (Ea 16 (cL (vK AG (ax (c1 (uS Bj "your_name") aa) eA)))))
 (uO (vU 14 0 "copied_rules" (cL (uX 1 [] (iL bT) (gN 0) vN (uM Gu bM))))
 (vU 14 0 "rules_by_verb" (Ea 16 (uM K1 (a1 (cL (xq (c1 (uS BG "copied_rules") aa) (c1 (uS BI "shared_rules") aa)))))))))))))))))))))))
def zi:=v? 14 6 8 zh
def CS:FS:=(uT (c2 (n6 δ) ag (c1 (uS Eb "kept_dark") aa)))
def HV:=fb 2 2 CS
def zC:Nat->Option (List D->Option D):=λc=>match c with
 |14=>Z HV
 |_=>J
def A7:FS:=(wJ (AX (c1 (uS As "kept_marks") aa)))
def FC:=fb 1 1 A7
def z4:Nat->Option (List D->Option D):=λc=>match c with
 |14=>Z FC
 |_=>J
def Eh:FS:=(wJ (uX 1 [] (iL (c1 (uS xf "kept_things") aa)) (gN 0) vN (c1 (uS vd "name") aa)))
def Br:=fb 1 1 Eh
def yW:Nat->Option (List D->Option D):=λc=>match c with
 |14=>Z Br
 |_=>J
def A8:FS:=(wJ (u6 (cL (uX 1 [] (iL (c1 (uS Bi "kept_ways") aa)) (gN 0) vN (c2 f3 aa aM)))))
def zj:=fb 1 1 A8
def xS:Nat->Option (List D->Option D):=λc=>match c with
 |14=>Z zj
 |_=>J
def zJ:FS:=(wJ (AX (KF (c1 (uS zc "rules_by_verb") aa) ag (cL (vp vB)))))
def xp:=fb 2 2 zJ
def yR:Nat->Option (List D->Option D):=λc=>match c with
 |14=>Z xp
 |_=>J
abbrev j9:=(cS "mark")
abbrev jf:=(cS "at")
abbrev rP:=(ax (c1 (uS xf "kept_things") aa) (a1 (c1 (uS As "kept_marks") aa)))
def Ei:FS:=(uO (vc 1 (cL (uX 1 [] (iL (c1 (uS xf "kept_things") aa)) (gN 0) (cT (c2 (e? γ) (c1 (uS vJ "kind") aa) dc)) (vC (ax jf nJ)))))
 (uO (vc 2 (cL (uX 1 [] (iL (cL (vK yn rP))) (gN 0) vN (vC (ax j9 bM)))))
 (wJ (Gj (cL (xq ag aj))))))
def Ej:=fb 1 3 Ei
def A9:Nat->Option (List D->Option D):=λc=>match c with
 |14=>Z Ej
 |_=>J
def FD:FS:=(uO (GU 1)
 (uO (yx (iL (vh z4 "own_marks" aa vB)) (gN 2) (y9 1 (c1 (uS vd "name") aj) (c1 (uS wD "start") aj)))
 (uT (D' 1))))
def Ck:=fb 1 3 FD
def Ek:FS:=(uO (fh (cT (c2 (e? δ) (c2 f3 aj aP) jf)) (uT (c1 (uS wD "start") (vh vq "thing_of" aa (a1 (c2 f3 aj aM))))) uZ)
 (uT (KF ag (c2 f3 aj aM) aP)))
def yC:=fb 3 3 Ek
abbrev sA:=(ax aa (a1 (uM yC kz)))
def El:FS:=(uO (vc 1 (uM Ck bM))
 (uT (E7 (cL (uX 1 [0,1] (iL (vh A9 "parts" aa vB)) (gN 0) vN (vC sA))))))
def Bs:=fb 1 2 El
def Ju:FS:=(uO (yx (iT aa) (gN 2) (fh (cT (c2 (e? δ) (c2 f3 aj aP) ag)) (uT (c2 f3 aj aM)) uZ))
 (uT aA))
def Cn:=fb 2 3 Ju
abbrev sv:=(a1 (vC (ax jf bK)))
def P2:FS:=(uT (uM Cn (ax aa sv)))
def zD:=fb 2 2 P2
abbrev sy:=(a1 (vC (ax j9 bK)))
def K7:FS:=(uT (uM Cn (ax aa sy)))
def yX:=fb 2 2 K7
def Hv:FS:=(uT (E7 (cL (uX 1 [1,2] (iT aa) (gN 0) vN (yr (cT (c2 (e? δ) (c2 f3 aa aP) ag)) (vC cB) aa)))))
def Ba:=fb 3 3 Hv
abbrev kB:=(ax ag eA)
def FH:FS:=(uO (yw 3 (vp vB))
 (uO (vc 4 (uM zD cB))
 (uO (whL (cT (c2 wz ay aA)) (uO (vG (AQ 3 ay))
 (vc 4 (uM zD kB))) 50)
 (wJ (J5 3)))))
def yp:=yq 3 5 FH
abbrev sk:=(a1 (vh Ah "you" aa vB))
def K8:FS:=(uT (uM zD (ax ag sk)))
def Ai:=fb 2 2 K8
def X6:FS:=(uT (c2 (n6 δ) (vh Ah "you" aa vB) (cL (vK yp fP))))
def Uv:=fb 3 3 X6
def K9:FS:=(uT (v7 (c2 (e? δ) (c1 (uS vJ "kind") (vh vq "thing_of" aa cy)) cU) (c2 (e? δ) (uM yX cB) aP)))
def zx:=fb 3 3 K9
abbrev nV:=(ax aa kB)
def La:FS:=(uO (yx (iL (cL (vK yp fP))) (gN 4) (uO (fh (cT (c2 (e? δ) ay aw)) (uT cR) uZ)
 (fh (cT (uM zx nV)) (uT bI) uZ)))
 (uT bI))
def zy:=fb 4 5 La
abbrev dv:=(ax ag (ax aj (a1 aw)))
def Jv:FS:=(uT (v7 (c2 (e? δ) (uM yX cB) aM) (uM zy (ax aa dv))))
def AI:=fb 4 4 Jv
abbrev sf:=(ax ag (ax aj (ax aa dN)))
def NC:FS:=(uO (vc 2 (uM Ai cz))
 (uO (fh (wg (cT (vh zC "is_dark" aa cy))) (uT cR) uZ)
 (uT (c1 HU (cL (uX 1 [0,1,2] (iL (vh yB "of_kind" aa ip)) (gN 0) vN (uM AI sf)))))))
def FI:=fb 2 3 NC
abbrev rT:=(ax aa (ax ag (ax aj sk)))
abbrev sd:=(ax aa (ax ag (ax aj (a1 (uM Ai cz)))))
def Lb:FS:=(uO (vc 3 (vh vq "thing_of" aa cy))
 (uO (fh (ya (cT (c2 y8 aw aA)) (wg (cT (vh v3 "is_plainly" aw vB)))) (uT bI) uZ)
 (uO (fh (cT (uM zy rT)) (uT cR) uZ)
 (uT (v7 (uM zy sd) (uM FI cz))))))
def wQ:=fb 3 4 Lb
def Hw:FS:=(uO (vc 2 (yr (cT (c2 y8 ag aA)) aA (vh wb "verb_of" aa ik)))
 (uT (v7 (c2 wz aj aA) (c2 (e? δ) (c1 (uS xQ "form") aj) dM))))
def zK:=fb 2 3 Hw
abbrev rW:=(ax (c2 f3 ag aM) (a1 (c2 f3 ag b0)))
abbrev nM:=(ax aA (a1 aA))
def Hy:FS:=(uO (fh (ya (cT (c2 y8 ag aA)) (cT (uM zK cz))) (uT (vC nM)) uZ)
 (uT (vC rW)))
def wx:=fb 2 2 Hy
def P3:FS:=(uO (fh (cT (c2 (e? δ) aw (cS "here"))) (uT (uM Ai cz)) uZ)
 (uO (fh (cT (c2 (e? δ) aw cg)) (uT (c2 f3 (uM wx cW) aP)) uZ)
 (uO (fh (cT (c2 (e? δ) aw eX)) (uT (c2 f3 (uM wx cW) aM)) uZ)
 (uT aw))))
def wy:=fb 4 4 P3
def Jw:FS:=(uO (vc 2 (vh vq "thing_of" aa bK))
 (uT (yr (ya (cT (c2 y8 aj aA)) (cT (c2 (e? δ) (c1 (uS vJ "kind") aj) dc))) (cL (vp vB)) (cL (vp sv)))))
def EF:=fb 2 3 Jw
def FJ:FS:=(uT (yr (cT (c2 y8 (vh wW "most_of" aa bK) aA)) (cL (vp vB)) (cL (vp sy))))
def Ab:=fb 2 2 FJ
def ND:FS:=(uO (vc 3 (vh vq "thing_of" aa cy))
 (uT (v7 (c2 (e? γ) (uM EF cz) (cL (vp vB))) (v7 (c2 wz aw aA) (v7 (vh wa "can_hold" aw vB) (c2 (e? γ) aj ag))))))
def FK:=fb 3 4 ND
def Jx:FS:=(uT (v7 (c2 (e? γ) (uM Ab cz) (cL (vp vB))) (c2 z7 aj (vh wW "most_of" aa bK))))
def EG:=fb 3 3 Jx
abbrev fO:=(ax ag (ax aj (ax aw (a1 (c1 (uS BK "term") aa)))))
abbrev ni:=(ax ag (ax aj (ax aw (a1 (c1 (uS DV "place") aa)))))
def Jy:FS:=(uO (vc 4 (uM wy fO))
 (uO (vc 5 (uM zD (ax aj eA)))
 (uT (v7 (c2 wz bw aA) (c2 (e? δ) bw (uM wy ni))))))
def EH:=fb 4 6 Jy
abbrev kA:=(ax aj (a1 (uM wy fO)))
def Hz:FS:=(uT (uM Uv (ax ag kA)))
def HA:=fb 4 4 Hz
def FL:FS:=(uT (uM wQ (ax ag kA)))
def FM:=fb 4 4 FL
def DG:FS:=(uO (vc 4 (uM yX kA))
 (uT (v7 (c2 wz ay aA) (c2 (e? δ) ay (c1 (uS DX "value") aa)))))
def AJ:=fb 4 5 DG
def FN:FS:=(uO (vc 4 (vh vq "thing_of" ag (a1 (uM wy fO))))
 (uT (v7 (c2 wz ay aA) (c2 (e? δ) (c1 (uS vJ "kind") ay) (c1 (uS vJ "kind") aa)))))
def FP:=fb 4 5 FN
def FQ:FS:=(uT (v7 (uM zK (ax ag dN)) (c2 (e? δ) (c2 f3 aw aM) (c1 (uS Jj "word") aa))))
def FR:=fb 4 4 FQ
def HB:FS:=(uT (uM FI cB))
def HC:=fb 4 4 HB
def zL(g:Nat->Option (List D->Option D)):FS:=(uT (D5 (vh g "holds" (c1 (uS Gm "inner") aa) dv)))
def yt(g:Nat->Option (List D->Option D)):FS:=(uT (v7 (vh g "holds" (c1 (uS Ik "one") aa) dv) (vh g "holds" (c1 (uS DU "other") aa) dv)))
def Cp:Nat->Option (List D->Option D):=λc=>match c with
 |3=>Z EH
 |4=>Z HA
 |5=>Z FM
 |6=>Z AJ
 |7=>Z FP
 |8=>Z FR
 |15=>Z HC
 |_=>J
def vv:Nat->Nat->Option (List D->Option D)
 |0=>Cp
 |n+1=>λc=>match c with
  |9=>Z (fb 4 4 (zL (vv n)))
  |10=>Z (fb 4 4 (yt (vv n)))
  |c=>Cp c
abbrev kg:=(ax ag (ax aj (a1 bw)))
abbrev nD:=(a1 bw)
abbrev sr:=(ax ag (ax ay nD))
def HE:FS:=(uO (vc 4 (uM wy fO))
 (uO (vc 5 (uM wy ni))
 (uO (fh (ya (wg (cT (uM FK sr))) (cT (c2 (n6 δ) ay (cL (vK yp kg))))) (uT aA) uZ)
 (uT (uM Ba (ax aj (ax (vC (ax jf eA)) nD)))))))
def Bb:=fb 4 6 HE
abbrev nI:=(a1 (c1 (uS DX "value") aa))
def Jz:FS:=(uO (vc 4 (uM wy fO))
 (uO (fh (wg (cT (uM EG (ax ag (ax ay nI))))) (uT aA) uZ)
 (uT (uM Ba (ax aj (ax (vC (ax j9 eA)) nI))))))
def EI:=fb 4 5 Jz
def zz:Nat->Option (List D->Option D):=λc=>match c with
 |11=>Z Bb
 |12=>Z EI
 |_=>J
def HF:FS:=(uO (vc 2 (yr (cT (c1 (v5 (wL "str")) ag)) (vh vq "thing_of" aa bK) aA))
 (uT (v7 (c2 wz aj aA) (vh v3 "is_plainly" aj vB))))
def yY:=fb 2 3 HF
def HG:FS:=(uO (fh (cT (c2 (e? δ) ag eW)) (uT (v7 (uM yY cW) (uM yY (ax aa dN)))) uZ)
 (uO (fh (cT (c2 wz aw aA)) (uT bI) uZ)
 (uO (fh (cT (c2 (e? δ) ag dM)) (uT (v7 (c1 (v5 (wL "str")) aj) (c2 (n6 δ) aj (vh xS "way_words" aa vB)))) uZ)
 (uT (yr (cT (c2 (e? δ) ag (cS "alone"))) (c2 y8 aj aA) (uM yY cW))))))
def DH:=fb 4 4 HG
def FU:FS:=(uO (fh (ya (wg (cT (c1 (v5 (wL "tuple")) ag))) (ya (cT (c2 (e? γ) (c1 wU ag) fN)) (wg (cT (c1 (v5 (wL "str")) (c2 f3 ag aP)))))) (uT bI) uZ)
 (uO (vc 2 (vh wb "verb_of" aa ik))
 (uT (v7 (c2 wz aj aA) (v7 (c2 (e? δ) (c1 (uS vd "name") aj) (c2 f3 ag aP)) (uM DH (ax aa (ax (c1 (uS xQ "form") aj) rW))))))))
def Cq:=fb 2 3 FU
def CT:FS:=(fh (wg (cT (uM Cq cz))) Tg uZ)
def yI:=fb 2 2 CT
def Uw:FS:=(uO (yx (iL (c1 (uS DW "tests") aw)) (gN 4) (fh (wg (cT (vh (vv 3) "holds" ay fP))) (uT bI) uZ))
 (uT cR))
def GB:=fb 4 5 Uw
abbrev rG:=(ax (cS "refused") (a1 (cC G2)))
abbrev r6:=(a1 (c1 (uS Fj "text") aw))
abbrev nS:=(ax ay cy)
def Lc:FS:=(uO (fh (cT (c1 (uS zH "refuses") aw)) (uT (vC (ax (vC (ax (cS "refused") r6)) bK))) uZ)
 (uO (vc 4 ag)
 (uO (yx (iL (c1 (uS BH "deeds") aw)) (gN 5) (uO (vc 4 (vh zz "done" bw (ax aa nS)))
 (fh (cT (c2 y8 ay aA)) (uT (vC (ax (vC rG) bK))) uZ)))
 (uT (vC (ax (vC (ax (cS "told") r6)) eA))))))
def Aj:=fb 4 6 Lc
abbrev ia:=(cS "unseen")
abbrev kE:=(ax aa kg)
abbrev sj:=(ax (vC (ax ia eA)) bK)
def JA:FS:=(uO (yx (iT (uM wx cW)) (gN 4) (fh (wN (cT (c2 wz ay aA)) (cT (c2 (n6 γ) ay aw))) (uT (vC sj)) uZ))
 (uO (yx (iL (vh yR "rules_to_try" aa (a1 (c2 f3 aj aP)))) (gN 5) (fh (cT (uM GB kE)) (uT (uM Aj kE)) uZ))
 (uT (vC (ax (vC (ax (cS "refused") (a1 (cC CH)))) bK)))))
def EJ:=fb 4 6 JA
def Ux:FS:=(uO (vG (uM yI cW))
 (uO (vc 3 (cL (uX 1 [0,1] (iT (uM wx cW)) (gN 0) (cT (uM wQ kz)) aa)))
 (uT (uM EJ (ax aa dv)))))
def Cr:=fb 3 4 Ux
def yu:FS:=(uO (fh (cT (c2 (e? δ) ag (cS "alone"))) (wJ (vp (a1 (vC nM)))) uZ)
 (uO (fh (cT (c2 (e? δ) ag dM)) (wJ (uX 1 [] (iL (vh xS "way_words" aa vB)) (gN 0) vN (vC (ax aa (a1 aA))))) uZ)
 (uO (vc 2 (cL (uX 1 [0] (iL (vh yW "names" aa vB)) (gN 0) (cT (vh v3 "is_plainly" (vh vq "thing_of" ag bM) vB)) aa)))
 (uO (fh (cT (c2 (e? δ) ag jk)) (wJ (uX 1 [] (iL aj) (gN 0) vN (vC (ax aa (a1 aA))))) uZ)
 (uO (yw 3 (vp vB))
 (uO (yx (iL aj) (gN 4) (vG (HP 3 (uX 1 [4] (iL aj) (gN 0) vN (vC eZ)))))
 (wJ (J5 3))))))))
def xO:=yq 2 5 yu
abbrev j3:=(yJ (gN 0) (yJ (gN 1) Kz))
abbrev kj:=(ax aa (a1 (c1 (uS xQ "form") aj)))
abbrev ky:=(ax (c1 (uS vd "name") aj) cz)
def EK:FS:=(uO (yw 1 (vp vB))
 (uO (yx (iL (vh xR "all_verbs" aa vB)) (gN 2) (vG (HP 1 (uX 2 [2] (iL (cL (vK xO kj))) (gT j3 2) vN (vC ky)))))
 (wJ (J5 1))))
def Cs:=yq 1 3 EK
def DI:FS:=(uO (fh (cT (c2 HQ ag (c1 wU aa))) (uT (c2 f3 aa ag)) uZ)
 (uT aP))
def xG:=fb 2 2 DI
abbrev ja:=(cC (.int 2147483647))
def Ac:FS:=(uO (fh (z5 (cT (c2 (e? δ) (c1 wU aa) aM))) (uO (vc 2 (AR (c2 f3 aa aP)))
 (uO (Bd 0 0 (c2 xB aj (c1 IS (c2 Zs aj (c2 SZ (cC (.int 10)) (cC (.int 18)))))))
 (vG (HP 0 (vp (ax (c2 xU aj ja) kn)))))) uZ)
 (uO (fh (z5 (cT (c2 LL (c2 f3 aa aP) aP))) (uO (vc 3 (AR (c2 xU (c2 f3 aa aP) ag)))
 (uO (Bd 0 0 (AR (c2 D8 (c2 f3 aa aP) ag)))
 (uT aw))) uZ)
 (uO (Bd 0 2 (AR (c2 wR (c2 f3 aa b0) aM)))
 (uO (vc 4 (AR (c2 xU (c2 xB (c2 wR (c2 wR (c2 f3 aa aM) (c2 xB (cC (.int 7919)) (c2 f3 aa b0))) aM) (cC (.int 48271))) ja)))
 (uO (vc 4 (c2 xU (c2 xB ay (c2 wR (c2 D8 ay (cC (.int 1009))) (cC (.int 69621)))) ja))
 (uT (c2 xU (c2 xU (c2 xB ay (c2 wR (c2 D8 ay (cC (.int 2003))) (cC (.int 40692)))) (cC (.int 2147483399))) ag)))))))
def uN:=t? 1 5 Ac
def FV:FS:=(wJ (uX 1 [1] (iL aa) (gN 0) (cT (c2 (n6 δ) (c1 (uS vJ "kind") aa) ag)) (c1 (uS vd "name") aa)))
def vx:=yq 2 2 FV
abbrev eh:=(cC (.int 8))
abbrev dt:=(cV 8)
abbrev j5:=(cS "plain")
abbrev gu:=(cV 9)
abbrev ib:=(cC (.int 6))
abbrev jc:=(cC (.int 7))
abbrev rH:=(yJ (gN 7) (yJ (gN 8) Kz))
abbrev ka:=(cC (.int 5))
abbrev rO:=(ax bJ (ax dt (ax gu (a1 (M0 3 (vH uN 0 (a1 (AR (c1 wU aw)))))))))
abbrev rS:=(ax j5 (ax cU (ax i8 (ax cU (ax j6 (a1 j5))))))
def Bt:FS:=(uO (vc 1 (cL (Et (cL (vp (ax (cS "hall") (ax (cS "x") (ax (cS "cellar") (ax (cS "loft") (a1 (cS "porch")))))))) oNo (X1 (c2 wR aM (vH uN 0 (a1 ka)))))))
 (uO (yw 2 (uX 1 [] (iL ag) (gN 0) vN (vE 0 (λa=>yk (a++[D.E])) (ax aa (ax (vC (ax aa (a1 (cS "place")))) jh)))))
 (uO (vG (AQ 2 (vE 0 (λa=>yk (a++[])) (ax (cS "me") (ax (vC (ax (cS "me") (a1 (cS "self")))) (ax (cS "you") (a1 (c2 f3 ag (vH uN 0 (a1 (c1 wU ag)))))))))))
 (uO (yw 3 (xq ag (cL (vp (a1 (cS "me"))))))
 (uO (vc 4 (cL (vp (ax (vC (ax (cS "chest") (a1 (vC (ax (cS "old") (a1 (cS "chest"))))))) (ax (vC (ax i8 (a1 (vC (ax i8 (a1 (cS "red"))))))) (ax (vC (ax (cS "stone") (a1 (vC (ax (cS "red") (a1 (cS "stone"))))))) (a1 (vC (ax (cS "key") (a1 (vC (a1 (cS "key")))))))))))))
 (uO (vc 4 (cL (xq ay (cL (vp (ax (vC (ax (cS "itch") (a1 (vC (ax (cS "old") (ax (cS "red") (a1 (cS "rag")))))))) (ax (vC (ax (cS "heretic") (a1 (vC (ax (cS "stone") (a1 (cS "man"))))))) (a1 (vC (ax (cS "others") (a1 (vC (ax (cS "book") (ax (cS "of") (a1 (cS "old"))))))))))))))))
 (uO (vc 5 (vH uN 0 (a1 jc)))
 (uO (yx (I' (vH uN 0 (a1 eh))) (gN 6) (uO (EY (c2 f3 ay (c2 xU (c2 wR bT bw) jc)) (gT rH 2))
 (uO (vc 9 (c2 f3 (cL (vp rS)) (vH uN 0 (a1 ib))))
 (uO (vG (AQ 2 (vE 0 (λa=>yk (a++[])) rO)))
 (fh (cT (c2 (e? δ) gu cU)) (vG (AQ 3 bJ)) uZ)))))
 (uO (vc 5 (vH uN 0 (a1 (AR (c1 wU aj)))))
 (wJ (xq (cL (Et (D' 2) (X1 bw) oNo)) (cL (Et (D' 2) oNo (X1 bw))))))))))))))
def Bu:=t? 0 10 Bt
abbrev rF:=(ax (cS "gate") (ax (cS "luck") (ax (cS "tide") (a1 (cS "i")))))
abbrev gw:=(a1 fN)
abbrev r9:=(ax aj (ax (vH uN 0 (a1 (c2 wR aw aM))) dN))
def Ct:FS:=(uO (yw 1 (vp vB))
 (uO (yx (iL (cL (Et (cL (vp rF)) oNo (X1 (vH uN 0 (a1 ka)))))) (gN 2) (uO (vc 3 (c2 wR aM (vH uN 0 gw)))
 (vG (AQ 1 (vE 1 (λa=>Dr (a++[])) r9)))))
 (wJ (J5 1))))
def Cu:=t? 0 4 Ct
abbrev dq:=(a1 (cC (.int 4)))
abbrev m9:=(ax (cS "north") (ax (cS "up") (ax (cS "outside") (a1 (cS "north")))))
abbrev de:=(cV 10)
abbrev rJ:=(a1 (cC (.int 9)))
abbrev rM:=(a1 (cL (vp (ax cU ip))))
abbrev gv:=(a1 (c1 wU aw))
abbrev nE:=(ax bJ (ax dt (ax gu (a1 de))))
abbrev ko:=(ax bJ (a1 dt))
def DJ:FS:=(uO (vc 3 (cL (vK vx (ax ag (a1 (cL (vp jh)))))))
 (uO (vc 4 (cL (xq (cL (xq (cL (vp nM)) (cL (uX 1 [] (iL aj) (gN 0) vN (c1 (uS vd "name") aa))))) (cL (vK vx (ax ag rM))))))
 (uO (yw 5 (vp vB))
 (uO (yx (I' (vH uN 0 rJ)) (gN 6) (uO (vc 7 (c2 f3 aw (vH uN 0 gv)))
 (uO (vc 8 (c2 f3 (cL (vp m9)) (vH uN 0 dq)))
 (uO (vc 9 (c2 f3 aw (vH uN 0 gv)))
 (uO (vc 10 (c2 f3 ay (vH uN 0 (a1 (c1 wU ay)))))
 (fh (z5 (cT (c2 K? (vC ko) (cL (uX 1 [] (iL bw) (gN 0) vN (LV aa J (Z 2))))))) (vG (AQ 5 (vC nE))) uZ))))))
 (wJ (J5 5))))))
def DL:=t? 2 11 DJ
def Cv:FS:=(uO (vc 1 (cL (vp (ax (vE 2 (λa=>v8 (a++[(D.str "one"),D.E])) (ax (cS "push") (a1 (vC (ax (cS "shove") (a1 (cS "p"))))))) (ax (vE 2 (λa=>v8 (a++[])) (ax (cS "tie") (ax (vC vB) (ax eW (a1 (cS "to")))))) (a1 (vE 2 (λa=>v8 (a++[D.E])) (ax (cS "sing") (ax (vC (a1 (cS "hum"))) i9)))))))))
 (uO (vc 1 (cL (xq ag (cL (vp (ax (vE 2 (λa=>v8 (a++[D.E])) (ax (cS "swim") (ax (vC (a1 (cS "dive"))) (a1 dM)))) (ax (vE 2 (λa=>v8 (a++[])) (ax (cS "takes") rX)) (a1 (vE 2 (λa=>v8 (a++[D.E])) (ax (cS "w") (ax (vC vB) i9)))))))))))
 (uO (vc 2 (vH uN 0 (a1 ib)))
 (wJ (Et (cL (xq (cL (Et ag (X1 aj) oNo)) (cL (Et ag oNo (X1 aj))))) oNo (X1 (vH uN 0 (a1 jc))))))))
def Cw:=t? 0 3 Cv
def ye:FS:=(uO (vc 3 (cL (xq aj (cL (vp j8)))))
 (uO (fh (cT (c2 (n6 δ) ag (cL (vp gr)))) (vc 3 (cL (xq aw (cL (vp (ax cg ji)))))) uZ)
 (uO (fh (cT (c2 (e? δ) ag eW)) (vc 3 (cL (xq aw (cL (vp (ax eX (a1 eX))))))) uZ)
 (uT (c2 f3 aw (vH uN 0 gv))))))
def wX:=t? 2 4 ye
abbrev nu:=(ax (c1 (uS vd "name") aa) sm)
abbrev kq:=(ax aa (a1 aM))
abbrev se:=(ax (vC (ax cg gw)) (a1 (vC jg)))
abbrev nT:=(ax aj rM)
def wG:FS:=(uO (yw 4 (xq (cL (uX 1 [] (iL aw) (gN 0) vN (vC nu))) (cL (uX 1 [] (iL (cL (vK vx nT))) (gN 0) vN (vC kq)))))
 (uO (fh (cT (c2 (n6 δ) ag (cL (vp gr)))) (yw 4 (xq (D' 4) (cL (vp se)))) uZ)
 (uO (fh (cT (c2 (e? δ) ag eW)) (vG (AQ 4 (vC (ax eX gw)))) uZ)
 (uO (fh (z5 (cT (c2 (e? δ) ay (cL (vp vB))))) (uT aA) uZ)
 (uT (M0 4 (vH uN 0 (a1 (AR (c1 wU ay))))))))))
def wH:=t? 3 5 wG
abbrev sg:=(a1 (c2 wR (c2 f3 ay aM) aM))
abbrev nh:=(ax (c2 f3 ay aP) (a1 (vH uN 0 sg)))
def zE:FS:=(uO (vc 4 (vH wH 0 dv))
 (uO (fh (cT (c2 y8 ay aA)) (uT (Xe 15)) uZ)
 (uT (vE 6 (λa=>wV (a++[])) nh))))
def Bv:=t? 3 5 zE
abbrev rE:=(ax (cS "north") (ax (cS "up") (ax (cS "outside") (a1 (cS "down")))))
abbrev ny:=(ax ag (ax aj (ax aw (a1 (c2 IP ay aM)))))
abbrev nz:=(ax aj (a1 (cL (vp (ax dc (ax cU jb))))))
abbrev rU:=(a1 (c2 wR eh (c2 xB b0 (c1 IS (c2 LL ay aP)))))
abbrev kF:=(ax ag nD)
def vX(g:List D->List D->Option (D×List D)):FS:=(uO (vc 5 (cL (uX 1 [] (iL aj) (gN 0) vN (c1 (uS vd "name") aa))))
 (uO (vc 6 (cL (vK vx nz)))
 (uO (vc 7 (vH uN 0 rU))
 (uO (fh (cT (c2 HQ bJ b0)) (uT (vE 3 (λa=>DY (a++[])) (ax (vH wX 0 kF) (a1 (vH wX 0 (ax ag (a1 bT))))))) uZ)
 (uO (fh (cT (c2 (e? δ) bJ b0)) (uT (vE 4 (λa=>Cb (a++[])) (a1 (vH wX 0 kF)))) uZ)
 (uO (fh (cT (c2 (e? δ) bJ fN)) (uT (vE 5 (λa=>G7 (a++[])) (a1 (vH wX 0 kF)))) uZ)
 (uO (fh (cT (c2 (e? δ) bJ (cC (.int 4)))) (uO (vc 8 (cL (vp (ax j5 (ax j6 (ax cU (ax i8 (ax dc jb))))))))
 (uT (vE 7 (λa=>xI (a++[])) (ax (vH wX 0 kF) (a1 (c2 f3 dt (vH uN 0 (a1 ib)))))))) uZ)
 (uO (fh (cT (c2 (e? δ) bJ ka)) (uT (Xe 15)) uZ)
 (uO (fh (wN (cT (c2 (e? δ) bJ ib)) (cT (c2 (e? δ) ag dM))) (uT (vE 8 (λa=>Du (a++[])) (a1 (c2 f3 (cL (vp rE)) (vH uN 0 dq))))) uZ)
 (uO (fh (cT (c2 HQ bJ eh)) (uT (vH Bv 0 dv)) uZ)
 (uO (fh (cT (c2 (e? δ) bJ eh)) (uT (vE 9 (λa=>xK (a++[])) (a1 (vH g 0 ny)))) uZ)
 (uO (vc 9 (vH g 0 ny))
 (uT (vE 10 (λa=>Hf (a++[])) (ax gu (a1 (vH g 0 ny)))))))))))))))))
def wM:Nat->List D->List D->Option (D×List D)
 |0=>t? 4 10 Tg
 |n+1=>t? 4 10 (vX (wM n))
abbrev kc:=(ax cg (ax cg (a1 (c2 f3 (cL (vp (ax cg (a1 eX)))) (c1 IS (c2 (e? δ) ag eW))))))
abbrev rQ:=(ax aj (a1 (cL (vp (ax j5 (ax j6 (ax cU ip)))))))
abbrev nH:=(ax aj (a1 (cL (vp (a1 dc)))))
abbrev il:=(a1 b0)
abbrev ku:=(a1 bJ)
abbrev nO:=(a1 (c1 wU bw))
def zM:FS:=(uO (vc 4 (vH wH 0 dv))
 (uO (fh (wN (cT (c2 wz ay aA)) (cT (c2 (e? δ) (vH uN 0 il) aM))) (uT (vE 12 (λa=>yO (a++[])) nh)) uZ)
 (uO (vc 5 (cL (vK vx rQ)))
 (uO (fh (wN (cT (c2 (n6 δ) ag (cL (vp gr)))) (ya (cT (c2 (e? δ) bw (cL (vp vB)))) (cT (c2 (e? δ) (vH uN 0 il) aM)))) (vc 5 (cL (vp kc))) uZ)
 (uO (vc 6 (cL (vK vx nH)))
 (uO (fh (ya (cT (c2 (e? δ) bw (cL (vp vB)))) (cT (c2 (e? δ) (vH uN 0 dq) aP))) (uT (vE 11 (λa=>yd (a++[])) (ax (cS "me") (a1 (c2 f3 bT (vH uN 0 (a1 (c1 wU bT)))))))) uZ)
 (uO (vc 7 (cL (vK vx nz)))
 (uT (vE 11 (λa=>yd (a++[])) (ax (c2 f3 bw (vH uN 0 nO)) (a1 (vH wX 0 (ax ag ku)))))))))))))
def yZ:=t? 3 8 zM
abbrev j4:=(yJ (gN 8) (yJ (gN 9) Kz))
abbrev ic:=(cV 11)
abbrev rK:=(ax dt (ax de (ax (cV 12) (ax (c2 E5 (c2 E5 (cS "Text ") (c1 I1 bJ)) (c2 KE (cS ".") (c2 wR aM (vH uN 0 rJ)))) (a1 ic)))))
abbrev nv:=(ax (c1 (uS vd "name") aa) (a1 (c1 (uS xQ "form") aa)))
abbrev nF:=(ax aj (ax aw (ax ay (a1 b0))))
abbrev nQ:=(ax aj (ax aw eA))
def Cy:FS:=(uO (vc 5 (cL (vp (ax (vC (ax jd (a1 jk))) (ax (vC (ax je (a1 jk))) (ax (vC (ax ie (a1 eW))) (ax (vC (ax ig (a1 dM))) (ax (vC (ax (cS "wait") i9)) (a1 (vC (ax (cS "drop") (a1 jk))))))))))))
 (uO (vc 5 (cL (xq bw (cL (cRep (cL (uX 1 [] (iL aw) (gN 0) vN (vC nv))) b0)))))
 (uO (yw 6 (vp vB))
 (uO (yx (I' (vH uN 0 (a1 (c2 wR ay aM)))) (gN 7) (uO (EY (c2 f3 bw (vH uN 0 nO)) (gT j4 2))
 (uO (vc 10 (cL (uX 1 [0,9,1,2] (I' (vH uN 0 dq)) (gN 0) vN (vH (wM 3) 1 nF))))
 (uO (vc 11 (c2 (e? δ) (vH uN 0 dq) aP))
 (uO (vc 12 (cL (uX 1 [0,9,1,2] (I' (c2 xB (vH uN 0 dq) (c1 IS (D5 ic)))) (gN 0) vN (vH yZ 1 nQ))))
 (vG (AQ 6 (vE 13 (λa=>yT (a++[])) rK))))))))
 (wJ (J5 6))))))
def CA:=t? 4 13 Cy
def DM:FS:=(uO (vc 2 (vH Bu 0 vB))
 (uO (vc 3 (vH Cu 0 vB))
 (uO (vc 4 (cL (uX 1 [0] (iL (cL (vK vx nH))) (gN 0) (cT (c2 (e? δ) (vH uN 1 gw) aP)) aa)))
 (uO (vc 5 (vH DL 0 (ax aj dN)))
 (uO (vc 6 (vH Cw 0 vB))
 (wJ (vp (ax aj (ax aw (ax ay (ax bw (ax bT (a1 (vH CA 0 (ax aj (ax aw (ax bT bK)))))))))))))))))
def Bc:=t? 1 7 DM
abbrev nP:=(ax dM i9)
def JB:FS:=(uO (fh (cT (c2 (n6 δ) (c2 f3 aj aP) (cL (xq (cL (vp (a1 ig))) (cL (uX 1 [] (iL aa) (gN 0) (cT (c2 (n6 δ) (c1 (uS xQ "form") aa) (cL (vp nP)))) (c1 (uS vd "name") aa))))))) (uT aA) uZ)
 (uO (yx (iT (LV aj (Z 1) J)) (gN 3) (fh (wN (cT (c2 wz aw aA)) (wg (cT (c2 BF ag aw)))) (uT (vC (ax ia dN))) uZ))
 (uT aA)))
def AK:=fb 3 4 JB
abbrev nN:=(ax dt (a1 gu))
abbrev rY:=(ax aa (ax aw (a1 bT)))
abbrev nR:=(ax (D' 5) ku)
abbrev nU:=(ax de dN)
abbrev su:=(ax aa (ax aw ku))
def FW:FS:=(uO (GU 5)
 (uO (yx (iL aj) (gN 6) (y9 5 bT (uM wQ rY)))
 (uO (yx (iL ay) (gN 7) (uO (EY (uM Cr su) (gT j4 2))
 (uO (vc 10 (uM AK (ax ag nR)))
 (uO (fh (wN (cT (c2 wz de aA)) (cT (c2 (e? γ) (vC nN) (vC nU)))) (uT bI) uZ)
 (fh (wN (cT (c2 y8 de aA)) (cT (c2 (e? δ) (c2 f3 dt aP) ia))) (uT bI) uZ)))))
 (uT cR))))
def zk:=fb 5 11 FW
abbrev ng:=(ax (cV 8) (ax (cV 6) (ax (cV 9) (ax (cV 11) (a1 (cV 14))))))
abbrev rL:=(ax dt (ax ic (a1 (c2 f3 de (c2 xU (c2 wR (uM xG (ax aa (a1 (cV 13)))) (c2 xB (cC (.int 11)) (cV 13))) (c1 wU de))))))
abbrev nG:=(a1 (uM xG (ax aa (a1 aP))))
def P4:FS:=(uO (vc 1 (F? Bc (a1 eh) (vp nG)))
 (uO (EY ag (gTL (yJ (gN 2) (yJ (gN 3) (yJ (gN 4) (yJ (gN 5) (yJ (gN 6) (yJ (gN 7) Kz)))))) 6))
 (uO (vc 8 (vE 14 (λa=>zi (a++[])) (ax aj (ax aw (ax ay (ax bw (ax bT ku)))))))
 (uO (vc 9 (cL (uX 1 [] (iL aj) (gN 0) (cT (c2 (n6 γ) (c1 (uS vJ "kind") aa) (cL (vp (ax dc jb))))) (c1 (uS vd "name") aa))))
 (uO (vc 10 (cL (vK Cs (a1 dt))))
 (uO (vc 11 (uM Bs (a1 dt)))
 (uO (vc 12 (uM xG kq))
 (uO (yx (iR2 aM (c2 Y? b0 (c2 Z? (cC (.int 13)) (c1 wU aa)))) (gN 13) (uO (vc 14 (cL (uX 1 [10,12,13] (I' (cC (.int 12))) (gN 0) vN (c2 f3 ag (c2 xU (c2 wR aj (c2 xB (c2 xB (cC (.int 37)) aa) aw)) (c1 wU ag))))))
 (uO (fh (wg (cT (uM zk ng))) (uT bI) uZ)
 (vc 11 (c2 f3 (uM Cr rL) aM)))))
 (uT cR)))))))))
def X7:=fb 1 15 P4
def JC(c:0<b)(l:b<1073741824):∃d a j,(uO (fh (z5 (cT (c2 LL (c2 f3 aa aP) aP))) (uO (vc 3 (AR (c2 xU (c2 f3 aa aP) ag)))
 (uO (Bd 0 0 (AR (c2 D8 (c2 f3 aa aP) ag)))
 (uT aw))) uZ)
 (uO (Bd 0 2 (AR (c2 wR (c2 f3 aa b0) aM)))
 (uO (vc 4 (AR (c2 xU (c2 xB (c2 wR (c2 wR (c2 f3 aa aM) (c2 xB (cC (.int 7919)) (c2 f3 aa b0))) aM) (cC (.int 48271))) ja)))
 (uO (vc 4 (c2 xU (c2 xB ay (c2 wR (c2 D8 ay (cC (.int 1009))) (cC (.int 69621)))) ja))
 (uT (c2 xU (c2 xU (c2 xB ay (c2 wR (c2 D8 ay (cC (.int 2003))) (cC (.int 40692)))) (cC (.int 2147483399))) ag))))))
  [.pm [.int q,.int r,.int n],.z (.int b),s2,.un,.un]=Z (.rt (.int d) j)/\E1 j=Z a/\0<=d/\d<b/\vT a:=by
 have e:z5 (cT (c2 LL (c2 f3 aa aP) aP)) [.pm [.int q,.int r,.int n],.z (.int b),s2,.un,.un]=Z (decide (0<q),[.pm [.int q,.int r,.int n],.z (.int b),s2,.un,.un]):=rfl;by_cases h:0<q
 .rw[aV h]at e;refine⟨q % b,[.int (q / b),.int r,.int n],[.pm [.int (q / b),.int r,.int n],.z (.int b),s2,.z (.int (q % b)),.un],?_,O,iN _ (by omega),iE _ c,.inr ⟨_,_,_,O⟩⟩;rw[uU (d:=.int (q % b)) (ρ':=[.pm [.int (q / b),.int r,.int n],.z (.int b),s2,.z (.int (q % b)),.un])];rw[u4 e,uK (uY (IV (uW O O (DP c)) O)),uK (Na (k:=0) (IV (uW O O (K' c l)) O) O O)];rfl
 .rw[aX h]at e;rw[uK (show _=Z (tf.nx [.pm [.int q,.int r,.int n],.z (.int b),s2,.un,.un]) from by rw[vI e];rfl)];rw[uK (show _=Z (tf.nx [.pm [.int q,.int r,.int (n+1)],.z (.int b),s2,.un,.un]) from O)];have p:Ap 7919=γ:=by decide
  have o:Ap 48271=γ:=by decide
  rw[uK (uY (IV (d:=.int ((r+7919 * (n+1)+1) * 48271 % 2147483647)) (uW (uW (uW (uW O (uW O O (yf (.inl p))) O) O O) O (yf (.inr o))) O (DP (by decide))) O))];generalize t:(r+7919 * (n+1)+1) * 48271 % 2147483647=g;have f:0<=g/\g<2147483647:=by rw[<-t];exact⟨iN _ (by decide),iE _ (by decide)⟩
  rw[uK (uY (d:=.int (g * (g / 1009+69621) % 2147483647)) (uW (uW O (uW (uW O O (K' (by decide) (by decide))) O O) (yf (.inl (Nc f.1 f.2)))) O (DP (by decide))))];generalize u:g * (g / 1009+69621) % 2147483647=m;have i:0<=m/\m<2147483647:=by rw[<-u];exact⟨iN _ (by decide),iE _ (by decide)⟩
  rw[uR (d:=.int (m * (m / 2003+40692) % 2147483399 % b)) (uW (uW (uW O (uW (uW O O (K' (by decide) (by decide))) O O) (yf (.inl (Nc i.1 i.2)))) O (DP (by decide))) O (DP c))];exact⟨_,[.int q,.int r,.int (n+1)],_,O,O,iN _ (by omega),iE _ c,.inr ⟨_,_,_,O⟩⟩
def NF(h:vT o)(l:0<b)(m:b<1073741824):∃d a,uN o [.int b]=Z (.int d,a)/\0<=d/\d<b/\vT a:=by
 rcases h with ⟨c,rfl⟩|⟨q,r,n,rfl⟩
 .obtain⟨d,a,u,e,p,i,j,q3⟩:=JC (q:=c * (if decide ((10:Int) ^ (18:Int).toNat<=c)=γ then 1 else 0)) (r:=c % 2147483647) (n:=0) (s2:=.z (.int c)) l m;refine⟨d,a,Be O ?_ p,i,j,q3⟩;unfold Ac;rw[uK (ρ':=[.pm [.int (c * (if decide ((10:Int) ^ (18:Int).toNat<=c)=γ then 1 else 0)),.int (c % 2147483647),.int 0],.z (.int b),.z (.int c),.un,.un])]
  .exact e
  .show fh _ _ _ [.pm [.int c],.z (.int b),.un,.un,.un]=_;rw[u4 (ρ':=[.pm [.int c],.z (.int b),.un,.un,.un]) O,uK (show _=Z (tf.nx [.pm [.int c],.z (.int b),.z (.int c),.un,.un]) from O)];rw[uK (Na (k:=0) (ds:=[.int c]) (uW O O (yf (.inr (by split<;>decide)))) O O)];rfl
 .obtain⟨d,a,u,e,p,i,j,q3⟩:=JC (q:=q) (r:=r) (n:=n) (s2:=.un) l m;refine⟨d,a,Be O ?_ p,i,j,q3⟩;unfold Ac;rw[uK (ρ':=[.pm [.int q,.int r,.int n],.z (.int b),.un,.un,.un])]
  .exact e
  .show fh _ _ _ [.pm [.int q,.int r,.int n],.z (.int b),.un,.un,.un]=_;rw[vI (ρ':=[.pm [.int q,.int r,.int n],.z (.int b),.un,.un,.un]) O];rfl
def M'(st:List L4.D->aQ)(f:∀es,xa (st es) i=Z es)(m:∀es c,putAt (st es) i c=st c)(l:a (st es)=Z (.int b,st es))(o:vT es)(h:0<b)(j:b<1073741824):∃d c,vH uN i (a1 a) (st es)=Z (.int d,st c)/\0<=d/\d<b/\vT c:=by obtain⟨d,c,e,p,q,q3⟩:=NF o h j;exact⟨d,c,by rw[<-m es c];exact yL (f es) (uJ l O) (f es) e,p,q,q3⟩
def pk(st:List L4.D->aQ)(o:∀es,xa (st es) i=Z es)(q:∀es b,putAt (st es) i b=st b)(l:e (st es)=Z (.bt L,st es))(j:a (st es)=Z (.int L.length,st es))(r:vT es)(h:L≠[])(u:L.length<=1000):∃d∈L,∃b,c2 f3 e (vH uN i (a1 a)) (st es)=Z (d,st b)/\vT b:=by
 have p:0<L.length:=oZ.2 h;obtain⟨d,b,f,t,w,q3⟩:=M' st o q j r (by omega) (by omega);obtain⟨m,rfl⟩:=cE t;have c:m<L.length:=by omega
 exact⟨L[m],fz c,b,uW l f (DN (bh c)),q3⟩
def abE(h:e ρ=Z (.bt L,ρ1)):c1 wU e ρ=Z (.int L.length,ρ1):=vO h O
section
variable{k:Nat}{ey:List Nat}{g:FG}{ft:FT}{fe e:FE}{s:FA}{ρ ρ1 ρ2:aQ}{α:Type}
def xP(h:e ρ=Z (.I γ,ρ1)):vG (uM u5 (ax e (ax (cC m) vB))) ρ=Z (.nx ρ1):=wj (uL (uJ h (uJ O O)) O)
def xH(c h:α->L4.D)(l:List α)(f:s ρ=Z (l.map c,ρ1))(d:l.length<=1000)(st:∀a∈l,∃ρ2 b,g (c a) (E2 k ey ρ1)=Z ρ2/\fe ρ2=Z (h a,b)/\yz ey (b.drop k) ρ1=Z ρ1):
  uX k ey s g vN fe ρ=Z (l.map h,ρ1):=(E8 f (by rw[ah];exact d)).t (W4 c h l st)
def zl(d h:α->L4.D)(p:α->Bool)(l:List α)(i:s ρ=Z (l.map d,ρ1))(f:l.length<=1000)
  (st:∀a∈l,∃ρ2 b,g (d a) (E2 k ey ρ1)=Z ρ2/\ft ρ2=Z (p a,b)/\(p a=γ->∃c,fe b=Z (h a,c)/\yz ey (c.drop k) ρ1=Z ρ1)/\(p a=δ->yz ey (b.drop k) ρ1=Z ρ1)):
  uX k ey s g ft fe ρ=Z ((l.filter p).map h,ρ1):=(E8 i (by rw[ah];exact f)).t (Jb d p h l st)
def zA(c:α->L4.D)(l:List α)(f:s ρ=Z (l.map c,ρ1))(d:l.length<=1000)(st:∀a∈l,∃ρ2 b,g (c a) (E2 k ey ρ1)=Z ρ2/\fe ρ2=Z (.I γ,b)/\yz ey (b.drop k) ρ1=Z ρ1):
  c1 zR (cL (uX k ey s g vN fe)) ρ=Z (.I γ,ρ1):=
 vO (vP (xH c (λ_=>.I γ) l f d st)) ((W6 l λ_=>γ).t (by rw[aS.2 λ_ _=>O]))
def Uy(c:α->L4.D)(l:List α)(f:s ρ=Z (l.map c,ρ1))(d:l.length<=1000)(st:∀a∈l,∃ρ2 b,g (c a) (E2 k ey ρ1)=Z ρ2/\fe ρ2=Z (.I δ,b)/\yz ey (b.drop k) ρ1=Z ρ1):
  c1 HU (cL (uX k ey s g vN fe)) ρ=Z (.I δ,ρ1):=
 vO (vP (xH c (λ_=>.I δ) l f d st)) ((PM l λ_=>δ).t (by rw[pA.2 λ_ _=>bq]))
end
inductive Kd where
 |room|you|plain|fixed|box|lamp
deriving DecidableEq
def Kd.s:Kd->Str
 |.room=>"room" |.you=>"you" |.plain=>"plain" |.fixed=>"fixed" |.box=>"box" |.lamp=>"lamp"
def Kd.pl:Kd->Bool
 |.room=>δ|.you=>δ|_=>γ
def Kd.hd:Kd->Bool
 |.room=>γ|.you=>γ|.box=>γ|_=>δ
def Kd.mk:Kd->Bool
 |.box=>γ|.lamp=>γ|_=>δ
structure Th where
 n:Str
 w:aF
 k:Kd
 s:Option Str
def oS:Option Str->L4.D
 |none=>.E
 |some x=>.str x
def en(t:Th):L4.D:=.obj 0 ["name", "words", "kind", "start"] [.str t.n,.du (t.w.map D.str),.str t.k.s,oS t.s]
def AL(t:Th):uS vd "name" (en t)=Z (.str t.n):=rfl
def L7(t:Th):uS xT "words" (en t)=Z (.du (t.w.map D.str)):=rfl
def AM(t:Th):uS vJ "kind" (en t)=Z (.str t.k.s):=rfl
def Il(t:Th):uS wD "start" (en t)=Z (oS t.s):=rfl
def HI(a b:Kd):e? δ (.str a.s) (.str b.s)=Z (.I (decide (a=b))):=by cases a<;>cases b<;>kernel_rfl
def L8(t:Th):zv [en t]=Z (.I t.k.hd):=by obtain⟨n,w,k,s⟩:=t;cases k<;>kernel_rfl
def P5(t:Th):BN [en t]=Z (.I t.k.mk):=by obtain⟨n,w,k,s⟩:=t;cases k<;>kernel_rfl
def FX(t:Th):yP [en t]=Z (.I t.k.pl):=by obtain⟨n,w,k,s⟩:=t;cases k<;>kernel_rfl
def Xh(t:Th):vQ [.str t.k.s,B9]=Z (.I γ):=by obtain⟨n,w,k,s⟩:=t;cases k<;>kernel_rfl
abbrev TD(T:List Th):L4.D:=.bt (T.map en)
def Ra(T:List Th)(a:T.length<=1000)(k:Kd):Cc [TD T,.str k.s]=Z (.int (T.filter λt=>decide (t.k=k)).length):=by refine uP (ρ:=[.z (TD T),.z (.str k.s)]) O ?_;refine uR (vO (vP (zl en en (λt=>decide (t.k=k)) T (ρ1:=[.z (TD T),.z (.str k.s)]) O a λt _=>⟨[.z (en t),.z (.str k.s)],[.z (en t),.z (.str k.s)],O,vZ (uW (vO O (AM t)) O (HI t.k k)),λ_=>⟨_,O,O⟩,λ_=>O⟩)) ?_);show Z (D.int _)=_;rw[ah]
def Bw(T:List Th)(a:T.length<=1000):ym [TD T]=Z ((T.filter λt=>t.k.pl).map en):=by refine Aq (ρ:=[.z (TD T)]) O ?_;exact xu (zl en en (λt=>t.k.pl) T (ρ1:=[.z (TD T)]) O a λt _=>⟨[.z (en t)],[.z (en t)],O,vZ (vz (xs:=[.str t.n,.du (t.w.map D.str),.str t.k.s,oS t.s]) (ys:=[]) O O O O (FX t)),λ_=>⟨_,O,O⟩,λ_=>O⟩)
def JD(f:a ρ=Z (.int x,ρ))(h:b ρ=Z (.int y,ρ))(i:c ρ=Z (.int z,ρ))(j:x<=y)(l:y<=z):yK z7 z7 a b c ρ=Z (.I γ,ρ):=by
 unfold yK;rw[f];simp only[h];have d:z7 (.int x) (.int y)=Z (.I γ):=by show Z (D.I (decide (x<=y)))=_;rw[aV j]
 have e:z7 (.int y) (.int z)=Z (.I γ):=by show Z (D.I (decide (y<=z)))=_;rw[aV l]
 simp only[d,i,e]
def P6(c:a ρ=Z (.int x,ρ))(d:b ρ=Z (.int y,ρ))(e:x<=y):c2 z7 a b ρ=Z (.I γ,ρ):=uW c d (by
 show Z (D.I (decide (x<=y)))=_;rw[aV e])
def HW(T:List Th)(c:T.length<=1000)(f:1<=(T.filter λt=>decide (t.k=.room)).length)(h:(T.filter λt=>decide (t.k=.room)).length<=5)(e:(T.filter λt=>decide (t.k=.you)).length=1)(i:(T.filter λt=>t.k.pl).length<=7):
  AC [TD T]=Z .E:=by
 let b:aQ:=[.z (TD T),.z (.I γ)];refine Bh (ρ:=b) O ?_;unfold AB;rw[uK (show _=Z (tf.nx b) from(uY ((vm O).t (zA en T (ρ1:=[.z (TD T),.un]) O c λt _=>⟨_,_,O,O,O⟩))).t O)];rw[uK (xP (ρ1:=b) O)];rw[uK (xP (ρ1:=b) (zA en T O c λt _=>⟨[.z (en t)],[.z (en t)],O,uL (uJ (vO O (AM t)) (uJ O O)) (Xh t),O⟩))];rw[uK (xP (ρ1:=b) (JD (x:=1) (y:=(T.filter λt=>decide (t.k=.room)).length) (z:=5) O (uL (ds:=[TD T,.str Kd.room.s]) O (Ra T c .room)) O (by omega) (by omega)))];rw[uK (xP (ρ1:=b) (uW (ρ1:=b) (x:=.int (T.filter λt=>decide (t.k=.you)).length) (y:=.int 1) (uL (ds:=[TD T,.str Kd.you.s]) O (Ra T c .you)) O (by rw[e];rfl)))];refine xP (ρ1:=b) (P6 (x:=(T.filter λt=>t.k.pl).length) (y:=7) (vO (vP (uL O (Bw T c))) ?_) O (by omega));show Z (D.int _)=_;rw[ah]
structure Mk where
 n:Str
 st:Int
 mo:Int
def o3(m:Mk):L4.D:=.obj 1 ["name", "start", "most"] [.str m.n,.int m.st,.int m.mo]
def Mk.ok(m:Mk):Prop:=1<=m.mo/\m.mo<=3/\0<=m.st/\m.st<=m.mo
abbrev MD(M:List Mk):L4.D:=.bt (M.map o3)
def L9(m:Mk):uS vd "name" (o3 m)=Z (.str m.n):=rfl
def OJ(m:Mk)(h:m.ok):Gq [o3 m]=Z (.I γ):=by obtain⟨a,b,c,d⟩:=h;refine uP (ρ:=[.z (o3 m)]) O ?_;unfold Gp;rw[uK (show _=Z (tf.nx [.z (o3 m)]) from O)];exact uR ((vm (JD (x:=1) (y:=m.mo) (z:=3) O O O a b)).t (JD (x:=0) (y:=m.st) (z:=m.mo) O O O c d))
def JE(M:List Mk)(f:M.length<=4)(h:∀m∈M,m.ok):Bl [MD M]=Z .E:=by
 let a:aQ:=[.z (MD M),.z (.I γ)];refine Bh (ρ:=a) O ?_;unfold Bk;have c:vY [MD M,z8]=Z (.I γ):=by refine uP (ρ:=[.z (MD M),.z (.int 4)]) O ?_;refine uR ((vm O).t (P6 (x:=M.length) (y:=4) ?_ O (by omega)));refine vO O ?_;show Z (D.int _)=_;rw[ah]
 rw[uK (show _=Z (tf.nx a) from(uY ((vm (uL (ds:=[MD M,z8]) O c)).t (zA o3 M (ρ1:=[.z (MD M),.un]) O (by omega) λm d=>⟨[.z (o3 m)],[.z (o3 m)],O,uL O (OJ m (h m d)),O⟩))).t O)];exact xP (ρ1:=a) O
def η:aF:=["hall", "x", "cellar", "loft", "porch"]
def r?:List (Str×aF):=[("chest", ["old", "chest"]),("lamp", ["lamp", "red"]),("stone", ["red", "stone"]),("key", ["key"]),("itch", ["old", "red", "rag"]),("heretic", ["stone", "man"]),("others", ["book", "of", "old"])]
def mkL:aF:=["gate", "luck", "tide", "i"]
def nmL:aF:=η++("me" : Str)::r?.map cQ++mkL
def Nm(x:Str):Prop:=x∈nmL
def isT:Option L4.D->Bool
 |some (.I b)=>b
 |_=>δ
def CB(h:isT o=γ):o=Z (.I γ):=by
 unfold isT at h;split at h
 .rw[h]
 .cases h
def isF:Option L4.D->Bool
 |some (.I b)=>!b
 |_=>δ
def OK(h:isF o=γ):o=Z (.I δ):=by
 unfold isF at h;split at h
 .rw[fq]at h;rw[h]
 .cases h
def OL(h:Nm x):yi [.str x]=Z (.I γ):=CB (aS.1 (show (nmL.all λx=>isT (yi [.str x]))=γ by kernel_rfl) x h)
def EL{l:aF}(h:l.Nodup)(a:l.length<=1000):xM [.bt (l.map D.str)]=Z (.I γ):=by
 refine uP (ρ:=[.z (.bt (l.map D.str))]) O ?_;refine uR (uW (x:=.int l.length) (y:=.int l.length) (vO O (WV (Nl h a))) (vO O ?_) ?_)
 .show Z (D.int _)=_;rw[ah]
 .rw[yE];simp
def JF(T:List Th)(M:List Mk)(hT:T.length<=400)(hM:M.length<=400)(j:∀x∈T.map Th.n++M.map Mk.n,Nm x)(m:(T.map Th.n++M.map Mk.n).Nodup):Bn [TD T,MD M]=Z .E:=by
 have d:(T.map Th.n++M.map Mk.n).length<=1000:=by rw[aE,ah,ah];omega
 let a:aQ:=[.z (TD T),.z (MD M),.un];let b:aQ:=[.z (TD T),.z (MD M),.z (.bt ((T.map Th.n++M.map Mk.n).map D.str))];refine Bh (ρ:=b) O ?_;unfold Bm;have e:uX 1 [] (iL aa) (gN 0) vN (c1 (uS vd "name") aa) a=Z (T.map λt=>D.str t.n,a):=xH en (λt=>D.str t.n) T O (by omega) λt _=>⟨_,_,O,vO O (AL t),O⟩;have f:uX 1 [] (iL ag) (gN 0) vN (c1 (uS vd "name") aa) a=Z (M.map λt=>D.str t.n,a):=xH o3 (λt=>D.str t.n) M O (by omega) λt _=>⟨_,_,O,vO O (L9 t),O⟩;have h:=uY (i:=2) (vP (w6 (vP e) (vP f) (by rw[ah,ah];omega)));refine(uK (ρ':=b) (h.t (by
  have:(T.map λt=>D.str t.n)++(M.map λt=>D.str t.n)=(T.map Th.n++M.map Mk.n).map D.str:=by rw[bu,aZ,aZ];rfl
  rw[this];rfl))).t ?_
 rw[uK (xP (ρ1:=b) (zA D.str (T.map Th.n++M.map Mk.n) O d λx l=>⟨_,_,O,uL O (OL (j x l)),O⟩))];exact xP (ρ1:=b) (uL O (EL m d))
def ll(T:List Th):aF:=(T.filter λt=>decide (t.k=.room)).map Th.n
def p?(T:List Th):aF:=(T.filter λt=>t.k.hd).map Th.n
abbrev j7:=(cC (.str "room"))
def NG(T:List Th)(b:T.length<=1000)(a:cV i ρ=Z (TD T,ρ)):uX 1 [] (iL (cV i)) (gN 0) (cT (c2 (e? δ) (c1 (uS vJ "kind") aa) j7)) (c1 (uS vd "name") aa) ρ=Z ((ll T).map D.str,ρ):=by
 have c:iL (cV i) ρ=Z (T.map en,ρ):=by unfold iL;rw[a]
 have:=zl (k:=1) (ey:=[]) (g:=gN 0) (ft:=cT (c2 (e? δ) (c1 (uS vJ "kind") aa) j7)) (fe:=c1 (uS vd "name") aa) en (λt=>D.str t.n) (λt=>decide (t.k=.room)) T c b λt _=>⟨[.z (en t)],[.z (en t)],O,vZ (uW (vO O (AM t)) O (HI t.k .room)),λ_=>⟨_,vO O (AL t),O⟩,λ_=>O⟩
 rw[this];unfold ll;rw[aZ];rfl
def OM(T:List Th)(b:T.length<=1000)(a:cV i ρ=Z (TD T,ρ)):uX 1 [] (iL (cV i)) (gN 0) (cT (vh wa "can_hold" aa vB)) (c1 (uS vd "name") aa) ρ=Z ((p? T).map D.str,ρ):=by
 have c:iL (cV i) ρ=Z (T.map en,ρ):=by unfold iL;rw[a]
 have:=zl (k:=1) (ey:=[]) (g:=gN 0) (ft:=cT (vh wa "can_hold" aa vB)) (fe:=c1 (uS vd "name") aa) en (λt=>D.str t.n) (λt=>t.k.hd) T c b λt _=>⟨[.z (en t)],[.z (en t)],O,vZ (vz (xs:=[.str t.n,.du (t.w.map D.str),.str t.k.s,oS t.s]) (ys:=[]) O O O O (L8 t)),λ_=>⟨_,vO O (AL t),O⟩,λ_=>O⟩
 rw[this];unfold p?;rw[aZ];rfl
def Ak{x:Str}{l:aF}(h:x∈l):vQ [.str x,.bt (l.map D.str)]=Z (.I γ):=by refine uP (ρ:=[.z (.str x),.z (.bt (l.map D.str))]) O ?_;refine uR ((vm O).t (uW O O ?_));rw[xC];simp[h]
def Kh(a d:aF)(f:a.length<=1000)(j:a.Nodup)(h:∀x∈a,x∈d):Ce [.bt (a.map D.str),.bt (d.map D.str)]=Z .E:=by let b:aQ:=[.z (.bt (a.map D.str)),.z (.bt (d.map D.str)),.un];let e:aQ:=[.z (.bt (a.map D.str)),.z (.bt (d.map D.str)),.z (.I γ)];refine Bh (ρ:=e) O ?_;unfold Cd;rw[uK (show _=Z (tf.nx e) from(uY ((vm (ρ1:=b) O).t ((vm (zA D.str a (ρ1:=b) O f λx i=>⟨[.z (.str x),.z (.bt (d.map D.str))],[.z (.str x),.z (.bt (d.map D.str))],O,uL O (Ak (h x i)),O⟩)).t (uL (ρ1:=b) O (EL j f))))).t O)];exact xP (ρ1:=e) O
def D1(T:List Th)(t:Th):Prop:=match t.k,t.s with
 |.room,J=>True
 |.room,Z _=>False
 |_,J=>False
 |.you,Z x=>x∈ll T
 |_,Z x=>x∈p? T
def NH(T:List Th)(e:T.length<=1000)(t:Th)(h:D1 T t):Ey [TD T,en t]=Z (.I γ):=by
 refine uP (ρ:=[.z (TD T),.z (en t)]) O ?_;unfold Ex;obtain⟨n,w,k,s⟩:=t;have els:∀k:Kd,k≠.room->k≠.you->∀x,x∈p? T->(uO (fh (cT (c2 (e? δ) (c1 (uS vJ "kind") ag) j7)) (uT (c2 y8 (c1 (uS wD "start") ag) aA)) uZ)
   (uO (fh (cT (c2 (e? δ) (c1 (uS vJ "kind") ag) (cC (.str "you")))) (uT (uM vQ (ax (c1 (uS wD "start") ag) (ax (cL (uX 1 [] (iL aa) (gN 0) (cT (c2 (e? δ) (c1 (uS vJ "kind") aa) j7)) (c1 (uS vd "name") aa))) vB)))) uZ)
   (uT (uM vQ (ax (c1 (uS wD "start") ag) (ax (cL (uX 1 [] (iL aa) (gN 0) (cT (vh wa "can_hold" aa vB)) (c1 (uS vd "name") aa))) vB)))))) [.z (TD T),.z (en ⟨n,w,k,Z x⟩)]=Z (.rt (.I γ) [.z (TD T),.z (en ⟨n,w,k,Z x⟩)]):=λk f i x j=>by
  let a:aQ:=[.z (TD T),.z (en ⟨n,w,k,Z x⟩)];rw[uK (show _=Z (tf.nx a) from(vI (ρ':=a) (vZ (uW (ρ1:=a) (ρ2:=a) (vO O (AM _)) O ((HI k .room).t (by rw[aX f]))))).t O)];rw[uK (show _=Z (tf.nx a) from(vI (ρ':=a) (vZ (uW (ρ1:=a) (ρ2:=a) (vO O (AM _)) O ((HI k .you).t (by rw[aX i]))))).t O)];exact uR (uL (uJ (vO O (Il _)) (uJ (vP (OM T e O)) O)) (Ak j))
 cases k with
 |room=>
  cases s with
  |none=>rfl
  |some x=>exact h.elim
 |you=>
  cases s with
  |none=>exact h.elim
  |some x=>let a:aQ:=[.z (TD T),.z (en ⟨n,w,.you,Z x⟩)];rw[uK (show _=Z (tf.nx a) from O)];refine uU ((u4 (ρ':=a) O).t ?_);exact uR (uL (uJ (vO O (Il _)) (uJ (vP (NG T e O)) O)) (Ak h))
 |plain=>cases s with
  |none=>exact h.elim
  |some x=>exact els .plain (by decide) (by decide) x h
 |fixed=>cases s with
  |none=>exact h.elim
  |some x=>exact els .fixed (by decide) (by decide) x h
 |box=>cases s with
  |none=>exact h.elim
  |some x=>exact els .box (by decide) (by decide) x h
 |lamp=>cases s with
  |none=>exact h.elim
  |some x=>exact els .lamp (by decide) (by decide) x h
def kS(x:Str):fc:=Sum.inr x
def NI(e:fv ρ=Z (d,ρ))(f:ρ[i]?=Z (.dk a b))(h:fk ρ=Z (.str x,ρ))(o:kS x∉a)(m:a.length<1000)(j:b.length=a.length):
  y9 i fk fv ρ=Z (.nx (ρ.set i (.dk (a++[kS x]) (b++[d])))):=by
 have l:HR a (kS x)=δ:=by unfold HR;rw[lu];intro z;obtain⟨y,p,c⟩:=fD.1 z;exact o (by rw[<-bB c];exact p)
 unfold y9;rw[e];simp only[f,h];rw[show BE (.str x)=Z (kS x) from O];simp only;rw[ak m,ak j,l];rfl
section
variable{α:Type}{g:FG}{i:Nat}{fk fv:FE}
theorem Al(h:α->L4.D)(kf:α->Str)(f:α->L4.D)(st:List fc->List L4.D->Sl->aQ)
  (p:∀(a:α) (b:List fc) (ds:List L4.D) (s:Sl),∃ρ1,g (h a) (st b ds s)=Z ρ1/\fv ρ1=Z (f a,ρ1)/\ρ1[i]?=Z (.dk b ds)/\fk ρ1=Z (.str (kf a),ρ1)/\∀d c,∃e,ρ1.set i (.dk d c)=st d c e):
  ∀(l:List α) (b:List fc) (ds:List L4.D) (s:Sl),(b++l.map λa=>kS (kf a)).Nodup->b.length+l.length<=1000->ds.length=b.length->
   ∃e,fl g (y9 i fk fv) (l.map h) (st b ds s)=Z (.nx (st (b++l.map λa=>kS (kf a)) (ds++l.map f) e))
 |[],b,ds,s,_,_,_=>⟨s,by rw[fJ,fJ,fJ,bR,bR];rfl⟩
 |a::l,b,ds,s,j,A,o=>by
  obtain⟨ρ1,q,r,t,u,w⟩:=p a b ds s;obtain⟨C,x⟩:=w (b++[kS (kf a)]) (ds++[f a]);rw[aN]at A;have m:((b++[kS (kf a)])++l.map λa=>kS (kf a)).Nodup:=by rw[bX];exact j
  have B:kS (kf a)∉b:=λz=>by rw[cp]at j;exact j.2.2 _ z _ (by rw[aJ];exact bb) O
  obtain⟨e,y⟩:=Al h kf f st p l (b++[kS (kf a)]) (ds++[f a]) C m (by rw[aE,cF];omega) (by rw[aE,aE,o,cF,cF]);refine⟨e,?_⟩;rw[aJ];unfold fl;rw[q];simp only[NI r t u B (by omega) o,x];rw[y,aJ,aJ,bX,bX];rfl
end
def nK(T:List Th):List fc:=T.map λt=>kS t.n
def Ma(h:kS a=kS b):a=b:=jR h
def Uz{T:List Th}(h:(T.map Th.n).Nodup):(nK T).Nodup:=by have:=DT h;rw[aZ]at this;exact this
def FY{T:List Th}(h:(T.map Th.n).Nodup)(a:Th->L4.D)(b:t∈T):xk (nK T) (T.map a) (kS t.n)=Z (a t):=by refine Di (Uz h) ?_;unfold nK;rw[jO];exact cG (f:=λt=>(kS t.n,a t)) b
def Mb(T:List Th)(r:Str->Nat):Prop:=∀t∈T,r t.n<T.length/\∀p,t.s=Z p->r p<r t.n/\∃u∈T,u.n=p
def vl(T:List Th):L4.D:=.Q (nK T) (T.map λt=>oS t.s)
def UA(T:List Th)(N:T.length<=1000)(B:(T.map Th.n).Nodup)(r:Str->Nat)(w:Mb T r)(t:Th)(z:t∈T):zT [vl T,.str t.n]=Z (.I γ):=by
 have loop:∀(m:Nat) (l:List L4.D),l.length=m->∀(a:Option Str) (s:Sl),(∀x,a=Z x->(∃u∈T,u.n=x)/\r x<m)->
   (∃b,fl (gN 3) (uO (fh (cT (c2 y8 aj aA)) (uT cR) uZ) (vc 2 (c2 BF aa aj))) l [.z (vl T),.z (.str t.n),.z (oS a),s]=Z (.rt (.I γ) b))\/
   (∃j,fl (gN 3) (uO (fh (cT (c2 y8 aj aA)) (uT cR) uZ) (vc 2 (c2 BF aa aj))) l [.z (vl T),.z (.str t.n),.z (oS a),s]=Z (.nx [.z (vl T),.z (.str t.n),.z .E,j])):=by
  intro m
  induction m with
  |zero=>
   intro l h a s f;cases l with
   |cons d l=>cases h
   |nil=>
    cases a with
    |none=>exact .inr ⟨s,O⟩
    |some x=>exact aq (f x O).2 (Nat.not_lt_zero _)
  |succ m G=>
   intro l h a s f;cases l with
   |nil=>cases h
   |cons d l=>
    cases a with
    |none=>refine .inl ⟨[.z (vl T),.z (.str t.n),.z .E,.z d],?_⟩;unfold fl;rw[show gN 3 d [.z (vl T),.z (.str t.n),.z (oS J),s]=Z [.z (vl T),.z (.str t.n),.z .E,.z d] from O];rfl
    |some x=>
     obtain⟨⟨u,A,rfl⟩,i⟩:=f x O;have e:uO (fh (cT (c2 y8 aj aA)) (uT cR) uZ) (vc 2 (c2 BF aa aj)) [.z (vl T),.z (.str t.n),.z (.str u.n),.z d]=Z (.nx [.z (vl T),.z (.str t.n),.z (oS u.s),.z d]):=by refine(uK (ρ':=[.z (vl T),.z (.str t.n),.z (.str u.n),.z d]) O).t ?_;exact(uY (uW O O (FY B (λt=>oS t.s) A))).t O
     have key:=G l (by simpa using h) u.s (.z d) λy F=>by obtain⟨C,c⟩:=w u A;obtain⟨M,E⟩:=c y F;exact⟨E,by omega⟩
     unfold fl;rw[show gN 3 d [.z (vl T),.z (.str t.n),.z (oS (Z u.n)),s]=Z [.z (vl T),.z (.str t.n),.z (.str u.n),.z d] from O];simp only[e];exact key
 obtain⟨C,c⟩:=w t z;have H:=loop T.length (B2 0 T.length) (by unfold B2;simp) t.s .un λx i=>⟨(c x i).2,by have:=(c x i).1;omega⟩;have o:vc 2 (c2 BF aa ag) [.z (vl T),.z (.str t.n),.un,.un]=Z (.nx [.z (vl T),.z (.str t.n),.z (oS t.s),.un]):=(uY (uW O O (FY B (λt=>oS t.s) z))).t O;have p:I' (c1 wU aa) [.z (vl T),.z (.str t.n),.z (oS t.s),.un]=Z (B2 0 T.length,[.z (vl T),.z (.str t.n),.z (oS t.s),.un]):=by unfold I';rw[show c1 wU aa [.z (vl T),.z (.str t.n),.z (oS t.s),.un]=Z (.int T.length,[.z (vl T),.z (.str t.n),.z (oS t.s),.un]) from vO O (by show Z (D.int _)=_;unfold nK;rw[ah])];simp only;rw[ak (by omega),gE]
 rcases H with ⟨b,q⟩|⟨j,q⟩
 .refine uP (ρ:=b) O ?_;refine(uK o).t (uU ((wm p).t q))
 .refine uP (ρ:=[.z (vl T),.z (.str t.n),.z .E,j]) O ?_;refine(uK o).t ((uK ((wm p).t q)).t O)
def HX(T:List Th)(x:T.length<=900)(h:(T.map Th.n).Nodup)(r:Str->Nat)(m:Mb T r)(o:∀t∈T,D1 T t):AE [TD T]=Z .E:=by
 obtain⟨b,l⟩:=Al (g:=gN 2) (i:=1) (fk:=c1 (uS vd "name") aj) (fv:=c1 (uS wD "start") aj) en Th.n (λt=>oS t.s) (λe c s=>[.z (TD T),.dk e c,s])
  (λt e c s=>⟨[.z (TD T),.dk e c,.z (en t)],O,vO O (Il t),O,vO O (AL t),λp j=>⟨_,O⟩⟩) T [] [] .un (by rw[bZ];exact Uz h) (by simp;omega) O
 refine Bh (ρ:=[.z (TD T),.z (vl T),b]) O ?_;unfold AD;refine(uK (xP (ρ1:=[.z (TD T),.un,.un]) (zA en T O (by omega) λt d=>⟨[.z (en t),.z (TD T)],[.z (en t),.z (TD T)],O,uL O (NH T (by omega) t (o t d)),O⟩))).t ?_;refine(uK (ρ':=[.z (TD T),.dk [] [],.un]) O).t ?_;refine(uK ((wm O).t l)).t ?_;have src:iD (D' 1) [.z (TD T),.dk ([]++T.map λa=>kS a.n) ([]++T.map λt=>oS t.s),b]=Z ((T.map λt=>D.str t.n),[.z (TD T),.z (vl T),b]):=by rw[bZ,bZ];unfold iD;rw[show D' 1 [.z (TD T),.dk (T.map λa=>kS a.n) (T.map λt=>oS t.s),b]=Z (vl T,[.z (TD T),.z (vl T),b]) from O];show (if (nK T).length=(T.map λt=>oS t.s).length then Z ((nK T).map Z9,_)else J)=_;unfold nK;rw[ak (by rw[ah,ah]),aZ];rfl
 exact xP (ρ1:=[.z (TD T),.z (vl T),b]) (zA (λt:Th=>D.str t.n) T src (by omega) λt d=>⟨[.z (.str t.n),.z (vl T)],[.z (.str t.n),.z (vl T)],O,uL O (UA T (by omega) h r m t d),O⟩)
def Mc(l:List Th)(r:Th):Prop:=(r.k=.room/\r.s=J)\/(r.k=.you/\∃u∈l,r.s=Z u.n/\u.k=.room)\/(r.k.pl=γ/\∃u∈l,r.s=Z u.n/\u.k.hd=γ)
inductive Ord:List Th->Prop
 |nil:Ord []
 |snoc {l:List Th} {r:Th} (h:Ord l) (h':Mc l r):Ord (l++[r])
def Mc.mono(h:Mc l r)(d:∀u∈l,u∈e):Mc e r:=by
 rcases h with h|⟨a,u,b,c⟩|⟨a,u,b,c⟩
 .exact .inl h
 .exact .inr (.inl ⟨a,u,d u b,c⟩)
 .exact .inr (.inr ⟨a,u,d u b,c⟩)
def Ord.all(h:Ord l):∀r∈l,Mc l r:=by
 induction h with
 |nil=>exact λr hr=>(cA hr).elim
 |snoc h b c=>
  intro r hr;rcases aT.1 hr with hr|hr
  .exact(c r hr).mono λu a=>bF _ a
  .rw[bj]at hr;subst hr;exact b.mono λu a=>bF _ a
def Mc.start(h:Mc l r)(a:r.s=Z p):∃u∈l,u.n=p:=by
 rcases h with ⟨_,h⟩|⟨_,u,b,c,_⟩|⟨_,u,b,c,_⟩
 .rw[h]at a;cases a
 .rw[c]at a;cases a;exact⟨u,b,O⟩
 .rw[c]at a;cases a;exact⟨u,b,O⟩
def Ord.rank(h:Ord l):(l.map Th.n).Nodup->∃c:Str->Nat,∀t∈l,c t.n<l.length/\∀p,t.s=Z p->c p<c t.n/\∃u∈l,u.n=p:=by
 induction h with
 |nil=>exact λ_=>⟨λ_=>0,λt a=>(cA a).elim⟩
 |@snoc l r h j q=>
  intro e;rw[bu,cp]at e;obtain⟨c,i⟩:=q e.1;have f:∀u∈l,u.n≠r.n:=λu b z=>e.2.2 _ (cG b) _ (by simp) z;refine⟨λx=>if x=r.n then l.length else c x,λt a=>?_⟩;rw[aE,cF];dsimp only;rcases aT.1 a with a|a
  .obtain⟨w,m⟩:=i t a;rw[ao (f t a)];refine⟨by omega,λp d=>?_⟩;obtain⟨o,u,b,rfl⟩:=m p d;rw[ao (f u b)];exact⟨o,u,bF _ b,O⟩
  .rw[bj]at a;subst a;rw[ak O];refine⟨by omega,λp d=>?_⟩;obtain⟨u,b,rfl⟩:=j.start d;rw[ao (f u b)];exact⟨(i u b).1,u,bF _ b,O⟩
def JG{ds:List L4.D}(k:Nat)(h:k<=ds.length):rl ds J (Z (k:Int))=ds.take k:=by unfold rl;rw[HT.MH,HT.O9,qk h,qz,Nat.sub_zero]
def UB{ds:List L4.D}(k:Nat)(h:k<=ds.length):rl ds (Z (k:Int)) J=ds.drop k:=by unfold rl;rw[HT.MH,HT.O9,qk h,iw (by rw[fA];omega)]
def wdL:List (Str×aF):=η.map (λx:Str=>(x,([x,"place"]:aF)))++(("me", ["me", "self"]):Str×aF)::r?
def Th.nw(t:Th):Str×aF:=(t.n,t.w)
def D3(t:Th):Prop:=t.nw∈wdL/\(t.k.pl=γ->t.nw∈r?)
def Me(h:D3 t):A4 [.du (t.w.map D.str)]=Z (.I γ):=CB (aS.1 (show (wdL.all λq=>isT (A4 [.du (q.2.map D.str)]))=γ by kernel_rfl) t.nw h.1)
def ON(t u:Th)(a:t.nw∈r?)(b:u.nw∈r?)(hne:u.n≠t.n):BO [.du (u.w.map D.str),.du (t.w.map D.str)]=Z (.I δ):=by
 have h:=aS.1 (aS.1 (show (r?.all λp=>r?.all λq=>decide (q.1=p.1)||isF (BO [.du (q.2.map D.str),.du (p.2.map D.str)]))=γ by kernel_rfl) t.nw a) u.nw b;rw[jL]at h;rcases h with h|h
 .exact aq (bB h) hne
 .exact OK h
def Ki(P:List Th)(d:P.length<=900)(h:∀t∈P,t.nw∈r?)(t:Th)(f:t.nw∈r?):zV [TD P,en t]=Z (.I γ):=by
 let b:=P.filter λu=>!decide (u.n=t.n);let a:aQ:=[.z (TD P),.z (en t),.z (TD b)];have hO:b.length<=900:=bD (cu _ _) d;refine uP (ρ:=a) O ?_;unfold zU;refine(uK (ρ':=a) ((uY (vP (zl en en (λu=>!decide (u.n=t.n)) P (ρ1:=[.z (TD P),.z (en t),.un]) O (by omega) λu _=>⟨[.z (en u),.z (en t)],[.z (en u),.z (en t)],O,vZ (uW (vO O (AL u)) (vO O (AL t)) (xx γ u.n t.n)),λ_=>⟨_,O,O⟩,λ_=>O⟩))).t O)).t ?_;have e:c1 HU (cL (uX 1 [1] (iL aj) (gN 0) vN (uM BO (ax (c1 (uS xT "words") aa) (ax (c1 (uS xT "words") ag) vB))))) a=Z (.I δ,a):=
  Uy en b O (by omega) λu c=>⟨[.z (en u),.z (en t)],[.z (en u),.z (en t)],O,uL (uJ (vO O (L7 u)) (uJ (vO O (L7 t)) O)) (ON t u f (h u (aY.1 c).1) (by simpa using (aY.1 c).2)),O⟩
 refine uR ?_;unfold D5;rw[e];rfl
def JH(T:List Th)(e:T.length<=900)(d:∀t∈T,D3 t):xF [TD T]=Z .E:=by let P:=T.filter λt=>t.k.pl;have hP:P.length<=900:=bD (cu _ _) e;have hwP:∀t∈P,t.nw∈r?:=λt a=>(d t (aY.1 a).1).2 (aY.1 a).2;let b:aQ:=[.z (TD T),.z (TD P)];refine Bh (ρ:=b) O ?_;unfold xE;refine(uK (xP (ρ1:=[.z (TD T),.un]) (zA en T O (by omega) λt a=>⟨[.z (en t)],[.z (en t)],O,uL (uJ (vO O (L7 t)) O) (Me (d t a)),O⟩))).t ?_;refine(uK (ρ':=b) ((uY (vP (uL O (Bw T (by omega))))).t O)).t ?_;exact xP (ρ1:=b) (zA en P O (by omega) λt a=>⟨[.z (en t),.z (TD P)],[.z (en t),.z (TD P)],O,uL O (Ki P hP hwP t (hwP t a)),O⟩)
def Mg(h:e ρ=Z (.I b,ρ1)):D5 e ρ=Z (.I !b,ρ1):=by unfold D5;rw[h]
def JI{l m:aF}(hd:d=.bt (m.map D.str)\/d=.du (m.map D.str))(c:l.length<=900)(h:∀x∈l,x∉m):zI [.bt (l.map D.str),d]=Z (.I γ):=by
 let a:aQ:=[.z (.bt (l.map D.str)),.z d];refine uP (ρ:=a) O ?_;have e:c1 HU (cL (uX 1 [1] (iL aa) (gN 0) vN (c2 (n6 δ) aa ag))) a=Z (.I δ,a):=Uy D.str l O (by omega) λx b=>⟨[.z (.str x),.z d],[.z (.str x),.z d],O,uW O O (by
  rcases hd with rfl|rfl
  .rw[xC];simp[h x b]
  .rw[T5];simp[h x b]),O⟩
 exact uR (Mg e)
structure Vb where
 n:Str
 o:aF
 f:Str
 j:Option Str
def j?(v:Vb):L4.D:=.obj 2 ["name", "others", "form", "joining"] [.str v.n,.du (v.o.map D.str),.str v.f,oS v.j]
def v6:List Vb:=[⟨"push", ["shove", "p"],"one", J⟩,⟨"tie", [],"two", Z "to"⟩,⟨"sing", ["hum"],"alone", J⟩,⟨"swim", ["dive"],"way", J⟩,⟨"takes", [],"two", Z "in"⟩,⟨"w", [],"alone", J⟩]
def v9:List Vb:=[⟨"take", [],"one", J⟩,⟨"drop", [],"one", J⟩,⟨"open", [],"one", J⟩,⟨"shut", [],"one", J⟩,⟨"light", [],"one", J⟩,⟨"douse", [],"one", J⟩,⟨"put", [],"two", Z "in"⟩,⟨"go", [],"way", J⟩,⟨"wait", [],"alone", J⟩]
abbrev VD(V:List Vb):L4.D:=.bt (V.map j?)
def vL(t n:Nat):List Vb:=(v6.drop t++v6.take t).take n
def UC:ze []=Z (v9.map j?):=by kernel_rfl
def Vb.ws(v:Vb):aF:=v.n::v.o
def vW:aF:=(v6++v9).flatMap Vb.ws
def bW:aF:=["to", "in", "north", "up", "outside"]
def V42(p:List Vb->Bool):Bool:=(aU 6).all λt=>(aU 7).all λn=>p (vL t n)
def v42(h:V42 p=γ)(b:t<6)(a:n<7):p (vL t n)=γ:=aS.1 (aS.1 h t (bL.2 b)) n (bL.2 a)
def Mh(h:v∈vL t n):v∈v6:=by
 rcases aT.1 (iz h)with h|h
 .exact oO h
 .exact iz h
def JJ(t n:Nat):(vL t n).length<=6:=by unfold vL;rw[bY,aE,fA,bY];show min n (6 - t+min t 6)<=6;omega
def isN:Option L4.D->Bool
 |some .E=>γ
 |_=>δ
def abF(h:isN o=γ):o=Z .E:=by
 unfold isN at h;split at h
 .rfl
 .cases h
def JK(b:t<6)(a:n<7):yA [VD (vL t n)]=Z .E:=abF (v42 (p:=λV=>isN (yA [VD V])) (by kernel_rfl) b a)
def P7(b:t<6)(a:n<7):((vL t n++v9).flatMap Vb.ws).Nodup:=bB (v42 (p:=λV=>decide ((V++v9).flatMap Vb.ws).Nodup) (by kernel_rfl) b a)
def vws{V:List Vb}(h:∀v∈V,v∈v6):∀x∈(V++v9).flatMap Vb.ws,x∈vW:=λx b=>by
 obtain⟨v,a,b⟩:=dR.1 b;refine dR.2 ⟨v,?_,b⟩;rcases aT.1 a with a|a
 .exact bF _ (h v a)
 .exact bx _ a
structure Wy where
 r:Str
 w:Str
 g:Str
 m:Option Str
def n3(w:Wy):L4.D:=.du [.str w.r,.str w.w,.str w.g,oS w.m]
abbrev WD(W:List Wy):L4.D:=.bt (W.map n3)
def vf(T:List Th)(M:List Mk):aF:=(T.filter λt=>t.k.mk).map Th.n++M.map Mk.n
structure Kj(T:List Th)(M:List Mk)(w:Wy):Prop where
 hr:w.r∈ll T
 hw:w.w∈(["north", "up", "outside"]:aF)
 hg:w.g∈ll T
 hm:∀x,w.m=Z x->x∈vf T M
def P8(l:List L4.D)(n:Int)(h:(l.length:Int)<=n):vY [.bt l,.int n]=Z (.I γ):=by
 have e:vY [.bt l,.int n]=Z (.I (decide ((l.length:Int)<=n))):=by kernel_rfl
 rw[e,aV h]
def FZ(b:e ρ=Z (.I δ,ρ1)):S? e a ρ=a ρ1:=by unfold S?;rw[b]
def Mi(a:e ρ=Z (.I γ,ρ1)):S? e b ρ=Z (.I γ,ρ1):=by unfold S?;rw[a]
def RE(h:Kj T M w):Jt [n3 w,.bt ((ll T).map D.str),.bt ((vf T M).map D.str)]=Z (.I γ):=by
 let R:L4.D:=.bt ((ll T).map D.str);let K:L4.D:=.bt ((vf T M).map D.str);let a:aQ:=[.z (n3 w),.z R,.z K,.un];let d:aQ:=[.z (n3 w),.z R,.z K,.z (.I γ)];refine uP (ρ:=d) O ?_;unfold Js;refine(uK (ρ':=a) O).t ?_;have e:S? (c2 y8 (c2 f3 aa fN) aA) (uM vQ sq) a=Z (.I γ,a):=by
  obtain⟨r,x,g,m⟩:=w;cases m with
  |none=>rfl
  |some y=>exact(FZ (ρ1:=a) O).t (uL (ds:=[.str y,K]) O (Ak (h.hm y O)))
 refine(uK (ρ':=d) ((uY e).t O)).t (uR ?_);have f:yj [.str w.w]=Z (.I γ):=CB (aS.1 (show ((["north", "up", "outside"]:aF).all λx=>isT (yj [.str x]))=γ by kernel_rfl) w.w h.hw);exact(vm (uL (ds:=[.str w.r,R]) O (Ak h.hr))).t ((vm (uL (ds:=[.str w.w]) O f)).t ((vm (uL (ds:=[.str w.g,R]) O (Ak h.hg))).t O))
theorem P9:∀W:List Wy,zp (W.map λw=>D.du [.str w.r,.str w.w])=Z (W.map λw=>[w.r,w.w])
 |[]=>rfl
 |w::W=>by rw[aJ];unfold zp;rw[P9 W];rfl
def Kk{W:List Wy}(e:W.length<=8)(h:∀w∈W,Kj T M w)(i:(W.map λw=>[w.r,w.w]).Nodup):Cg [WD W,.bt ((ll T).map D.str),.bt ((vf T M).map D.str)]=Z .E:=by
 let R:L4.D:=.bt ((ll T).map D.str);let K:L4.D:=.bt ((vf T M).map D.str);let d:aQ:=[.z (WD W),.z R,.z K,.un];let c:aQ:=[.z (WD W),.z R,.z K,.z (.I γ)];refine Bh (ρ:=c) O ?_;unfold Cf;refine(uK (ρ':=c) ((uY ((vm (uL (ds:=[WD W,Dp]) O (P8 _ _ (by rw[ah];omega)))).t (zA n3 W (ρ1:=d) O (by omega) λw f=>⟨[.z (n3 w),.z R,.z K],[.z (n3 w),.z R,.z K],O,uL O (RE (h w f)),O⟩))).t O)).t ?_;refine(uK (xP (ρ1:=c) O)).t (xP (ρ1:=c) (uL (uJ (vP (xH n3 (λw=>.du [.str w.r,.str w.w]) W (ρ1:=c) O (by omega) λw _=>⟨[.z (n3 w)],[.z (n3 w)],O,O,O⟩)) O) ?_));refine uP (ρ:=[.z (.bt (W.map λw:Wy=>D.du [.str w.r,.str w.w]))]) O (uR (uW (x:=.int W.length) (y:=.int W.length) (vO O ?_) (vO O ?_) ?_))
 .have b:xW (W.map λw=>D.du [.str w.r,.str w.w])=J\/xW (W.map λw=>D.du [.str w.r,.str w.w])=Z (.int W.length):=by
   cases W with
   |nil=>exact .inr O
   |cons w W=>exact .inl O
  show (match xW (W.map λw:Wy=>D.du [.str w.r,.str w.w])with|some r=>Z r|none=>Eu (W.map λw:Wy=>D.du [.str w.r,.str w.w]))=_;rcases b with b|b
  .rw[b];show Eu _=_;unfold Eu;rw[P9];dsimp only;rw[ak ⟨i,by rw[ah];exact e⟩,ah]
  .rw[b]
 .show Z (D.int _)=_;rw[ah]
 .rw[yE];simp
def abG{t:Th}(h:t.nw∈r?):t.w.length<=3:=bB (aS.1 (show (r?.all λq=>decide (q.2.length<=3))=γ by kernel_rfl) t.nw h)
theorem JL:∀(P:List Th) (acc:aF) (s:Sl),acc.length+3 * P.length<=900->(∀t∈P,t.nw∈r?)->
  ∃f,fl (gN 4) (vG (Dg 3 (c1 (uS xT "words") ay))) (P.map en) [a,b,c,.O (acc.map D.str),s,s5,s6,s7]=Z (.nx [a,b,c,.O ((acc++P.flatMap Th.w).map D.str),f,s5,s6,s7])
 |[],acc,s,_,_=>⟨s,by simp;rfl⟩
 |t::P,acc,s,j,h=>by
  have o:=abG (h t bb);rw[aN]at j;obtain⟨f,e⟩:=JL P (acc++t.w) (.z (en t)) (by rw[aE];omega) λu l=>h u (ba _ l);refine⟨f,?_⟩;rw[aJ];unfold fl;have i:vG (Dg 3 (c1 (uS xT "words") ay)) [a,b,c,.O (acc.map D.str),.z (en t),s5,s6,s7]=Z (.nx [a,b,c,.O ((acc++t.w).map D.str),.z (en t),s5,s6,s7]):=by refine(wj (d:=.E) (ρ':=[a,b,c,.O ((acc++t.w).map D.str),.z (en t),s5,s6,s7]) ?_);unfold Dg;show (if (acc.map D.str).length+(t.w.map D.str).length<=1000 then Z (D.E,[a,b,c,.O (acc.map D.str++t.w.map D.str),.z (en t),s5,s6,s7])else J)=_;rw[ak (by rw[ah,ah];omega),bu]
  rw[show gN 4 (en t) [a,b,c,.O (acc.map D.str),s,s5,s6,s7]=Z [a,b,c,.O (acc.map D.str),.z (en t),s5,s6,s7] from O];simp only[i];rw[e,fw,bX]
theorem Qa:∀(V:List Vb) (acc:aF) (s:Sl),acc.length+3 * V.length<=900->(∀v∈V,v.o.length<=2)->
  ∃h,fl (gN 6) (vG (Dg 5 (GV (vC km) (c1 (uS yc "others") bT)))) (V.map j?) [a,b,c,s3,s4,.O (acc.map D.str),s,s7]=Z (.nx [a,b,c,s3,s4,.O ((acc++V.flatMap Vb.ws).map D.str),h,s7])
 |[],acc,s,_,_=>⟨s,by simp;rfl⟩
 |v::V,acc,s,m,i=>by
  have q:=i v bb;rw[aN]at m;have r:v.ws.length<=3:=by unfold Vb.ws;rw[aN];omega
  obtain⟨h,e⟩:=Qa (a:=a) (b:=b) (c:=c) (s3:=s3) (s4:=s4) (s7:=s7) V (acc++v.ws) (.z (j? v)) (by rw[aE];omega) λu p=>i u (ba _ p);refine⟨h,?_⟩;rw[aJ];unfold fl;let f:aQ:=[a,b,c,s3,s4,.O (acc.map D.str),.z (j? v),s7];have j:GV (vC km) (c1 (uS yc "others") bT) f=Z (.du (v.ws.map D.str),f):=by show (if ([]:List L4.D).length+(v.o.map D.str).length<=900 then Z (D.du (.str v.n::[]++v.o.map D.str),f)else J)=_;rw[ak (by rw[ah];simp only[fE];omega)];rfl
  have l:vG (Dg 5 (GV (vC km) (c1 (uS yc "others") bT))) f=Z (.nx [a,b,c,s3,s4,.O ((acc++v.ws).map D.str),.z (j? v),s7]):=by refine wj (d:=.E) ?_;unfold Dg;rw[j];show (if (acc.map D.str).length+(v.ws.map D.str).length<=1000 then Z (D.E,[a,b,c,s3,s4,.O (acc.map D.str++v.ws.map D.str),.z (j? v),s7])else J)=_;rw[ak (by rw[ah,ah];omega),bu]
  rw[show gN 6 (j? v) [a,b,c,s3,s4,.O (acc.map D.str),s,s7]=Z f from O];simp only[l];rw[e,fw,bX]
def jsN(V:List Vb):aF:=V.filterMap Vb.j
def v_o2{V:List Vb}(h:∀v∈V,v∈v6):∀v∈V++v9,v.o.length<=2:=λv b=>by
 have a:=aS.1 (show ((v6++v9).all λv=>decide (v.o.length<=2))=γ by kernel_rfl) v (by
  rcases aT.1 b with b|b
  .exact bF _ (h v b)
  .exact bx _ b)
 exact bB a
def ady{e:FE}{c a:aQ}{b:List L4.D}(h:e c=Z (.bt b,a)):iL e c=Z (b,a):=by unfold iL;rw[h]
def adz(V:List Vb)(d:V.length<=900)(a:cV 2 ρ=Z (VD V,ρ)):uX 1 [] (iL aj) (gN 0) (cT (c2 wz (c1 (uS xn "joining") aa) aA)) (c1 (uS xn "joining") aa) ρ=Z ((jsN V).map D.str,ρ):=by
 have b:iL aj ρ=Z (V.map j?,ρ):=ady a;refine(zl (k:=1) (ey:=[]) (g:=gN 0) (ft:=cT (c2 wz (c1 (uS xn "joining") aa) aA)) (fe:=c1 (uS xn "joining") aa) j? (λv=>oS v.j) (λv=>v.j.isSome) V b (by omega) λv _=>⟨[.z (j? v)],[.z (j? v)],O,?_,λ_=>⟨[.z (j? v)],O,O⟩,λ_=>O⟩).t ?_
 .obtain⟨n,o,f,j⟩:=v;cases j<;>rfl
 .congr 2;unfold jsN;clear b a d
  induction V with
  |nil=>rfl
  |cons v V c=>
   obtain⟨n,o,f,j⟩:=v;cases j with
   |none=>rw[oo (by simp),List.filterMap_cons_none O];exact c
   |some x=>rw[kM (by simp)];exact bG (D.str x::·) c
def JM{T:List Th}{W:List Wy}(X:T.length<=200)(G:∀t∈T,D3 t)(hW:W.length<=8)(ww:∀w∈W,w.w∈(["north", "up", "outside"]:aF))(y:t<6)(I:n<7):xN [TD T,WD W,VD (vL t n++v9)]=Z .E:=by
 let V:=vL t n++v9;have v6m:∀v∈vL t n,v∈v6:=λv E=>Mh E;have lV:V.length<=15:=by show (vL t n++v9).length<=15;rw[aE];have:=JJ t n;show (vL t n).length+9<=15;omega
 let P:=T.filter λt=>t.k.pl;have hP:P.length<=200:=bD (cu _ _) X;have hwP:∀t∈P,t.nw∈r?:=λt y=>(G t (aY.1 y).1).2 (aY.1 y).2;let A:Sl:=.z (TD T);let B:Sl:=.z (WD W);let C:Sl:=.z (VD V);obtain⟨i,Q⟩:=JL (a:=A) (b:=B) (c:=C) (s5:=.un) (s6:=.un) (s7:=.un) P [] .un (by simp;omega) hwP;let u:=P.flatMap Th.w;let U:=V.flatMap Vb.ws;let p:Sl:=.O (u.map D.str);obtain⟨z,R⟩:=Qa (a:=A) (b:=B) (c:=C) (s3:=p) (s4:=i) (s7:=.un) V [] .un (by simp;omega) (v_o2 v6m);let o:aF:=jsN V++W.map Wy.w;let AT:Sl:=.z (.bt (o.map D.str));have lU:U.length<=100:=by have h:=vws v6m;have S:=Nt (P7 y I) h;exact bD S (kO (by kernel_rfl))
 have lJ:(jsN V).length<=15:=bD (List.length_filterMap_le _ _) lV;have lB:o.length<=100:=by show (jsN V++W.map Wy.w).length<=100;rw[aE,ah];omega
 have bIn:∀x∈o,x∈bW:=λx d=>by
  rcases aT.1 d with d|d
  .obtain⟨v,E,e⟩:=iC.1 d;have a:=aS.1 (show ((v6++v9).all λv=>match v.j with|some x=>decide (x∈bW)|none=>γ)=γ by kernel_rfl) v (by
    rcases aT.1 E with E|E
    .exact bF _ (v6m v E)
    .exact bx _ E)
   rw[e]at a;exact bB a
  .obtain⟨w,G,rfl⟩:=au.1 d;exact(show ∀x∈(["north", "up", "outside"]:aF),x∈bW by decide) _ (ww w G)
 have oIn:∀x∈u,x∈r?.flatMap bH:=λx d=>by obtain⟨t,y,hxt⟩:=dR.1 d;exact dR.2 ⟨t.nw,hwP t y,hxt⟩
 have uIn:∀x∈U,x∈vW:=vws v6m;have s1:∀x∈vW++bW,x∉r?.flatMap bH:=by decide +kernel
 have s2:∀x∈vW++bW,x∉(["the", "a", "undo", "restart"]:aF):=by decide +kernel
 have M:∀x∈bW,x∉vW:=by decide +kernel
 have N:∀x∈U++o,x∈vW++bW:=λx d=>by
  rcases aT.1 d with d|d
  .exact bF _ (uIn x d)
  .exact bx _ (bIn x d)
 have lUB:(U++o).length<=900:=by rw[aE];omega
 let UL:L4.D:=.bt (U.map D.str);refine Bh (ρ:=[A,B,C,.z (.bt (u.map D.str)),i,.z UL,z,AT]) O ?_;unfold yQ;refine(uK (ρ':=[A,B,C,.O [],.un,.un,.un,.un]) O).t ?_;refine(uK (ρ':=[A,B,C,p,i,.un,.un,.un]) ((wm (ds:=P.map en) (ρ1:=[A,B,C,.O [],.un,.un,.un,.un]) ?_).t Q)).t ?_
 .unfold iL;rw[vP (uL (g:=ym) (ds:=[TD T]) (ρ1:=[A,B,C,.O [],.un,.un,.un,.un]) O (Bw T (by omega)))]
 refine(uK (ρ':=[A,B,C,p,i,.O [],.un,.un]) O).t ?_;refine(uK (ρ':=[A,B,C,p,i,.O (U.map D.str),z,.un]) ((wm (ds:=V.map j?) (ρ1:=[A,B,C,p,i,.O [],.un,.un]) O).t R)).t ?_;refine(uK (ρ':=[A,B,C,p,i,.O (U.map D.str),z,AT]) ((uY (vP (w6 (vP (adz V (by omega) O)) (vP (xH n3 (λw=>.str w.w) W (ρ1:=[A,B,C,p,i,.O (U.map D.str),z,.un]) O (by omega) λw _=>⟨[.z (n3 w)],[.z (n3 w)],O,O,O⟩)) (by rw[ah,ah];omega)))).t ?_)).t ?_
 .show Z (tf.nx [A,B,C,p,i,.O (U.map D.str),z,.z (.bt ((jsN V).map D.str++W.map λw=>.str w.w))])=_;rw[show (jsN V).map D.str++(W.map λw=>D.str w.w)=o.map D.str by show _=(jsN V++W.map Wy.w).map D.str;rw[bu,aZ];rfl]
 refine(uK (xP (ρ1:=[A,B,C,p,i,.z UL,z,AT]) (uL (ds:=[UL]) O (EL (P7 y I) (by omega))))).t ?_;have H:∀(q:Sl),cL (xq (D' 5) bJ) [A,B,C,q,i,.z UL,z,AT]=Z (.bt ((U++o).map D.str),[A,B,C,q,i,.z UL,z,AT]):=λq=>(vP (w6 (xs:=U.map D.str) (ys:=o.map D.str) (ρ1:=[A,B,C,q,i,.z UL,z,AT]) O O (by rw[ah,ah];omega))).t (by rw[<-bu]);refine(uK (xP (ρ1:=[A,B,C,.z (.bt (u.map D.str)),i,.z UL,z,AT]) (uL (uJ (H p) (uJ O O)) (JI (l:=U++o) (m:=u) (.inl O) lUB λx d Y=>s1 x (N x d) (oIn x Y))))).t ?_;refine(uK (xP (ρ1:=[A,B,C,.z (.bt (u.map D.str)),i,.z UL,z,AT]) (uL (uJ (H _) (uJ O O)) (JI (l:=U++o) (m:=["the", "a", "undo", "restart"]) (.inr O) lUB λx d=>s2 x (N x d))))).t ?_;exact xP (ρ1:=[A,B,C,.z (.bt (u.map D.str)),i,.z UL,z,AT]) (uL (uJ O (uJ O O)) (JI (l:=o) (m:=U) (.inl O) (by omega) λx d hu=>M x (bIn x d) (uIn x hu)))
structure e8(T:List Th)(M:List Mk)(dk:aF)(W:List Wy):Prop where
 len:T.length<=13
 r1:1<=(T.filter λt=>decide (t.k=.room)).length
 r5:(T.filter λt=>decide (t.k=.room)).length<=5
 y1:(T.filter λt=>decide (t.k=.you)).map Th.n=(["me"]:aF)
 p7:(T.filter λt=>t.k.pl).length<=7
 m4:M.length<=4
 mo:∀m∈M,m.ok
 nm:∀x∈T.map Th.n++M.map Mk.n,Nm x
 nd:(T.map Th.n++M.map Mk.n).Nodup
 st:∀t∈T,D1 T t
 rk:∃r,Mb T r
 wd:∀t∈T,D3 t
 d0:dk.length<=5
 d1:dk.Nodup
 d2:∀x∈dk,x∈ll T
 w8:W.length<=8
 wo:∀w∈W,Kj T M w
 wn:(W.map λw=>[w.r,w.w]).Nodup
section
variable{T:List Th}{M:List Mk}{dk:aF}{W:List Wy}
def e8.z?(g:e8 T M dk W):(T.map Th.n).Nodup:=(cp.1 g.nd).1
def Em(T:List Th)(M:List Mk)(c:T.length<=200)(hM:M.length<=4):yn [TD T,MD M]=Z ((vf T M).map D.str):=by
 let a:aQ:=[.z (TD T),.z (MD M)];have h:=cu (λt:Th=>t.k.mk) T;refine(Aq (ρ:=a) O (xu (w6 (vP (zl en (λt=>D.str t.n) (λt=>t.k.mk) T (ρ1:=a) O (by omega) λt _=>⟨[.z (en t)],[.z (en t)],O,vZ (vz (xs:=[.str t.n,.du (t.w.map D.str),.str t.k.s,oS t.s]) (ys:=[]) O O O O (P5 t)),λ_=>⟨_,vO O (AL t),O⟩,λ_=>O⟩))
  (vP (xH o3 (λt=>D.str t.n) M O (by omega) λt _=>⟨_,_,O,vO O (L9 t),O⟩)) (by rw[ah,ah];omega)))).t ?_
 unfold vf;rw[bu,aZ,aZ];rfl
def JN(g:e8 T M dk W)(f:t<6)(e:n<7):Bp [TD T,MD M,.bt (dk.map D.str),WD W,VD (vL t n),VD v9]=Z .E:=by
 have o:=g.len;have h:=g.m4;have hdk:dk.length<=1000:=by have:=g.d0;omega
 have l:(T.filter λt=>decide (t.k=.you)).length=1:=by have:=bG dh g.y1;rw[ah]at this;exact this
 obtain⟨r,i⟩:=g.rk;let b:aQ:=[.z (TD T),.z (MD M),.z (.bt (dk.map D.str)),.z (WD W),.z (VD (vL t n)),.z (VD v9),.un];let c:aQ:=[.z (TD T),.z (MD M),.z (.bt (dk.map D.str)),.z (WD W),.z (VD (vL t n)),.z (VD v9),.z (.bt ((ll T).map D.str))];refine Bh (ρ:=c) O ?_;unfold Bo;refine(uK (wj (ρ':=b) (uL O (HW T (by omega) g.r1 g.r5 l g.p7)))).t ?_;refine(uK (wj (ρ':=b) (uL O (JE M g.m4 g.mo)))).t ?_;refine(uK (wj (ρ':=b) (uL O (JF T M (by omega) (by omega) g.nm g.nd)))).t ?_;refine(uK (wj (ρ':=b) (uL O (HX T (by omega) g.z? r i g.st)))).t ?_;refine(uK (wj (ρ':=b) (uL O (JH T (by omega) g.wd)))).t ?_;refine(uK (ρ':=c) ((uY (vP (NG T (by omega) O))).t O)).t ?_;refine(uK (wj (ρ':=c) (uL O (Kh dk (ll T) hdk g.d1 g.d2)))).t ?_;refine(uK (wj (ρ':=c) (uL (uJ O (uJ O (uJ (vP (uL (g:=yn) (ds:=[TD T,MD M]) O (Em T M (by omega) h))) O))) (Kk g.w8 g.wo g.wn)))).t ?_;refine(uK (wj (ρ':=c) (uL (g:=yA) (ds:=[VD (vL t n)]) (r:=.E) O (JK f e)))).t ?_;refine wj (ρ':=c) (uL (g:=xN) (ds:=[TD T,WD W,VD (vL t n++v9)]) (uJ O (uJ O (uJ ((vP (w6 (xs:=(vL t n).map j?) (ys:=v9.map j?) (ρ1:=c) O O ?_)).t (by rw[<-bu])) O))) (JM (by omega) g.wd g.w8 (λw j=>(g.wo w j).hw) f e));have:=JJ t n;rw[ah,ah];show (vL t n).length+9<=1000;omega
def OO(T:List Th)(o:T.length<=900)(f:(T.map Th.n).Nodup):Gs [TD T]=Z (.Q (nK T) (T.map en)):=by
 obtain⟨h,d⟩:=Al (g:=gN 2) (i:=1) (fk:=c1 (uS vd "name") aj) (fv:=cV 2) en Th.n en (λb a s=>[.z (TD T),.dk b a,s])
  (λt b a s=>⟨[.z (TD T),.dk b a,.z (en t)],O,O,O,vO O (AL t),λe c=>⟨_,O⟩⟩) T [] [] .un (by rw[bZ];exact Uz f) (by simp;omega) O
 refine uP (ρ:=[.z (TD T),.z (.Q (nK T) (T.map en)),h]) O ?_;unfold Gr;refine(uK (ρ':=[.z (TD T),.dk [] [],.un]) O).t ?_;refine(uK ((wm O).t d)).t ?_;rw[bZ,bZ];rfl
def mP(T:List Th)(M:List Mk):List (Str×Int):=(T.filter λt=>t.k.mk).map (λt=>(t.n,1))++M.map λm=>(m.n,m.mo)
def OP(T:List Th)(M:List Mk):(mP T M).map cQ=vf T M:=by unfold mP vf;rw[bu,aZ,aZ];rfl
def Xi(m:Mk):uS Au "most" (o3 m)=Z (.int m.mo):=rfl
theorem GE:∀(l:List Th) (c:List fc) (d:List L4.D) (s:Sl),(c++(l.filter λt=>t.k.mk).map λt=>kS t.n).Nodup->c.length+l.length<=900->d.length=c.length->
  ∃j,fl (gN 3) (fh (cT (vh xD "has_mark" aw vB)) (y9 2 (c1 (uS vd "name") aw) aM) uZ) (l.map en) [a,b,.dk c d,s,e]=Z (.nx [a,b,.dk (c++(l.filter λt=>t.k.mk).map λt=>kS t.n) (d++(l.filter λt=>t.k.mk).map λ_=>.int 1),j,e])
 |[],c,d,s,_,_,_=>⟨s,by simp;rfl⟩
 |t::l,c,d,s,f,u,r=>by
  rw[aN]at u;let m:aQ:=[a,b,.dk c d,.z (en t),e];have o:cT (vh xD "has_mark" aw vB) m=Z (t.k.mk,m):=vZ (vz (xs:=[.str t.n,.du (t.w.map D.str),.str t.k.s,oS t.s]) (ys:=[]) O O O O (P5 t));rw[aJ];unfold fl;rw[show gN 3 (en t) [a,b,.dk c d,s,e]=Z m from O];cases h:t.k.mk with
  |true=>
   rw[h]at o;rw[kM (p:=λt:Th=>t.k.mk) h,aJ]at f;rw[kM (p:=λt:Th=>t.k.mk) h];have y:kS t.n∉c:=λz=>by rw[cp]at f;exact f.2.2 _ z _ bb O
   obtain⟨j,q⟩:=GE (a:=a) (b:=b) (e:=e) l (c++[kS t.n]) (d++[.int 1]) (.z (en t)) (by rw[bX];exact f) (by rw[aE,cF];omega) (by simp[r]);refine⟨j,?_⟩;simp only[(u4 o).t (NI (i:=2) (fk:=c1 (uS vd "name") aw) (fv:=cC (.int 1)) (ρ:=m) (x:=t.n) O O (vO O (AL t)) y (by omega) r)];refine Eq.t q ?_;rw[bX,bX];rfl
  |false=>rw[h]at o;rw[oo (p:=λt:Th=>t.k.mk) (by rw[h];exact bq)]at f ⊢;obtain⟨j,q⟩:=GE (a:=a) (b:=b) (e:=e) l c d (.z (en t)) f (by omega) r;refine⟨j,?_⟩;simp only[vI o,uZ];exact q
def mD(T:List Th)(M:List Mk):L4.D:=.Q ((mP T M).map λq=>kS q.1) ((mP T M).map λq=>.int q.2)
def e8.ndK(g:e8 T M dk W):(vf T M).Nodup:=by unfold vf;have h:=cp.1 g.nd;refine cp.2 ⟨uy (jA.map _) h.1,h.2.1,λx b y c=>h.2.2 x ?_ y c⟩;obtain⟨t,a,rfl⟩:=au.1 b;exact cG (aY.1 a).1
def X8(g:e8 T M dk W):((mP T M).map λq=>kS q.1).Nodup:=by have:=DT g.ndK;rw[<-OP,aZ]at this;exact this
def UD(g:e8 T M dk W):zX [TD T,MD M]=Z (mD T M):=by
 have h:=X8 g;have B:=g.len;have C:=g.m4;have l:(mP T M).map (λq=>kS q.1)=(T.filter λt=>t.k.mk).map (λt=>kS t.n)++M.map λm=>kS m.n:=by unfold mP;rw[bu,aZ,aZ];rfl
 have d:(mP T M).map (λq=>D.int q.2)=(T.filter λt=>t.k.mk).map (λ_=>D.int 1)++M.map λm=>D.int m.mo:=by unfold mP;rw[bu,aZ,aZ];rfl
 rw[l]at h;have A:=cu (λt:Th=>t.k.mk) T;obtain⟨j,o⟩:=GE (a:=.z (TD T)) (b:=.z (MD M)) (e:=.un) T [] [] .un (by rw[bZ];exact(cp.1 h).1) (by simp;omega) O;rw[bZ,bZ]at o;obtain⟨w,r⟩:=Al (g:=gN 4) (i:=2) (fk:=c1 (uS vd "name") ay) (fv:=c1 (uS Au "most") ay) o3 Mk.n (λm=>.int m.mo) (λf c s=>[.z (TD T),.z (MD M),.dk f c,j,s])
  (λm f c s=>⟨[.z (TD T),.z (MD M),.dk f c,j,.z (o3 m)],O,vO O (Xi m),O,vO O (L9 m),λu p=>⟨_,O⟩⟩) M ((T.filter λt=>t.k.mk).map λt=>kS t.n) ((T.filter λt=>t.k.mk).map λ_=>.int 1) .un h (by rw[ah];omega) (by rw[ah,ah])
 refine uP (ρ:=[.z (TD T),.z (MD M),.z (mD T M),j,w]) O ?_;unfold zW;refine(uK (ρ':=[.z (TD T),.z (MD M),.dk [] [],.un,.un]) O).t ?_;refine(uK ((wm O).t o)).t ((uK ((wm O).t r)).t ?_);unfold mD;rw[l,d];rfl
def JO(T:List Th)(b:T.length<=1000)(ns:aF)(er:List L4.D)(k:Kd):zY [.obj 14 ("kept_things" ::ns) (TD T::er),.str k.s]=Z (.bt ((T.filter λt=>decide (t.k=k)).map λt=>D.str t.n)):=by let a:aQ:=[.z (.obj 14 ("kept_things" ::ns) (TD T::er)),.z (.str k.s)];refine Gh (ρ:=a) O ?_;exact xu (zl en (λt=>D.str t.n) (λt=>decide (t.k=k)) T (ρ1:=a) O b λt _=>⟨[.z (en t),.z (.str k.s)],[.z (en t),.z (.str k.s)],O,vZ (uW (vO O (AM t)) O (HI t.k k)),λ_=>⟨_,vO O (AL t),O⟩,λ_=>O⟩)
end
def vwD(V:List Vb):L4.D:=.Q (V.flatMap λv=>v.ws.map kS) (V.flatMap λv=>v.ws.map λ_=>j? v)
def p42:List (Nat×Nat):=(aU 6).flatMap λt=>(aU 7).map λn=>(t,n)
def abH(b:t<6)(a:n<7):(t,n)∈p42:=dR.2 ⟨t,bL.2 b,au.2 ⟨n,bL.2 a,O⟩⟩
def abI:(p42.map λq=>yF [VD (vL q.1 q.2++v9)])=p42.map λq=>Z (vwD (vL q.1 q.2++v9)):=by kernel_rfl
def adA(b:t<6)(a:n<7):yF [VD (vL t n++v9)]=Z (vwD (vL t n++v9)):=List.map_inj_left.1 abI (t,n) (abH b a)
theorem UE:∀V:List Vb,(V.flatMap λv=>v.ws.map kS).zip (V.flatMap λv=>v.ws.map λ_=>j? v)=V.flatMap λv=>v.ws.map λx=>(kS x,j? v)
 |[]=>rfl
 |v::V=>by rw[fw,fw,fw,lZ (by rw[ah,ah]),UE V,jO]
def Mj{V:List Vb}(b:(V.flatMap Vb.ws).Nodup)(a:v∈V):CG (vwD V) (.str v.n)=Z (j? v):=by
 show Z ((xk (V.flatMap λv=>v.ws.map kS) (V.flatMap λv=>v.ws.map λ_=>j? v) (kS v.n)).getD .E)=_;rw[Di (d:=j? v)]
 .rfl
 .have:=DT b;rw[List.map_flatMap]at this;exact this
 .rw[UE];exact dR.2 ⟨v,a,au.2 ⟨v.n,bb,O⟩⟩
def ts:aF:=["kept_things", "kept_marks", "kept_dark", "kept_ways", "kept_verbs", "shared_verbs", "your_name", "things_by_name", "mosts_by_name", "verbs_by_word", "kept_rules", "shared_rules", "copied_rules", "rules_by_verb"]
def gi(T:List Th)(M:List Mk)(dk:aF)(W:List Wy)(V:List Vb):L4.D:=.obj 14 (ts.take 10) [TD T,MD M,.bt (dk.map D.str),WD W,VD V,VD v9,.str "me", .Q (nK T) (T.map en),mD T M,vwD (V++v9)]
def o?:aF:=["one", "two", "alone", "way"]
def xL:aF:="here" ::nmL
def abJ:(o?.all λf=>xL.all λx=>isF (wc [.str f,.str x]))=γ:=by kernel_rfl
def Ld(a:f∈o?)(b:x∈xL):wc [.str f,.str x]=Z (.I δ):=OK (aS.1 (aS.1 abJ f a) x b)
def abK:(o?.all λf=>nmL.all λx=>isF (zw [.str f,.str x]))=γ:=by kernel_rfl
def X9(a:f∈o?)(b:x∈nmL):zw [.str f,.str x]=Z (.I δ):=OK (aS.1 (aS.1 abK f a) x b)
def UF(a:f∈o?):zw [.str f,.str "here"]=Z (.I γ):=CB (aS.1 (show (o?.all λf=>isT (zw [.str f,.str "here"]))=γ by kernel_rfl) f a)
def By(f x:Str):Prop:=(x="it" /\ f∈(["one", "two"]:aF))\/(x="other" /\ f="two")
def Ml(h:By f x):wc [.str f,.str x]=Z (.I γ):=by
 rcases h with ⟨rfl,h⟩|⟨rfl,rfl⟩
 .exact CB (aS.1 (show ((["one", "two"]:aF).all λf=>isT (wc [.str f,.str "it"]))=γ by kernel_rfl) f h)
 .kernel_rfl
def Tm(f:Str)(N:aF)(x:Str):Prop:=x∈N\/x="here" \/ By f x
section
variable{T:List Th}{M:List Mk}{dk:aF}{W:List Wy}{V:List Vb}{f:Str}
def UG(g:e8 T M dk W)(h:t∈T):t.n∈nmL:=g.nm _ (bF _ (cG h))
def adB(g:e8 T M dk W)(h:t∈T):wF [gi T M dk W V,.str t.n]=Z (en t):=by
 have e:wF [gi T M dk W V,.str t.n]=Z ((xk (nK T) (T.map en) (kS t.n)).getD .E):=by kernel_rfl
 rw[e,FY g.z? en h];rfl
def adC(g:e8 T M dk W)(h:q∈mP T M):xg [gi T M dk W V,.str q.1]=Z (.int q.2):=by
 have e:xg [gi T M dk W V,.str q.1]=Z ((xk ((mP T M).map λq=>kS q.1) ((mP T M).map λq=>.int q.2) (kS q.1)).getD .E):=by kernel_rfl
 rw[e,Di (d:=.int q.2) (X8 g)]
 .rfl
 .rw[jO];exact cG (f:=λq:Str×Int=>(kS q.1,D.int q.2)) h
def JP(h:c ρ=Z (γ,ρ1)):yr c e a ρ=e ρ1:=by unfold yr;rw[h]
def nmd(g:e8 T M dk W)(h:t∈T):z9 [gi T M dk W V,.str t.n]=Z (en t):=by let a:aQ:=[.z (gi T M dk W V),.z (.str t.n)];refine uP (ρ:=a) O (uR ?_);refine(JP (ρ1:=a) O).t ?_;exact vz (hh:=wF) (ys:=[.str t.n]) (ρ1:=a) (ρ2:=a) O O O O (adB g h)
def CC(g:e8 T M dk W)(d:f∈o?)(h:Tm f (T.map Th.n) x):BQ [gi T M dk W V,.str f,.str x]=Z (.I γ):=by
 let b:aQ:=[.z (gi T M dk W V),.z (.str f),.z (.str x)];refine uP (ρ:=b) O (uR ?_);rcases h with h|rfl|h
 .obtain⟨t,e,rfl⟩:=au.1 h;refine(FZ (uL (ρ1:=b) (ds:=[.str f,.str t.n]) O (Ld d (ba _ (UG g e))))).t ((FZ (uL (ρ1:=b) (ds:=[.str f,.str t.n]) O (X9 d (UG g e)))).t ?_);exact uW (uL (ρ1:=b) (ds:=[gi T M dk W V,.str t.n]) O (nmd g e)) O O
 .exact(FZ (uL (ρ1:=b) (ds:=[.str f,.str "here"]) O (Ld d bb))).t (Mi (uL (ρ1:=b) (ds:=[.str f,.str "here"]) O (UF d)))
 .exact Mi (uL (ρ1:=b) (ds:=[.str f,.str x]) O (Ml h))
def hd_T(h:x∈p? T):∃t∈T,t.n=x/\t.k.hd=γ:=by obtain⟨t,a,rfl⟩:=au.1 h;exact⟨t,(aY.1 a).1,O,(aY.1 a).2⟩
def F0(a:c ρ=Z (γ,ρ1)):ya c b ρ=Z (γ,ρ1):=by unfold ya;rw[a]
def HJ(g:e8 T M dk W)(j:f∈o?)(h:Tm f (p? T) x):Cj [gi T M dk W V,.str f,.str x]=Z (.I γ):=by
 let b:aQ:=[.z (gi T M dk W V),.z (.str f),.z (.str x)];refine uP (ρ:=b) O ?_;unfold EC;rcases h with h|rfl|h
 .obtain⟨t,l,rfl,p⟩:=hd_T h;refine(uK (ρ':=b) ((vI (ρ':=b) (zt (ρ1:=b) (vZ (uL (ds:=[.str f,.str t.n]) O (Ld j (ba _ (UG g l))))) (vZ (uL (ds:=[.str f,.str t.n]) O (X9 j (UG g l)))))).t O)).t (uR ?_);have e:=nmd (V:=V) g l;refine(vm (uW (uL (ρ1:=b) (ds:=[gi T M dk W V,.str t.n]) O e) O O)).t ?_;have o:=vz (g:=wa) (m:="can_hold") (hh:=zv) (a:=vB) (ys:=[]) (ρ1:=b) (ρ2:=b) (xs:=[.str t.n,.du (t.w.map D.str),.str t.k.s,oS t.s]) (uL (g:=z9) (a:=ax aa cy) (ρ:=b) (ρ1:=b) (ds:=[gi T M dk W V,.str t.n]) O e) O O O (L8 t);rw[p]at o;exact o
 .exact uU ((u4 (ρ':=b) (zt (ρ1:=b) (vZ (uL (ds:=[.str f,.str "here"]) O (Ld j bb))) (vZ (uL (ds:=[.str f,.str "here"]) O (UF j))))).t O)
 .exact uU ((u4 (ρ':=b) (F0 (vZ (uL (ds:=[.str f,.str x]) O (Ml h))))).t O)
def Ya(g:e8 T M dk W)(h:t∈T)(k:Kd):Aa [gi T M dk W V,.str t.n,.str k.s]=Z (.I (decide (t.k=k))):=by let a:aQ:=[.z (gi T M dk W V),.z (.str t.n),.z (.str k.s)];refine uP (ρ:=a) O (uR ?_);have e:=nmd (V:=V) g h;exact(vm (uW (uL (ρ1:=a) (ds:=[gi T M dk W V,.str t.n]) O e) O O)).t (uW (vO (uL (ρ1:=a) (ds:=[gi T M dk W V,.str t.n]) O e) (AM t)) O (HI t.k k))
def Mv(T:List Th)(f x:Str):Prop:=(∃t∈T,t.n=x/\t.k≠.room)\/By f x
def NJ(g:e8 T M dk W)(i:f∈o?)(h:Mv T f x):EE [gi T M dk W V,.str f,.str x]=Z (.I γ):=by
 let a:aQ:=[.z (gi T M dk W V),.z (.str f),.z (.str x)];refine uP (ρ:=a) O ?_;unfold ED;rcases h with ⟨t,d,rfl,j⟩|h
 .refine(uK (ρ':=a) ((vI (ρ':=a) (vZ (uL (ds:=[.str f,.str t.n]) O (Ld i (ba _ (UG g d)))))).t O)).t (uR ?_);refine(vm (uW (uL (ρ1:=a) (ds:=[gi T M dk W V,.str t.n]) O (nmd g d)) O O)).t ((Mg (uL (ρ1:=a) (ds:=[gi T M dk W V,.str t.n,.str Kd.room.s]) O (Ya g d .room))).t ?_);rw[aX j];rfl
 .exact uU ((u4 (ρ':=a) (vZ (uL (ds:=[.str f,.str x]) O (Ml h)))).t O)
def Mt(T:List Th)(M:List Mk)(f:Str)(q:Str×Int):Prop:=q∈mP T M\/(By f q.1/\q.2<=3)
def UH(g:e8 T M dk W)(h:q∈mP T M):q.1∈nmL:=by
 refine g.nm _ ?_;have a:q.1∈vf T M:=by rw[<-OP];exact cG h
 rcases aT.1 a with a|a
 .obtain⟨t,b,e⟩:=au.1 a;exact bF _ (by rw[<-e];exact cG (aY.1 b).1)
 .exact bx _ a
def En(g:e8 T M dk W)(p:f∈o?)(h:Mt T M f q)(t:0<=v)(o:v<=q.2):yH [gi T M dk W V,.str f,.str q.1,.int v]=Z (.I γ):=by
 let a:aQ:=[.z (gi T M dk W V),.z (.str f),.z (.str q.1),.z (.int v),.un];have l:cT (c2 HQ aw aP) a=Z (δ,a):=by show Z (decide (v<0),a)=_;rw[aX (by omega)]
 have j:fh (ya (wg (cT (uM Ay dN))) (cT (c2 HQ aw aP))) (uT bI) uZ a=Z (.nx a):=(vI (ρ':=a) (zt (ρ1:=a) (xV (b:=γ) (vZ (uL (ds:=[.int v]) O (by kernel_rfl)))) l)).t O;rcases h with h|⟨h,u⟩
 .let e:aQ:=[.z (gi T M dk W V),.z (.str f),.z (.str q.1),.z (.int v),.z (.int q.2)];refine uP (ρ:=e) O ?_;unfold yG;refine(uK j).t ((uK (ρ':=a) ((vI (ρ':=a) (vZ (uL (ds:=[.str f,.str q.1]) O (Ld p (ba _ (UH g h)))))).t O)).t ?_);have m:yr (cT (c1 (v5 (wL "str")) aj)) (vh wW "most_of" aa cy) aA a=Z (.int q.2,a):=by refine(JP (ρ1:=a) O).t ?_;exact vz (hh:=xg) (ys:=[.str q.1]) (ρ1:=a) (ρ2:=a) O O O O (adC g h)
  refine(uK (ρ':=e) ((uY m).t O)).t (uR ((vm (ρ1:=e) O).t (P6 (x:=v) (y:=q.2) O O o)))
 .refine uP (ρ:=a) O ?_;unfold yG;refine(uK j).t (uU ((u4 (ρ':=a) (vZ (uL (ds:=[.str f,.str q.1]) O (Ml h)))).t (uR (P6 (x:=v) (y:=3) O O (by omega)))))
def atO(a b:Str):L4.D:=.obj 3 ["term", "place"] [.str a,.str b]
def hsO(a:Str):L4.D:=.obj 4 ["term"] [.str a]
def seO(a:Str):L4.D:=.obj 5 ["term"] [.str a]
def mkO(a:Str)(v:Int):L4.D:=.obj 6 ["term", "value"] [.str a,.int v]
def kiO(a k:Str):L4.D:=.obj 7 ["term", "kind"] [.str a,.str k]
def woO(a:Str):L4.D:=.obj 8 ["word"] [.str a]
def noO(d:L4.D):L4.D:=.obj 9 ["inner"] [d]
def boO(d e:L4.D):L4.D:=.obj 10 ["one", "other"] [d,e]
def O'(a b:Str):L4.D:=.obj 11 ["term", "place"] [.str a,.str b]
def puO(a:Str)(v:Int):L4.D:=.obj 12 ["term", "value"] [.str a,.int v]
def liO:L4.D:=.obj 15 [] []
def Tk(w:L4.D)(f:Str)(n:Nat)(d:L4.D):Prop:=w? 16 14 d=γ/\∀j:Nat,n<j->j<=4->yV j [w,.str f,d,.int j]=Z (.I γ)
def UI(j:Nat):fh (cT (c2 (e? δ) aw aP)) (uT bI) uZ [.z w,a,b,.z (.int ((j+1:Nat):Int))]=Z (.nx [.z w,a,b,.z (.int ((j+1:Nat):Int))]):=
 (vI (vZ (uW (x:=.int ((j+1:Nat):Int)) (y:=.int 0) O O ((yE δ _ 0).t (by rw[aX (by omega:¬((j+1:Nat):Int)=0)];rfl))))).t O
def yS(c:v5 Up d=Z (.I δ))(e:v5 OI d=Z (.I δ))(i:w? 16 14 d=γ)(h:zZ [w,.str f,d]=Z (.I γ)):Tk w f n d:=⟨i,λj m _=>by
 obtain⟨j,rfl⟩:∃k,j=k+1:=⟨j - 1,by omega⟩;let b:aQ:=[.z w,.z (.str f),.z d,.z (.int ((j+1:Nat):Int))];refine uP (ρ:=b) O ?_;unfold yU;exact(uK (UI j)).t ((uK (ρ':=b) ((vI (ρ':=b) (vZ (vO O c))).t O)).t ((uK (ρ':=b) ((vI (ρ':=b) (vZ (vO O e))).t O)).t (uR (uL (ds:=[w,.str f,d]) O h))))⟩
def sub1(h:cV 3 ρ=Z (.int ((j+1:Nat):Int),ρ)):c2 IP aw aM ρ=Z (.int j,ρ):=(uW h O O).t (by
 show Z (D.int (((j+1:Nat):Int) - 1),ρ)=_;rw[show ((j+1:Nat):Int) - 1=j by omega])
def UJ(h:Tk w f n d):Tk w f (n+1) (noO d):=⟨by
 have e:w? 16 14 (noO d)=(w? 16 14 d&&γ):=by kernel_rfl
 rw[e,h.1];rfl,λj l i=>by
 obtain⟨j,rfl⟩:∃k,j=k+1:=⟨j - 1,by omega⟩;let a:aQ:=[.z w,.z (.str f),.z (noO d),.z (.int ((j+1:Nat):Int))];refine uP (ρ:=a) O ?_;unfold yU;refine(uK (UI j)).t (uU ((u4 (ρ':=a) O).t (uR ?_)));exact uL (ds:=[w,.str f,d,.int j]) (uJ O (uJ O (uJ O (uJ (sub1 O) O)))) (h.2 j (by omega) (by omega))⟩
def RG(h:Tk w f n d)(c:Tk w f n e):Tk w f (n+1) (boO d e):=⟨by
 have q:w? 16 14 (boO d e)=(w? 16 14 d&&(w? 16 14 e&&γ)):=by kernel_rfl
 rw[q,h.1,c.1];rfl,λj o m=>by
 obtain⟨j,rfl⟩:∃k,j=k+1:=⟨j - 1,by omega⟩;let a:aQ:=[.z w,.z (.str f),.z (boO d e),.z (.int ((j+1:Nat):Int))];refine uP (ρ:=a) O ?_;unfold yU;refine(uK (UI j)).t ((uK (ρ':=a) ((vI (ρ':=a) O).t O)).t (uU ((u4 (ρ':=a) O).t (uR ((vm (ρ1:=a) ?_).t ?_)))))
 .exact uL (ds:=[w,.str f,d,.int j]) (uJ O (uJ O (uJ O (uJ (sub1 O) O)))) (h.2 j (by omega) (by omega))
 .exact uL (ds:=[w,.str f,e,.int j]) (uJ O (uJ O (uJ O (uJ (sub1 O) O)))) (c.2 j (by omega) (by omega))⟩
end
section
variable{T:List Th}{M:List Mk}{dk:aF}{W:List Wy}{V:List Vb}{f:Str}{n:Nat}
def adD(g:e8 T M dk W)(d:f∈o?)(h:Tm f (T.map Th.n) a)(i:Tm f (p? T) b):Tk (gi T M dk W V) f n (atO a b):=yS O O O (by
 let c:aQ:=[.z (gi T M dk W V),.z (.str f),.z (atO a b)];refine uP (ρ:=c) O ?_;unfold wu;exact uU ((u4 (ρ':=c) O).t (uR ((vm (uL (ρ1:=c) (ds:=[gi T M dk W V,.str f,.str a]) O (CC g d h))).t (uL (ds:=[gi T M dk W V,.str f,.str b]) O (HJ g d i))))))
def vg(q:c ρ=Z (δ,ρ)):uO (fh c e uZ) h ρ=h ρ:=uK ((vI q).t O)
def abM(g:e8 T M dk W)(d:f∈o?)(c:Tm f (T.map Th.n) a):Tk (gi T M dk W V) f n (hsO a):=yS O O O (by
 let b:aQ:=[.z (gi T M dk W V),.z (.str f),.z (hsO a)];refine uP (ρ:=b) O ?_;unfold wu;exact(vg (ρ:=b) O).t (uU ((u4 (ρ':=b) O).t (uR (uL (ds:=[gi T M dk W V,.str f,.str a]) O (CC g d c))))))
def Xj(g:e8 T M dk W)(d:f∈o?)(c:Tm f (T.map Th.n) a):Tk (gi T M dk W V) f n (seO a):=yS O O O (by
 let b:aQ:=[.z (gi T M dk W V),.z (.str f),.z (seO a)];refine uP (ρ:=b) O ?_;unfold wu;exact(vg (ρ:=b) O).t (uU ((u4 (ρ':=b) O).t (uR (uL (ds:=[gi T M dk W V,.str f,.str a]) O (CC g d c))))))
def Xk(g:e8 T M dk W)(d:f∈o?)(h:Mt T M f q)(b:0<=v)(c:v<=q.2):Tk (gi T M dk W V) f n (mkO q.1 v):=yS O O O (by
 let a:aQ:=[.z (gi T M dk W V),.z (.str f),.z (mkO q.1 v)];refine uP (ρ:=a) O ?_;unfold wu;exact(vg (ρ:=a) O).t ((vg (ρ:=a) O).t (uU ((u4 (ρ':=a) O).t (uR (uL (ds:=[gi T M dk W V,.str f,.str q.1,.int v]) O (En g d h b c)))))))
def Xl(g:e8 T M dk W)(h:f∈o?)(e:Tm f (T.map Th.n) a)(i:k∈(["plain", "fixed", "box", "lamp", "room", "you"]:aF)):Tk (gi T M dk W V) f n (kiO a k):=yS O O O (by
 let b:aQ:=[.z (gi T M dk W V),.z (.str f),.z (kiO a k)];refine uP (ρ:=b) O ?_;unfold wu;have d:vQ [.str k,B9]=Z (.I γ):=CB (aS.1 (show ((["plain", "fixed", "box", "lamp", "room", "you"]:aF).all λx=>isT (vQ [.str x,B9]))=γ by kernel_rfl) k i);exact(vg (ρ:=b) O).t ((vg (ρ:=b) O).t ((vg (ρ:=b) O).t (uU ((u4 (ρ':=b) O).t (uR ((vm (uL (ρ1:=b) (ds:=[gi T M dk W V,.str f,.str a]) O (CC g h e))).t (uL (ds:=[.str k,B9]) O d))))))))
def Xm(c:x∈(["north", "up", "outside", "down"]:aF)):Tk w "way" n (woO x):=yS O O O (by
 let a:aQ:=[.z w,.z (.str "way"),.z (woO x)];refine uP (ρ:=a) O ?_;unfold wu;have b:yj [.str x]=Z (.I γ):=CB (aS.1 (show ((["north", "up", "outside", "down"]:aF).all λx=>isT (yj [.str x]))=γ by kernel_rfl) x c);exact(vg (ρ:=a) O).t ((vg (ρ:=a) O).t ((vg (ρ:=a) O).t ((vg (ρ:=a) O).t (uU ((u4 (ρ':=a) O).t (uR ((vm (ρ1:=a) O).t (uL (ds:=[.str x]) O b)))))))))
def UK:Tk w f n liO:=yS O O O (by kernel_rfl)
def Dd(w:L4.D)(f:Str)(d:L4.D):Prop:=w? 16 14 d=γ/\Gx [w,.str f,d]=Z (.I γ)
def abN(g:e8 T M dk W)(d:f∈o?)(h:Mt T M f q)(b:0<=v)(c:v<=q.2):Dd (gi T M dk W V) f (puO q.1 v):=⟨O,by
 let a:aQ:=[.z (gi T M dk W V),.z (.str f),.z (puO q.1 v)];refine uP (ρ:=a) O ?_;unfold DZ;exact uU ((u4 (ρ':=a) O).t (uR (uL (ds:=[gi T M dk W V,.str f,.str q.1,.int v]) O (En g d h b c))))⟩
def Qb(g:e8 T M dk W)(l:f∈o?)(p:Mv T f a)(q:Tm f (p? T) b)(r:a="me" -> ∃t∈T,t.n=b/\t.k=.room):Dd (gi T M dk W V) f (O' a b):=⟨O,by
 let c:aQ:=[.z (gi T M dk W V),.z (.str f),.z (O' a b)];have e:Gw [gi T M dk W V,.str f,O' a b]=Z (.I γ):=by
  refine uP (ρ:=c) O ?_;unfold Gv;refine(vg (ρ:=c) (zt (ρ1:=c) (xV (b:=γ) (vZ (uL (ds:=[gi T M dk W V,.str f,.str a]) O (NJ g l p)))) (xV (b:=γ) (vZ (uL (ds:=[gi T M dk W V,.str f,.str b]) O (HJ g l q)))))).t (uR ?_);have d:c2 (e? γ) (c1 (uS BK "term") aj) (vh Ah "you" aa vB) c=Z (.I (!decide (a="me")),c):=uW (x:=.str a) (y:=.str "me") O O (xx γ a "me");by_cases h:a="me"
  .obtain⟨t,u,m,o⟩:=r h;rw[aV h]at d;refine(FZ d).t (uL (ds:=[gi T M dk W V,.str b,.str Kd.room.s]) O ?_);rw[<-m,Ya g u .room,aV o]
  .rw[aX h]at d;exact Mi d
 refine uP (ρ:=c) O ?_;unfold DZ;exact(vg (ρ:=c) O).t (uR ((vm (ρ1:=c) O).t (uL (ds:=[gi T M dk W V,.str f,O' a b]) O e)))⟩
end
inductive Ts(T:List Th) (M:List Mk) (f:Str):Nat->L4.D->Prop
 |ats {n:Nat} {a b:Str} (ha:Tm f (T.map Th.n) a) (hb:Tm f (p? T) b):Ts T M f n (atO a b)
 |has {n:Nat} {a:Str} (ha:Tm f (T.map Th.n) a):Ts T M f n (hsO a)
 |seen {n:Nat} {a:Str} (ha:Tm f (T.map Th.n) a):Ts T M f n (seO a)
 |mark {n:Nat} {q:Str×Int} {v:Int} (h:Mt T M f q):Ts T M f n (mkO q.1 v)
 |kind {n:Nat} {a k:Str} (ha:Tm f (T.map Th.n) a):Ts T M f n (kiO a k)
 |word {n:Nat} {x:Str} (hf:f="way"):Ts T M f n (woO x)
 |lit {n:Nat}:Ts T M f n liO
 |no {n:Nat} {d:L4.D} (h:Ts T M f n d):Ts T M f (n+1) (noO d)
 |bo {n:Nat} {d e:L4.D} (h:Ts T M f n d) (h':Ts T M f n e):Ts T M f (n+1) (boO d e)
def Tq(T:List Th)(M:List Mk)(w:L4.D)(f:Str)(n:Nat)(d:L4.D):Prop:=Tk w f n d/\Ts T M f n d
inductive Ds(T:List Th) (M:List Mk) (f:Str):L4.D->Prop
 |put {q:Str×Int} {v:Int} (h:Mt T M f q):Ds T M f (puO q.1 v)
 |U? {a b:Str} (ha:Mv T f a) (hb:Tm f (p? T) b) (hm:a="me" -> ∃t∈T,t.n=b/\t.k=.room):Ds T M f (O' a b)
def Dq(T:List Th)(M:List Mk)(w:L4.D)(f:Str)(d:L4.D):Prop:=Dd w f d/\Ds T M f d
def zN(T:List Th)(e:T.length<=900)(a:aF)(p:Kd->Bool)(c:∀k:Kd,decide (k.s∈a)=p k):vx [TD T,.bt (a.map D.str)]=Z (((T.filter λt=>p t.k).map Th.n).map D.str):=by let K:L4.D:=.bt (a.map D.str);let b:aQ:=[.z (TD T),.z K];refine(Aq (ρ:=b) O (xu (zl en (λt=>D.str t.n) (λt=>p t.k) T (ρ1:=b) O (by omega) λt _=>⟨[.z (en t),.z K],[.z (en t),.z K],O,vZ (uW (x:=.str t.k.s) (y:=K) O O ((xC δ _ _).t (by rw[<-c t.k];rfl))),λ_=>⟨_,vO O (AL t),O⟩,λ_=>O⟩))).t ?_;rw[aZ];rfl
def JQ{P:Kd->Prop}(a:P .room)(b:P .you)(c:P .plain)(d:P .fixed)(e:P .box)(f:P .lamp):∀k,P k:=λk=>by cases k<;>assumption
def OQ:∀k:Kd,decide (k.s∈(["room"]:aF))=decide (k=.room):=JQ O O O O O O
def UM:∀k:Kd,decide (k.s∈(["room", "box", "you"]:aF))=k.hd:=JQ O O O O O O
def UN:∀k:Kd,decide (k.s∈(["box", "lamp"]:aF))=k.mk:=JQ O O O O O O
def n_pl:∀k:Kd,decide (k.s∈(["plain", "fixed", "box", "lamp"]:aF))=k.pl:=JQ O O O O O O
def eq_nil(h:zr ds=Z l)(hd:wK l<=19):e? δ (.bt ds) (.bt [])=Z (.I (decide (ds=[]))):=by
 cases ds with
 |nil=>rfl
 |cons x b=>
  rw[aX (List.cons_ne_nil x b)];obtain⟨y,a,rfl⟩:∃y a,l=y::a:=by
   unfold zr at h;split at h
   .split at h
    .cases h;exact⟨_,_,O⟩
    .cases h
   .cases h
  have c:J7 δ (.bt (x::b)) (.bt [])=J:=rfl;have d:rh (.bt (x::b))=Z (.bt (y::a)):=by unfold rh;rw[h]
  have e:lb (.bt (y::a))<=20:=by rw[lb];omega
  unfold e?;rw[c];show Ol δ _ _=_;unfold Ol;rw[d,show rh (.bt [])=Z (.bt []) from O];show (if Ph (.bt (y::a)) (.bt [])&&decide (lb (.bt (y::a))<=20)&&decide (lb (.bt [])<=20)then Z (D.I (nr (.bt (y::a)) (.bt [])))else J)=_;rw[aV e];rfl
theorem GF:∀l:aF,zr (l.map D.str)=Z (l.map L3.Dq.str)/\wK (l.map L3.Dq.str)=0
 |[]=>⟨O,O⟩
 |x::l=>by obtain⟨a,b⟩:=GF l;rw[aJ,aJ];refine⟨by unfold zr;rw[a];rfl,by unfold wK;rw[b];unfold lb;rfl⟩
def pD(q:Str×Int):L4.D:=.du [.str q.1,.int q.2]
theorem NK:∀l:List (Str×Int),∃m,zr (l.map pD)=Z m/\wK m<=1
 |[]=>⟨[],O,by decide⟩
 |x::l=>by obtain⟨m,a,b⟩:=NK l;refine⟨.du [.str x.1,.int x.2]::m,by rw[aJ];unfold zr;rw[a];rfl,?_⟩;unfold wK;exact Nat.max_le.2 ⟨aO 1,b⟩
def UO(h:vT f)(a b:Sl)(L:List L4.D)(j:L≠[])(l:L.length<=1000):∃d∈L,∃c,(uT (c2 f3 aw (vH uN 0 gv))) [.pm f,a,b,.z (.bt L)]=Z (.rt d [.pm c,a,b,.z (.bt L)])/\vT c:=by obtain⟨d,hd,c,e,q⟩:=pk (i:=0) (e:=cV 3) (a:=c1 wU aw) (L:=L) (λf=>[.pm f,a,b,.z (.bt L)]) (λ_=>O) (λ_ _=>O) O O h j l;exact⟨d,hd,c,uR e,q⟩
def Qc(h:vT es)(j:f∈o?)(N:aF)(C:N.length<=100):∃x a,wX es [.str f,.bt (N.map D.str)]=Z (.str x,a)/\vT a/\Tm f N x:=by
 let A:List L4.D:=N.map D.str;have lA:A.length<=100:=by show (N.map D.str).length<=100;rw[ah];exact C
 let b:List L4.D:=A++[.str "here"];let c:List L4.D:=b++[.str "it", .str "it"];let L2:List L4.D:=c++[.str "other", .str "other"];have I:b.length<=101:=by show (A++_).length<=101;rw[aE];show A.length+1<=101;omega
 have M:c.length<=103:=by show (b++_).length<=103;rw[aE];show b.length+2<=103;omega
 have P:L2.length<=105:=by show (c++_).length<=105;rw[aE];show c.length+2<=105;omega
 have p:∀{f},∀d∈b,∃x,d=.str x/\Tm f N x:=λd hd=>by
  rcases aT.1 hd with hd|hd
  .obtain⟨x,o,rfl⟩:=au.1 hd;exact⟨x,O,.inl o⟩
  .exact⟨"here", bj.1 hd,.inr (.inl O)⟩
 have r:∀{f},f∈(["one", "two"]:aF)->∀d∈c,∃x,d=.str x/\Tm f N x:=λj d hd=>by
  rcases aT.1 hd with hd|hd
  .exact p d hd
  .refine⟨"it", ?_,.inr (.inr (.inl ⟨O,j⟩))⟩;simpa using hd
 have G:∀d∈L2,∃x,d=.str x/\Tm "two" N x:=λd hd=>by
  rcases aT.1 hd with hd|hd
  .exact r (by simp) d hd
  .refine⟨"other", ?_,.inr (.inr (.inr ⟨O,O⟩))⟩;simpa using hd
 have m:∀F:Sl,vc 3 (cL (xq aj (cL (vp j8)))) [.pm es,F,.z (.bt A),.un]=Z (.nx [.pm es,F,.z (.bt A),.z (.bt b)]):=λF=>(uY (vP (w6 (xs:=A) (ys:=[.str "here"]) (ρ1:=[.pm es,F,.z (.bt A),.un]) O O (by show A.length+1<=1000;omega)))).t O;have t:∀F:Sl,vc 3 (cL (xq aw (cL (vp (ax cg ji))))) [.pm es,F,.z (.bt A),.z (.bt b)]=Z (.nx [.pm es,F,.z (.bt A),.z (.bt c)]):=λF=>(uY (vP (w6 (xs:=b) (ys:=[.str "it", .str "it"]) (ρ1:=[.pm es,F,.z (.bt A),.z (.bt b)]) O O (by show b.length+2<=1000;omega)))).t O;have fin:∀(F:Sl) (L:List L4.D),(∀d∈L,∃x,d=.str x/\Tm f N x)->L≠[]->L.length<=1000->(ye [.pm es,F,.z (.bt A),.un]=(uT (c2 f3 aw (vH uN 0 gv))) [.pm es,F,.z (.bt A),.z (.bt L)])->(.z (.str f)=F)->∃x a,wX es [.str f,.bt (N.map D.str)]=Z (.str x,a)/\vT a/\Tm f N x:=λF L E B hL e eF=>by obtain⟨d,hd,a,z,q⟩:=UO h F (.z (.bt A)) L B hL;obtain⟨x,rfl,o⟩:=E d hd;subst eF;exact⟨x,a,Be (ρ:=[.pm a,.z (.str f),.z (.bt A),.z (.bt L)]) O (e.t z) O,q,o⟩
 have l:∀(X:List L4.D) (y:L4.D) (Y:List L4.D),X++y::Y≠[]:=λX y Y=>by simp
 simp only[o?,aL,cA,or_false]at j;rcases j with rfl|rfl|rfl|rfl
 .refine fin _ c (r (by simp)) (l _ _ _) (by omega) ?_ O;unfold ye;exact(uK (m _)).t ((uK ((u4 O).t (t _))).t (vg O))
 .refine fin _ L2 G (l _ _ _) (by omega) ?_ O;unfold ye;refine(uK (m _)).t ((uK ((u4 O).t (t _))).t (uK ((u4 (ρ':=[.pm es,.z (.str "two"),.z (.bt A),.z (.bt c)]) O).t ?_)));exact(uY (vP (w6 (xs:=c) (ys:=[.str "other", .str "other"]) (ρ1:=[.pm es,.z (.str "two"),.z (.bt A),.z (.bt c)]) O O (by show c.length+2<=1000;omega)))).t O
 .refine fin _ b p (l _ _ _) (by omega) ?_ O;unfold ye;exact(uK (m _)).t ((vg O).t (vg O))
 .refine fin _ b p (l _ _ _) (by omega) ?_ O;unfold ye;exact(uK (m _)).t ((vg O).t (vg O))
def ixs(h:vT es)(o:L≠[])(y:L.length<=1000)(c:xa ρ i=Z es)(w:xa ρ j=Z L)(u:cV j (ρ.map Sl.W2)=Z (.bt L,ρ.map Sl.W2))(hne:∀a,xa (putAt ρ i a) j=Z L):
  ∃d∈L,∃a,vT a/\M0 j (vH uN i (a1 (AR (c1 wU (cV j))))) ρ=Z (d,putAt ρ i a):=by
 have z:0<L.length:=oZ.2 o;obtain⟨r,a,t,q,x,p⟩:=NF h (b:=L.length) (by omega) (by omega);obtain⟨m,rfl⟩:=cE q;have e:m<L.length:=by omega
 refine⟨L[m],fz e,a,p,?_⟩;have f:AR (c1 wU (cV j)) ρ=Z (.int L.length,ρ):=IV (vO u O) O;have l:vH uN i (a1 (AR (c1 wU (cV j)))) ρ=Z (.int m,putAt ρ i a):=yL c (uJ f O) c t;unfold M0;rw[w];simp only[l,hne a];rw[show A' L (m:Int)=Z L[m] from DN (bh e)]
def mE:FS:=(uO (fh (z5 (cT (c2 (e? δ) ay (cL (vp vB))))) (uT aA) uZ)
 (uT (M0 4 (vH uN 0 (a1 (AR (c1 wU ay)))))))
def adE(h:vT es)(a b c:Sl)(L:List (Str×Int))(u:L.length<=1000):∃r f s,mE [.pm es,a,b,c,.O (L.map pD)]=Z (.rt r [.pm f,a,b,c,s])/\vT f/\(r=.E\/∃q∈L,r=pD q):=by
 let o:aQ:=[.pm es,a,b,c,.O (L.map pD)];obtain⟨m,z,A⟩:=NK L;have l:z5 (cT (c2 (e? δ) ay (cL (vp vB)))) o=Z (decide (L.map pD=[]),o):=Pu (vZ (uW (x:=.bt (L.map pD)) (y:=.bt []) O O (eq_nil z (by omega))));unfold mE;by_cases p:L.map pD=[]
 .rw[aV p]at l;exact⟨.E,es,_,uU ((u4 l).t O),h,.inl O⟩
 .rw[aX p]at l;obtain⟨d,hd,f,q,e⟩:=ixs (ρ:=o) (i:=0) (j:=4) h p (by rw[ah];exact u) O O O (λ_=>O);obtain⟨t,w,rfl⟩:=au.1 hd;exact⟨pD t,f,_,(vg l).t (uR e),q,.inr ⟨t,w,O⟩⟩
section
variable{T:List Th}{M:List Mk}{dk:aF}{W:List Wy}{V:List Vb}{f:Str}{es:List L4.D}
def F1(g:e8 T M dk W)(p:f∈o?)(h:vT es):∃r b,wH es [.str f,TD T,MD M]=Z (r,b)/\vT b/\(r=.E\/∃q:Str×Int,r=pD q/\Mt T M f q/\0<=q.2/\q.2<=3):=by
 have P:=g.len;have Q:=g.m4;let K:=T.filter λt=>t.k.mk;have lK:K.length<=13:=bD (cu _ _) P;let c:List (Str×Int):=M.map (λm=>(m.n,m.mo))++K.map λt=>(t.n,1);have l0:c.length<=17:=by show (dh (_++_))<=17;rw[aE,ah,ah];omega
 let A:Sl:=.z (TD T);let B:Sl:=.z (MD M);have j:∀{f},∀q∈c,Mt T M f q/\0<=q.2/\q.2<=3:=λq a=>by
  rcases aT.1 a with a|a
  .obtain⟨m,w,rfl⟩:=au.1 a;obtain⟨Y,N,_⟩:=g.mo m w;exact⟨.inl (bx _ (au.2 ⟨m,w,O⟩)),by show 0<=m.mo;omega,N⟩
  .obtain⟨t,S,rfl⟩:=au.1 a;exact⟨.inl (bF _ (au.2 ⟨t,S,O⟩)),(by decide:(0:Int)<=1),(by decide:(1:Int)<=3)⟩
 have y:∀F:Sl,yw 4 (xq (cL (uX 1 [] (iL aw) (gN 0) vN (vC nu))) (cL (uX 1 [] (iL (cL (vK vx nT))) (gN 0) vN (vC kq)))) [.pm es,F,A,B,.un]=Z (.nx [.pm es,F,A,B,.O (c.map pD)]):=λF=>by
  let l:aQ:=[.pm es,F,A,B,.un];have z:cL (uX 1 [] (iL aw) (gN 0) vN (vC nu)) l=Z (.bt (M.map λm=>pD (m.n,m.mo)),l):=vP (xH o3 (λm=>pD (m.n,m.mo)) M O (by omega) λm _=>⟨[.z (o3 m)],[.z (o3 m)],O,O,O⟩);have C:cL (uX 1 [] (iL (cL (vK vx nT))) (gN 0) vN (vC kq)) l=Z (.bt (K.map λt=>pD (t.n,1)),l):=by refine(vP (xH D.str (λx=>pD (x,1)) (K.map Th.n) (ρ1:=l) ?_ (by rw[ah];omega) λx _=>⟨[.z (.str x)],[.z (.str x)],O,O,O⟩)).t (by rw[aZ];rfl);unfold iL;rw[vP (uL (g:=vx) (ds:=[TD T,.bt ((["box", "lamp"]:aF).map D.str)]) (ρ1:=l) O (zN T (by omega) ["box", "lamp"] Kd.mk UN))]
  refine(Ie (w6 z C (by rw[ah,ah];omega))).t ?_;show Z (tf.nx [.pm es,F,A,B,.O (M.map (λm=>pD (m.n,m.mo))++K.map λt=>pD (t.n,1))])=_;rw[show c.map pD=M.map (λm=>pD (m.n,m.mo))++K.map λt=>pD (t.n,1) by show dH pD (_++_)=_;rw[bu,aZ,aZ];rfl]
 let i:List (Str×Int):=c++([("it", 3),("it", 1)]:List (Str×Int));have l1:i.length<=19:=by show (c++_).length<=19;rw[aE];show c.length+2<=19;omega
 have G:∀F:Sl,yw 4 (xq (D' 4) (cL (vp se))) [.pm es,F,A,B,.O (c.map pD)]=Z (.nx [.pm es,F,A,B,.O (i.map pD)]):=λF=>by refine(Ie (w6 (xs:=c.map pD) (ys:=[pD ("it", 3),pD ("it", 1)]) (ρ1:=[.pm es,F,A,B,.z (.bt (c.map pD))]) O O (by rw[ah];show c.length+2<=1000;omega))).t ?_;show Z (tf.nx [.pm es,F,A,B,.O (c.map pD++[pD ("it", 3),pD ("it", 1)])])=_;rw[show i.map pD=c.map pD++[pD ("it", 3),pD ("it", 1)] by show dH pD (_++_)=_;rw[bu];rfl]
 have u:∀{f},f∈(["one", "two"]:aF)->∀q∈i,Mt T M f q/\0<=q.2/\q.2<=3:=λp q a=>by
  rcases aT.1 a with a|a
  .exact j q a
  .simp only[aL,cA,or_false]at a;rcases a with rfl|rfl
   .exact⟨.inr ⟨.inl ⟨O,p⟩,by decide⟩,by decide,by decide⟩
   .exact⟨.inr ⟨.inl ⟨O,p⟩,by decide⟩,by decide,by decide⟩
 let L2:List (Str×Int):=i++([("other", 3)]:List (Str×Int));have l2:L2.length<=20:=by show (i++_).length<=20;rw[aE];show i.length+1<=20;omega
 have fin:∀L:List (Str×Int),(∀q∈L,Mt T M f q/\0<=q.2/\q.2<=3)->L.length<=1000->(wG [.pm es,.z (.str f),A,B,.un]=mE [.pm es,.z (.str f),A,B,.O (L.map pD)])->∃r b,wH es [.str f,TD T,MD M]=Z (r,b)/\vT b/\(r=.E\/∃q:Str×Int,r=pD q/\Mt T M f q/\0<=q.2/\q.2<=3):=λL w hL e=>by
  obtain⟨r,b,s,H,q,R⟩:=adE h (.z (.str f)) A B L hL;refine⟨r,b,Be (ρ:=[.pm b,.z (.str f),A,B,s]) O (e.t H) O,q,?_⟩;rcases R with rfl|⟨E,a,rfl⟩
  .exact .inl O
  .exact .inr ⟨E,O,w E a⟩
 simp only[o?,aL,cA,or_false]at p;rcases p with rfl|rfl|rfl|rfl
 .refine fin i (u (by simp)) (by omega) ?_;unfold wG;exact(uK (y _)).t ((uK ((u4 O).t (G _))).t (vg O))
 .refine fin L2 (λq a=>?_) (by omega) ?_
  .rcases aT.1 a with a|a
   .exact u (by simp) q a
   .rw[bj.1 a];exact⟨.inr ⟨.inr ⟨O,O⟩,by decide⟩,by decide,by decide⟩
  .unfold wG;refine(uK (y _)).t ((uK ((u4 O).t (G _))).t (uK ((u4 (ρ':=[.pm es,.z (.str "two"),A,B,.O (i.map pD)]) O).t ((wj (Dc (es0:=i.map pD) (es:=i.map pD) (ρ1:=[.pm es,.z (.str "two"),A,B,.O (i.map pD)]) (d:=pD ("other", 3)) O O O (by rw[ah];omega))).t ?_))));show Z (tf.nx [.pm es,.z (.str "two"),A,B,.O (i.map pD++[pD ("other", 3)])])=_;rw[show L2.map pD=i.map pD++[pD ("other", 3)] by show dH pD (_++_)=_;rw[bu];rfl]
 .refine fin c j (by omega) ?_;unfold wG;exact(uK (y _)).t ((vg O).t (vg O))
 .refine fin c j (by omega) ?_;unfold wG;exact(uK (y _)).t ((vg O).t (vg O))
def UP(h:vT es)(a b c:Sl)(s:aQ)(q:Str×Int)(m:0<=q.2)(o:q.2<=3):∃v j,vH uN 0 sg (.pm es::a::b::c::.z (pD q)::s)=Z (.int v,.pm j::a::b::c::.z (pD q)::s)/\vT j/\0<=v/\v<=q.2:=by obtain⟨d,j,e,l,p,q3⟩:=M' (i:=0) (b:=q.2+1) (a:=c2 wR (c2 f3 ay aM) aM) (λes=>.pm es::a::b::c::.z (pD q)::s) (λ_=>O) (λ_ _=>O) O h (by omega) (by omega);exact⟨d,j,e,q3,l,by omega⟩
def RH(g:e8 T M dk W)(i:f∈o?)(h:vT es):∃d a,Bv es [.str f,TD T,MD M]=Z (d,a)/\vT a/\∀n,Tq T M (gi T M dk W V) f n d:=by
 obtain⟨r,b,y,e,t⟩:=F1 g i h;let F:Sl:=.z (.str f);let A:Sl:=.z (TD T);let B:Sl:=.z (MD M);have l:vc 4 (vH wH 0 dv) [.pm es,F,A,B,.un]=Z (.nx [.pm b,F,A,B,.z r]):=(uY (yL (es0:=es) (es:=es) (ds:=[.str f,TD T,MD M]) (ρ1:=[.pm es,F,A,B,.un]) O O O y)).t O;rcases t with rfl|⟨q,rfl,j,u,q3⟩
 .refine⟨liO,b,Be (ρ:=[.pm b,F,A,B,.z .E]) O ?_ O,e,λn=>⟨UK,.lit⟩⟩;unfold zE;exact(uK l).t (uU ((u4 O).t O))
 .obtain⟨v,c,z,p,w,x⟩:=UP e F A B [] q u q3;refine⟨mkO q.1 v,c,Be (ρ:=[.pm c,F,A,B,.z (pD q)]) O ?_ O,p,λn=>⟨Xk g i j w x,.mark j⟩⟩;unfold zE;exact(uK l).t ((vg O).t (uR (xy (ds:=[.str q.1,.int v]) (uJ O (uJ z O)) O)))
end
section
variable{T:List Th}{M:List Mk}{dk:aF}{W:List Wy}{V:List Vb}{f:Str}{es:List L4.D}
def abO(n:Nat):∃b:Int,(b=8\/(b=10/\∃m,n=m+1))/\∀ρ:aQ,cV 4 ρ=Z (.int (n:Nat),ρ)->c2 wR eh (c2 xB b0 (c1 IS (c2 LL ay aP))) ρ=Z (.int b,ρ):=by
 have a:∀ρ:aQ,cV 4 ρ=Z (.int (n:Nat),ρ)->c2 LL ay aP ρ=Z (.I (decide ((0:Int)<(n:Nat))),ρ):=λρ h=>uW h O O;cases n with
 |zero=>exact⟨8,.inl O,λρ h=>uW (x:=.int 8) (y:=.int 0) O (uW (x:=.int 2) (y:=.int 0) O (vO (x:=.I δ) (a ρ h) O) O) O⟩
 |succ m=>exact⟨10,.inr ⟨O,m,O⟩,λρ h=>uW (x:=.int 8) (y:=.int 2) O (uW (x:=.int 2) (y:=.int 1) O (vO (x:=.I γ) ((a ρ h).t (by rw[aV (by omega)])) O) O) O⟩
def OR(L:aF)(st:List L4.D->aQ)(p:∀es,xa (st es) i=Z es)(r:∀es b,putAt (st es) i b=st b)(o:e (st es)=Z (.bt (L.map D.str),st es))(t:vT es)(m:c=L.length)(h:0<L.length)(l:L.length<=1000):∃x∈L,∃b,c2 f3 e (vH uN i (a1 (cC (.int c)))) (st es)=Z (.str x,st b)/\vT b:=by subst m;obtain⟨d,hd,b,j,q⟩:=pk (L:=L.map D.str) (a:=cC (.int L.length)) st p r o (by rw[ah];rfl) t (λz=>by rw[kY]at z;rw[z]at h;exact aq h (eO _)) (by rw[ah];exact l);obtain⟨x,u,rfl⟩:=au.1 hd;exact⟨x,u,b,j,q⟩
def Le(g:e8 T M dk W)(hf:f∈o?)(n:Nat)(gf:List L4.D->List L4.D->Option (L4.D×List L4.D))(hg:∀m,n=m+1->∀es,vT es->∃d j,gf es [.str f,TD T,MD M,.int (m:Nat)]=Z (d,j)/\vT j/\Tq T M (gi T M dk W V) f m d)(h:vT es):
  ∃d j,t? 4 10 (vX gf) es [.str f,TD T,MD M,.int (n:Nat)]=Z (d,j)/\vT j/\Tq T M (gi T M dk W V) f n d:=by
 have hl:=g.len;let F:Sl:=.z (.str f);let A:Sl:=.z (TD T);let B:Sl:=.z (MD M);let N:Sl:=.z (.int (n:Nat));let P:L4.D:=.bt ((T.map Th.n).map D.str);let H:L4.D:=.bt ((p? T).map D.str);have lP:(T.map Th.n).length<=100:=by rw[ah];omega
 have lH:(p? T).length<=100:=by unfold p?;rw[ah];exact bD (cu _ _) (by omega)
 obtain⟨b,hb,eb⟩:=abO n;obtain⟨k,r,x1,k0,k1,G⟩:=M' (i:=0) (a:=c2 wR eh (c2 xB b0 (c1 IS (c2 LL ay aP)))) (b:=b) (λes=>[.pm es,F,A,B,N,.z P,.z H,.un,.un,.un]) (λ_=>O) (λ_ _=>O) (eb _ O) h (by omega) (by omega);let l:List L4.D->Sl->aQ:=λes s=>[.pm es,F,A,B,N,.z P,.z H,.z (.int k),s,.un];have pre:∀t:FS,(uO (vc 5 (cL (uX 1 [] (iL aj) (gN 0) vN (c1 (uS vd "name") aa))))
   (uO (vc 6 (cL (vK vx nz)))
   (uO (vc 7 (vH uN 0 rU)) t)):FS) [.pm es,F,A,B,N,.un,.un,.un,.un,.un]=t (l r .un):=λt=>by
  refine(uK (ρ':=[.pm es,F,A,B,N,.z P,.un,.un,.un,.un]) ((uY (vP ((xH en (λt=>D.str t.n) T (ρ1:=[.pm es,F,A,B,N,.un,.un,.un,.un,.un]) O (by omega) λt _=>⟨[.z (en t)],[.z (en t)],O,O,O⟩).t (by rw[show (T.map λt=>D.str t.n)=(T.map Th.n).map D.str by rw[aZ];rfl])))).t O)).t ?_;refine(uK (ρ':=[.pm es,F,A,B,N,.z P,.z H,.un,.un,.un]) ((uY (vP (uL (g:=vx) (ds:=[TD T,.bt ((["room", "box", "you"]:aF).map D.str)]) (ρ1:=[.pm es,F,A,B,N,.z P,.un,.un,.un,.un]) O (zN T (by omega) ["room", "box", "you"] Kd.hd UM)))).t O)).t ?_;exact uK ((uY x1).t O)
 have tm:∀{es} (i:Nat) (L:aF) (s:Sl),vT es->L.length<=100->(∀es,cV i (l es s)=Z (.bt (L.map D.str),l es s))->∃x j,vH wX 0 (ax ag (a1 (cV i))) (l es s)=Z (.str x,l j s)/\vT j/\Tm f L x:=λ{es} i L s h hL hi=>by obtain⟨x,j,e,q,w⟩:=Qc h hf L hL;exact⟨x,j,(yL (es0:=es) (es:=es) (ds:=[.str f,.bt (L.map D.str)]) (ρ1:=l es s) O (uJ O (uJ (hi es) O)) O e).t O,q,w⟩
 have lt:∀(c:Int) (s:Sl),cT (c2 HQ bJ (cC (.int c))) (l r s)=Z (decide (k<c),l r s):=λc s=>O;have eq:∀(c:Int) (s:Sl),cT (c2 (e? δ) bJ (cC (.int c))) (l r s)=Z (decide (k=c),l r s):=λc s=>vZ (uW (x:=.int k) (y:=.int c) O O (yE δ k c));have fin:∀{d j} {s s':Sl},(vX gf [.pm es,F,A,B,N,.un,.un,.un,.un,.un]=Z (.rt d [.pm j,F,A,B,N,.z P,.z H,.z (.int k),s,s']))->vT j->Tq T M (gi T M dk W V) f n d->∃d j,t? 4 10 (vX gf) es [.str f,TD T,MD M,.int (n:Nat)]=Z (d,j)/\vT j/\Tq T M (gi T M dk W V) f n d:=λ{d j s s'} e q t=>⟨d,j,Be (ρ:=[.pm j,F,A,B,N,.z P,.z H,.z (.int k),s,s']) O e O,q,t⟩;by_cases c1:k<2
 .obtain⟨x,e2,C,u,w⟩:=tm 5 _ .un G lP (λ_=>O);obtain⟨y,e3,X,U,hy⟩:=tm 6 _ .un u lH (λ_=>O);refine fin (s:=.un) (s':=.un) ?_ U ⟨adD g hf w hy,.ats w hy⟩;unfold vX;exact(pre _).t (uU ((u4 ((lt 2 .un).t (by rw[aV c1]))).t (uR (xy (ds:=[.str x,.str y]) (uJ C (uJ X O)) O))))
 have Q:cT (c2 HQ bJ b0) (l r .un)=Z (δ,l r .un):=(lt 2 .un).t (by rw[aX c1]);have o:∀c:Int,k≠c->cT (c2 (e? δ) bJ (cC (.int c))) (l r .un)=Z (δ,l r .un):=λc hc=>(eq c .un).t (by rw[aX hc]);have Y:∀c:Int,k=c->cT (c2 (e? δ) bJ (cC (.int c))) (l r .un)=Z (γ,l r .un):=λc hc=>(eq c .un).t (by rw[aV hc]);by_cases c2:k=2
 .obtain⟨x,e2,C,u,w⟩:=tm 5 _ .un G lP (λ_=>O);refine fin (s:=.un) (s':=.un) ?_ u ⟨abM g hf w,.has w⟩;unfold vX;exact(pre _).t ((vg Q).t (uU ((u4 (Y 2 c2)).t (uR (xy (ds:=[.str x]) (uJ C O) O)))))
 by_cases R:k=3
 .obtain⟨x,e2,C,u,w⟩:=tm 5 _ .un G lP (λ_=>O);refine fin (s:=.un) (s':=.un) ?_ u ⟨Xj g hf w,.seen w⟩;unfold vX;exact(pre _).t ((vg Q).t ((vg (o 2 c2)).t (uU ((u4 (Y 3 R)).t (uR (xy (ds:=[.str x]) (uJ C O) O))))))
 by_cases c4:k=4
 .let kl:aF:=["plain", "fixed", "box", "lamp", "room", "you"];let S:Sl:=.z (.bt (kl.map D.str));obtain⟨x,e2,C,u,w⟩:=tm 5 _ S G lP (λ_=>O);obtain⟨y,hy,e3,X,U⟩:=OR (i:=0) (c:=6) (e:=cV 8) kl (λes=>l es S) (λ_=>O) (λ_ _=>O) O u O (by decide) (by decide);refine fin (s:=S) (s':=.un) ?_ U ⟨Xl g hf w hy,.kind w⟩;unfold vX;exact(pre _).t ((vg Q).t ((vg (o 2 c2)).t ((vg (o 3 R)).t (uU ((u4 (Y 4 c4)).t ((uK (ρ':=l r S) O).t (uR (xy (ds:=[.str x,.str y]) (uJ C (uJ X O)) O))))))))
 by_cases c5:k=5
 .refine fin (s:=.un) (s':=.un) ?_ G ⟨UK (f:=f),.lit⟩;unfold vX;exact(pre _).t ((vg Q).t ((vg (o 2 c2)).t ((vg (o 3 R)).t ((vg (o 4 c4)).t (uU ((u4 (Y 5 c5)).t O))))))
 have wq:∀p:Prop,∀[Decidable p],(f="way" ↔ p)->cT (L4.c2 (e? δ) ag dM) (l r .un)=Z (decide p,l r .un):=λp _ hp=>(vZ (uW (x:=.str f) (y:=.str "way") O O (xx δ f "way"))).t (by simp[hp]);by_cases c6:k=6/\f="way"
 .obtain⟨ck,cf⟩:=c6;let wl:aF:=["north", "up", "outside", "down"];obtain⟨y,hy,e3,X,U⟩:=OR (i:=0) (c:=4) (e:=cL (vp rE)) wl (λes=>l es .un) (λ_=>O) (λ_ _=>O) O G O (by decide) (by decide);refine fin (s:=.un) (s':=.un) ?_ U ⟨by rw[cf];exact Xm hy,.word cf⟩;unfold vX;refine(pre _).t ((vg Q).t ((vg (o 2 c2)).t ((vg (o 3 R)).t ((vg (o 4 c4)).t ((vg (o 5 c5)).t (uU ((u4 (ρ':=l r .un) ?_).t (uR (xy (ds:=[.str y]) (uJ X O) O)))))))));unfold wN;rw[Y 6 ck];exact(wq True (by simp[cf])).t O
 have q6:wN (cT (L4.c2 (e? δ) bJ ib)) (cT (L4.c2 (e? δ) ag dM)) (l r .un)=Z (δ,l r .un):=by
  unfold wN;by_cases ck:k=6
  .rw[Y 6 ck];exact(wq False (by simpa using λz=>c6 ⟨ck,z⟩)).t O
  .rw[o 6 ck]
 by_cases c7:k<8
 .obtain⟨d,e2,C,u,hd⟩:=RH (V:=V) g hf G;refine fin (s:=.un) (s':=.un) ?_ u (hd n);unfold vX;exact(pre _).t ((vg Q).t ((vg (o 2 c2)).t ((vg (o 3 R)).t ((vg (o 4 c4)).t ((vg (o 5 c5)).t ((vg q6).t (uU ((u4 ((lt 8 .un).t (by rw[aV c7]))).t (uR ((yL (es0:=r) (es:=r) (ds:=[.str f,TD T,MD M]) (ρ1:=l r .un) O O O C).t O))))))))))
 obtain⟨m,rfl⟩:∃m,n=m+1:=by
  rcases hb with rfl|⟨_,h⟩
  .exact aq k1 (by omega)
  .exact h
 have q7:cT (L4.c2 HQ bJ eh) (l r .un)=Z (δ,l r .un):=(lt 8 .un).t (by rw[aX c7]);have rec_:∀{es} (s':Sl),vT es->∃d j,vH gf 0 (ax ag (ax aj (ax aw (a1 (L4.c2 IP ay aM))))) [.pm es,F,A,B,N,.z P,.z H,.z (.int k),.un,s']=Z (d,[.pm j,F,A,B,N,.z P,.z H,.z (.int k),.un,s'])/\vT j/\Tq T M (gi T M dk W V) f m d:=λ{es} s' h=>by
  obtain⟨d,j,e,q,t⟩:=hg m O es h;have e4:L4.c2 IP ay aM [.pm es,F,A,B,N,.z P,.z H,.z (.int k),.un,s']=Z (.int (m:Nat),[.pm es,F,A,B,N,.z P,.z H,.z (.int k),.un,s']):=by show Z (D.int (((m+1:Nat):Int) - 1),_)=_;rw[show ((m+1:Nat):Int) - 1=m by omega]
  exact⟨d,j,(yL (es0:=es) (es:=es) (ds:=[.str f,TD T,MD M,.int (m:Nat)]) (ρ1:=[.pm es,F,A,B,N,.z P,.z H,.z (.int k),.un,s']) O (uJ O (uJ O (uJ O (uJ e4 O)))) O e).t O,q,t⟩
 by_cases c8:k=8
 .obtain⟨d,e2,C,u,hd⟩:=rec_ .un G;refine fin (s:=.un) (s':=.un) ?_ u ⟨UJ hd.1,.no hd.2⟩;unfold vX;exact(pre _).t ((vg Q).t ((vg (o 2 c2)).t ((vg (o 3 R)).t ((vg (o 4 c4)).t ((vg (o 5 c5)).t ((vg q6).t ((vg q7).t (uU ((u4 (Y 8 c8)).t (uR (xy (ds:=[d]) (uJ C O) O)))))))))))
 .obtain⟨d,e2,C,u,hd⟩:=rec_ .un G;obtain⟨d',e3,X,U,hd'⟩:=rec_ (.z d) u;refine fin (s:=.un) (s':=.z d) ?_ U ⟨RG hd.1 hd'.1,.bo hd.2 hd'.2⟩;unfold vX;exact(pre _).t ((vg Q).t ((vg (o 2 c2)).t ((vg (o 3 R)).t ((vg (o 4 c4)).t ((vg (o 5 c5)).t ((vg q6).t ((vg q7).t ((vg (o 8 c8)).t ((uK ((uY C).t O)).t (uR (xy (ds:=[d,d']) (uJ O (uJ X O)) O)))))))))))
theorem Qd(g:e8 T M dk W)(b:f∈o?):∀(n:Nat) {es:List L4.D},vT es->∃d a,wM (n+1) es [.str f,TD T,MD M,.int (n:Nat)]=Z (d,a)/\vT a/\Tq T M (gi T M dk W V) f n d
 |0,es,h=>Le g b 0 (wM 0) (λm c=>by cases c) h
 |n+1,es,h=>Le g b (n+1) (wM (n+1)) (λm c es h=>by cases c;exact Qd g b n h) h
end
section
variable{T:List Th}{M:List Mk}{dk:aF}{W:List Wy}{V:List Vb}{f:Str}{es:List L4.D}
def me_T(g:e8 T M dk W):∃t∈T,t.n="me" /\ t.k=.you:=by
 have h:("me" : Str)∈(T.filter λt=>decide (t.k=.you)).map Th.n:=by rw[g.y1];exact bj.2 O
 obtain⟨t,a,e⟩:=au.1 h;exact⟨t,(aY.1 a).1,e,bB (aY.1 a).2⟩
def rm_T(h:x∈ll T):∃t∈T,t.n=x/\t.k=.room:=by obtain⟨t,a,rfl⟩:=au.1 h;exact⟨t,(aY.1 a).1,O,bB (aY.1 a).2⟩
def Yc(h:x∈ll T):x∈p? T:=by obtain⟨t,b,rfl,a⟩:=rm_T h;exact cG (aY.2 ⟨b,by rw[a];rfl⟩)
def adF(g:e8 T M dk W):ll T≠[]:=λz=>by have:=g.r1;unfold ll at z;rw[kY]at z;rw[z]at this;exact aq this (by decide)
def Mw(T:List Th)(f:Str)(L:aF):Prop:=∀x∈L,Mv T f x/\x≠"me"
def Yd(g:e8 T M dk W):Mw T f ((T.filter λt=>t.k.pl).map Th.n):=λx d=>by obtain⟨t,c,rfl⟩:=au.1 d;obtain⟨b,a⟩:=aY.1 c;refine⟨.inl ⟨t,b,O,λz=>by rw[z]at a;cases a⟩,?_⟩;have:=(g.wd t b).2 a;exact bB (aS.1 (show (r?.all λq=>decide (q.1≠"me"))=γ by kernel_rfl) t.nw this)
def adG(e:f∈(["one", "two"]:aF)):∃L:aF,Mw T f L/\L.length=3/\∀es a b c s er,cV 1 (.pm es::.z (.str f)::a::b::c::s::er)=Z (.str f,.pm es::.z (.str f)::a::b::c::s::er)/\cL (vp kc) (.pm es::.z (.str f)::a::b::c::s::er)=Z (.bt (L.map D.str),.pm es::.z (.str f)::a::b::c::s::er):=by
 simp only[aL,cA,or_false]at e;rcases e with rfl|rfl
 .refine⟨["it", "it", "it"],λx d=>?_,O,λes a b c s er=>⟨O,O⟩⟩;have:x="it" := by simpa using d
  subst this;exact⟨.inr (.inl ⟨O,by simp⟩),by decide⟩
 .refine⟨["it", "it", "other"],λx d=>?_,O,λes a b c s er=>⟨O,O⟩⟩;simp only[aL,cA,or_false]at d;rcases d with rfl|rfl|rfl
  .exact⟨.inr (.inl ⟨O,by simp⟩),by decide⟩
  .exact⟨.inr (.inl ⟨O,by simp⟩),by decide⟩
  .exact⟨.inr (.inr ⟨O,O⟩),by decide⟩
def Xn(g:e8 T M dk W)(U:f∈o?)(h:vT es):∃d j,yZ es [.str f,TD T,MD M]=Z (d,j)/\vT j/\Dq T M (gi T M dk W V) f d:=by
 have hl:=g.len;obtain⟨r,w,x1,h1,hr⟩:=F1 g U h;let F:Sl:=.z (.str f);let A:Sl:=.z (TD T);let B:Sl:=.z (MD M);let R:Sl:=.z r;have s0:vc 4 (vH wH 0 dv) [.pm es,F,A,B,.un,.un,.un,.un]=Z (.nx [.pm w,F,A,B,R,.un,.un,.un]):=(uY (yL (es0:=es) (es:=es) (ds:=[.str f,TD T,MD M]) (ρ1:=[.pm es,F,A,B,.un,.un,.un,.un]) O O O x1)).t O;have dig:∀{es} (b:Int) (er:aQ),vT es->0<b->b<1000->∃d j,vH uN 0 (a1 (cC (.int b))) (.pm es::er)=Z (.int d,.pm j::er)/\0<=d/\d<b/\vT j:=λ{es} b er h h0 h1=>M' (i:=0) (b:=b) (a:=cC (.int b)) (λes=>.pm es::er) (λ_=>O) (λ_ _=>O) O h h0 (by omega);have first:(∃d j,yZ es [.str f,TD T,MD M]=Z (d,j)/\vT j/\Dq T M (gi T M dk W V) f d)\/∃l,vT l/\fh (wN (cT (c2 wz ay aA)) (cT (c2 (e? δ) (vH uN 0 il) aM))) (uT (vE 12 (λo=>yO (o++[])) nh)) uZ [.pm w,F,A,B,R,.un,.un,.un]=Z (.nx [.pm l,F,A,B,R,.un,.un,.un]):=by
  rcases hr with rfl|⟨q,rfl,hq,q0,q3⟩
  .exact .inr ⟨w,h1,(vI O).t O⟩
  .obtain⟨d,l,x2,d0,d1,I⟩:=dig (es:=w) 2 [F,A,B,R,.un,.un,.un] h1 (by decide) (by decide);have S:wN (cT (c2 wz ay aA)) (cT (c2 (e? δ) (vH uN 0 il) aM)) [.pm w,F,A,B,R,.un,.un,.un]=Z (decide (d=1),[.pm l,F,A,B,R,.un,.un,.un]):=by unfold wN;rw[show cT (c2 wz ay aA) [.pm w,F,A,B,.z (pD q),.un,.un,.un]=Z (γ,[.pm w,F,A,B,.z (pD q),.un,.un,.un]) from O];exact vZ (uW (x:=.int d) (y:=.int 1) x2 O (yE δ d 1))
   by_cases c:d=1
   .obtain⟨v,m,x3,C,v0,v1⟩:=UP I F A B [.un,.un,.un] q q0 q3;refine .inl ⟨puO q.1 v,m,Be (ρ:=[.pm m,F,A,B,R,.un,.un,.un]) O ?_ O,C,⟨abN g U hq v0 v1,.put hq⟩⟩;unfold zM;exact(uK s0).t (uU ((u4 (S.t (by rw[aV c]))).t (uR (xy (ds:=[.str q.1,.int v]) (uJ O (uJ x3 O)) O))))
   .exact .inr ⟨l,I,(vI (S.t (by rw[aX c]))).t O⟩
 rcases first with first|⟨l,I,i2⟩
 .exact first
 let PL:aF:=(T.filter λt=>t.k.pl).map Th.n;have lPL:PL.length<=7:=by show (dH Th.n _).length<=7;rw[ah];exact g.p7
 have s5:vc 5 (cL (vK vx rQ))  [.pm l,F,A,B,R,.un,.un,.un]=Z (.nx [.pm l,F,A,B,R,.z (.bt (PL.map D.str)),.un,.un]):=(uY (vP (uL (g:=vx) (ds:=[TD T,.bt ((["plain", "fixed", "box", "lamp"]:aF).map D.str)]) (ρ1:=[.pm l,F,A,B,R,.un,.un,.un]) O (zN T (by omega) ["plain", "fixed", "box", "lamp"] Kd.pl n_pl)))).t O;let X:aF->aQ:=λL=>[F,A,B,R,.z (.bt (L.map D.str)),.un,.un];have nilT:∀{es} (L:aF) (er:aQ),cT (c2 (e? δ) bw (cL (vp vB))) (.pm es::F::A::B::R::.z (.bt (L.map D.str))::er)=Z (decide (L.map D.str=[]),.pm es::F::A::B::R::.z (.bt (L.map D.str))::er):=λL er=>vZ (uW (x:=.bt (L.map D.str)) (y:=.bt []) O O (eq_nil (GF L).1 (by rw[(GF L).2];decide)));have second:∃L m,vT m/\Mw T f L/\L.length<=10/\fh (wN (cT (c2 (n6 δ) ag (cL (vp gr)))) (ya (cT (c2 (e? δ) bw (cL (vp vB)))) (cT (c2 (e? δ) (vH uN 0 il) aM)))) (vc 5 (cL (vp kc))) uZ (.pm l::X PL)=Z (.nx (.pm m::X L)):=by
  have Q:cT (c2 (n6 δ) ag (cL (vp gr))) (.pm l::X PL)=Z (decide (f∈(["one", "two"]:aF)),.pm l::X PL):=vZ (uW (x:=.str f) (y:=.bt ((["one", "two"]:aF).map D.str)) O O (xC δ f ["one", "two"]));by_cases cf:f∈(["one", "two"]:aF)
  .rw[aV cf]at Q;obtain⟨L,mL,lL,eL⟩:=adG (T:=T) cf;have set5:∀es,vc 5 (cL (vp kc)) (.pm es::X PL)=Z (.nx (.pm es::X L)):=λes=>(uY (eL es A B R (.z (.bt (PL.map D.str))) [.un,.un]).2).t O;by_cases G:PL.map D.str=[]
   .refine⟨L,l,I,mL,by omega,(u4 (ρ':=.pm l::X PL) ?_).t (set5 l)⟩;unfold wN;rw[Q];exact F0 ((nilT PL _).t (by rw[aV G]))
   .obtain⟨d,m,x3,d0,d1,C⟩:=dig (es:=l) 2 (X PL) I (by decide) (by decide);have S:wN (cT (c2 (n6 δ) ag (cL (vp gr)))) (ya (cT (c2 (e? δ) bw (cL (vp vB)))) (cT (c2 (e? δ) (vH uN 0 il) aM))) (.pm l::X PL)=Z (decide (d=1),.pm m::X PL):=by unfold wN;rw[Q];exact zt ((nilT PL _).t (by rw[aX G])) (vZ (uW (x:=.int d) (y:=.int 1) x3 O (yE δ d 1)))
    by_cases c1:d=1
    .exact⟨L,m,C,mL,by omega,(u4 (S.t (by rw[aV c1]))).t (set5 m)⟩
    .exact⟨PL,m,C,Yd g,by omega,(vI (S.t (by rw[aX c1]))).t O⟩
  .rw[aX cf]at Q;refine⟨PL,l,I,Yd g,by omega,(vI (ρ':=.pm l::X PL) ?_).t O⟩;unfold wN;rw[Q]
 obtain⟨L,m,C,mL,lL,i5⟩:=second;let RM:Sl:=.z (.bt ((ll T).map D.str));let HD:Sl:=.z (.bt ((p? T).map D.str));let LS:Sl:=.z (.bt (L.map D.str));have lR:(ll T).length<=13:=by unfold ll;rw[ah];exact bD (cu _ _) hl
 have lH:(p? T).length<=13:=by unfold p?;rw[ah];exact bD (cu _ _) hl
 have s6:vc 6 (cL (vK vx nH)) (.pm m::X L)=Z (.nx [.pm m,F,A,B,R,LS,RM,.un]):=(uY (vP (uL (g:=vx) (ds:=[TD T,.bt ((["room"]:aF).map D.str)]) (ρ1:=.pm m::X L) O (zN T (by omega) ["room"] (λk=>decide (k=.room)) OQ)))).t O;have pickS:∀{es} (i:Nat) (N:aF) (er:aQ),vT es->N≠[]->N.length<=100->(∀es,cV i (.pm es::er)=Z (.bt (N.map D.str),.pm es::er))->∃x∈N,∃j,c2 f3 (cV i) (vH uN 0 (a1 (c1 wU (cV i)))) (.pm es::er)=Z (.str x,.pm j::er)/\vT j:=λ{es} i N er h h0 hN hi=>by obtain⟨d,hd,j,e,q⟩:=pk (i:=0) (e:=cV i) (a:=c1 wU (cV i)) (L:=N.map D.str) (λes=>.pm es::er) (λ_=>O) (λ_ _=>O) (hi es) (abE (hi es)) h (by simpa using h0) (by rw[ah];omega);obtain⟨x,P,rfl⟩:=au.1 hd;exact⟨x,P,j,e,q⟩
 obtain⟨tm,htm,ntm,ktm⟩:=me_T g;have meM:Mv T f "me" := .inl ⟨tm,htm,ntm,λz=>by rw[ktm]at z;cases z⟩;have third:∃b p,vT p/\(b=δ->L≠[])/\ya (cT (c2 (e? δ) bw (cL (vp vB)))) (cT (c2 (e? δ) (vH uN 0 dq) aP)) [.pm m,F,A,B,R,LS,RM,.un]=Z (b,[.pm p,F,A,B,R,LS,RM,.un]):=by
  by_cases G:L.map D.str=[]
  .exact⟨γ,m,C,λz=>(by cases z),F0 ((nilT L _).t (by rw[aV G]))⟩
  .obtain⟨d,p,x4,d0,d1,h4⟩:=dig (es:=m) 4 [F,A,B,R,LS,RM,.un] C (by decide) (by decide);exact⟨decide (d=0),p,h4,λ_ z=>G (by rw[z];rfl),zt ((nilT L _).t (by rw[aX G])) (vZ (uW (x:=.int d) (y:=.int 0) x4 O (yE δ d 0)))⟩
 obtain⟨b,p,h4,hb,t4⟩:=third;cases b with
 |true=>obtain⟨y,E,H,x5,h5⟩:=pickS (es:=p) 6 (ll T) [F,A,B,R,LS,RM,.un] h4 (adF g) (by omega) (λ_=>O);refine⟨O' "me" y,H,Be (ρ:=[.pm H,F,A,B,R,LS,RM,.un]) O ?_ O,h5,⟨Qb g U meM (.inl (Yc E)) λ_=>rm_T E,.U? meM (.inl (Yc E)) λ_=>rm_T E⟩⟩;unfold zM;exact(uK s0).t ((uK i2).t ((uK s5).t ((uK i5).t ((uK s6).t (uU ((u4 t4).t (uR (xy (ds:=[.str "me", .str y]) (uJ O (uJ x5 O)) O))))))))
 |false=>obtain⟨x,P,H,x5,h5⟩:=pickS (es:=p) 5 L [F,A,B,R,LS,RM,HD] h4 (hb O) (by omega) (λ_=>O);obtain⟨y,e6,x6,h6,E⟩:=Qc h5 U (p? T) (by omega);refine⟨O' x y,e6,Be (ρ:=[.pm e6,F,A,B,R,LS,RM,HD]) O ?_ O,h6,⟨Qb g U (mL x P).1 E λz=>aq z (mL x P).2,.U? (mL x P).1 E λz=>aq z (mL x P).2⟩⟩;unfold zM;refine(uK s0).t ((uK i2).t ((uK s5).t ((uK i5).t ((uK s6).t ((uK ((vI t4).t O)).t ?_)))));refine(uK (ρ':=[.pm p,F,A,B,R,LS,RM,HD]) ((uY (vP (uL (g:=vx) (ds:=[TD T,.bt ((["room", "box", "you"]:aF).map D.str)]) (ρ1:=[.pm p,F,A,B,R,LS,RM,.un]) O (zN T (by omega) ["room", "box", "you"] Kd.hd UM)))).t O)).t (uR (xy (ds:=[.str x,.str y]) (uJ x5 (uJ ?_ O)) O));exact(yL (es0:=H) (es:=H) (ds:=[.str f,.bt ((p? T).map D.str)]) (ρ1:=[.pm H,F,A,B,R,LS,RM,HD]) O O O x6).t O
end
def gl:List fc->List (List L4.D)->fc->List L4.D
 |k::b,a::dss,j=>if k=j then a else gl b dss j
 |_,_,_=>[]
theorem Qe:∀(a:List fc) (dss:List (List L4.D)) (j:fc),(xk a (dss.map .bt) j).getD (.bt [])=.bt (gl a dss j)
 |[],dss,j=>by cases dss<;>rfl
 |k::a,[],j=>rfl
 |k::a,b::dss,j=>by
  rw[aJ];unfold xk gl;by_cases h:k=j
  .rw[ak h,ak h];rfl
  .rw[ao h,ao h];exact Qe a dss j
theorem UQ:∀(a:List fc) (dss:List (List L4.D)),a.length=dss.length->(k=j->k∈a)->gl a (gh (λi c=>if i=k then c++[d]else c) a dss) j=gl a dss j++if k=j then [d]else []
 |[],[],_,f=>by rw[ao λh=>(by cases f h)];rfl
 |[],_::_,h,_=>by cases h
 |_::_,[],h,_=>by cases h
 |k0::a,c::dss,h,f=>by
  rw[iu];unfold gl;by_cases e:k0=j
  .subst e;rw[ak O,ak O];by_cases b:k0=k
   .rw[ak b,ak b.symm]
   .rw[ao b,ao λz=>b z.symm,bR]
  .rw[ao e,ao e];exact UQ a dss (by simpa using h) λz=>by
    rcases aL.1 (f z)with y|y
    .exact aq (y.symm.t z) e
    .exact y
theorem UR:∀(a:List fc) (dss:List (List L4.D)),a.length=dss.length->k∉a->gl (a++[k]) (dss++[[d]]) j=gl a dss j++if k=j then [d]else []
 |[],[],_,_=>rfl
 |[],_::_,h,_=>by cases h
 |_::_,[],h,_=>by cases h
 |k0::a,c::dss,h,b=>by
  rw[lQ,lQ];unfold gl;by_cases e:k0=j
  .rw[ak e,ak e,ao λz=>b (by rw[z,e];exact bb),bR]
  .rw[ao e,ao e];exact UR a dss (by simpa using h) λz=>b (ba _ z)
theorem US{d:L4.D}{k:fc}{P Q:List L4.D->Prop}(e:∀a,P a->Q a)(f:∀a,P a->Q (a++[d])):∀(c:List fc) (dss:List (List L4.D)),(∀a∈dss,P a)->∀x∈gh (λi a=>if i=k then a++[d]else a) c dss,Q x
 |[],_,_,x,b=>by cases b
 |_::_,[],_,x,b=>by cases b
 |k0::c,a::dss,h,x,b=>by
  rw[iu]at b;rcases aL.1 b with rfl|b
  .have:=h a bb;split
   .exact f _ this
   .exact e _ this
  .exact US e f c dss (λa hd=>h a (ba _ hd)) x b
theorem JR(hd:w? 16 14 d=γ):∀a:List L4.D,zS 16 14 a=γ->zS 16 14 (a++[d])=γ
 |[],_=>by rw[bZ];unfold zS;rw[hd];rfl
 |x::a,h=>by rw[lQ];unfold zS at h ⊢;rw[aW]at h ⊢;exact⟨h.1,JR hd a h.2⟩
theorem BS:∀ds:List L4.D,(∀d∈ds,w? 16 14 d=γ)->zS 16 14 ds=γ
 |[],_=>by unfold zS;rfl
 |x::ds,h=>by unfold zS;rw[aW];exact⟨h x bb,BS ds λd hd=>h d (ba _ hd)⟩
def kv(d:L4.D):fc:=match uS zd "verb" d with
 |some x=>(BE x).getD (.inl 0)
 |none=>.inl 0
def gK(d:L4.D):Bool:=(match uS zd "verb" d with
 |some x=>(BE x).isSome
 |none=>δ)&&w? 16 14 d
def adH(h:gK d=γ):∃x,uS zd "verb" d=Z x/\BE x=Z (kv d):=by
 unfold gK at h;rw[aW]at h;obtain⟨h,_⟩:=h;unfold kv;split at h
 .rename_i x e;rw[e];cases a:BE x with
  |none=>rw[a]at h;cases h
  |some y=>exact⟨x,O,a⟩
 .cases h
theorem UT:∀(L:List L4.D) (a:List fc) (dss:List (List L4.D)),(∀d∈L,gK d=γ)->a.length=dss.length->a.length+L.length<1000->(∀ds∈dss,ds.length+L.length<1000/\zS 16 14 ds=γ)->
  ∃b dss',Dh (uS zd "verb") L a dss=Z (b,dss')/\(∀j,gl b dss' j=gl a dss j++L.filter λd=>decide (kv d=j))/\∀ds∈dss',zS 16 14 ds=γ
 |[],a,dss,_,_,_,h=>⟨a,dss,O,λj=>by rw[List.filter_nil,bR],λds hd=>(h ds hd).2⟩
 |d::L,a,dss,i,f,p,h=>by
  rw[aN]at p;have hL:∀ds∈dss,ds.length+L.length+1<1000/\zS 16 14 ds=γ:=λds hd=>⟨by have:=(h ds hd).1;rw[aN]at this;omega,(h ds hd).2⟩;have e:=i d bb;have l:w? 16 14 d=γ:=by unfold gK at e;rw[aW]at e;exact e.2
  obtain⟨x,m,o⟩:=adH e;have st:(B6 a dss (kv d) d).1.length=(B6 a dss (kv d) d).2.length/\(B6 a dss (kv d) d).1.length+L.length<1000/\(∀ds∈(B6 a dss (kv d) d).2,ds.length+L.length<1000/\zS 16 14 ds=γ)/\∀j,gl (B6 a dss (kv d) d).1 (B6 a dss (kv d) d).2 j=gl a dss j++if kv d=j then [d]else []:=by
   unfold B6;by_cases c:HR a (kv d)=γ
   .rw[ak c];refine⟨by simp only[kW];omega,by simp only;omega,US (P:=λds=>ds.length+L.length+1<1000/\zS 16 14 ds=γ) (λds h=>⟨by omega,h.2⟩) (λds h=>⟨by rw[aE,cF];omega,JR l ds h.2⟩) a dss hL,λj=>UQ a dss f λ_=>Fd.1 c⟩
   .rw[ao c];refine⟨by simp[f],by simp only[aE,cF];omega,λds hd=>?_,λj=>UR a dss f λz=>c (Fd.2 z)⟩;rcases aT.1 hd with hd|hd
    .exact⟨by have:=(hL ds hd).1;omega,(hL ds hd).2⟩
    .rw[bj.1 hd];exact⟨by simp only[cF];omega,JR l [] (by unfold zS;rfl)⟩
  obtain⟨u,w,y,A⟩:=st;obtain⟨b,dss',r,t,q3⟩:=UT L (B6 a dss (kv d) d).1 (B6 a dss (kv d) d).2 (λx q=>i x (ba _ q)) u w y;refine⟨b,dss',?_,λj=>?_,q3⟩
  .unfold Dh;simp only[m,o];rw[ak]
   .exact r
   .rw[aW];refine⟨aV (by omega),aS.2 λds hd=>aV (by have:=(hL ds hd).1;omega)⟩
  .rw[t j,A j,gL,bX];by_cases c:kv d=j
   .simp[c]
   .simp[c]
def ruN:aF:=["verb", "tests", "deeds", "text", "refuses"]
def q?(v:Str)(b ds:List L4.D)(c:Str)(a:Bool):L4.D:=.obj 13 ruN [.str v,.bt b,.bt ds,.str c,.I a]
structure RuOk(w d:L4.D):Prop where
 r:GA [w,d]=Z (.I γ)
 g:gK d=γ
 c:Gu [d]=Z d
def RuS(T:List Th)(M:List Mk)(V:List Vb)(d:L4.D):Prop:=∃v∈V++v9,∃b a h c,d=q? v.n b a h c/\(∀t∈b,Ts T M v.f 2 t)/\∀e∈a,Ds T M v.f e
def RuQ(T:List Th)(M:List Mk)(V:List Vb)(w d:L4.D):Prop:=RuOk w d/\RuS T M V d
section
variable{T:List Th}{M:List Mk}{dk:aF}{W:List Wy}{V:List Vb}{f:Str}{es:List L4.D}
def OS(b:((V++v9).flatMap Vb.ws).Nodup)(a:v∈V++v9):xh [gi T M dk W V,.str v.n]=Z (j? v):=by
 have e:xh [gi T M dk W V,.str v.n]=CG (vwD (V++v9)) (.str v.n):=by kernel_rfl
 rw[e,Mj b a]
def Xo(H:∀v∈V,v∈v6)(Q:((V++v9).flatMap Vb.ws).Nodup)(l:v∈V++v9)(B:∀t∈i,Tk (gi T M dk W V) v.f 2 t)(lt:i.length<=3)(hd:∀d∈ds,Dd (gi T M dk W V) v.f d)(ld:ds.length<=3)(N:q=γ->ds=[])(P:BR [.str m]=Z (.I γ)):RuOk (gi T M dk W V) (q? v.n i ds m q):=by
 let w:=gi T M dk W V;let r:=q? v.n i ds m q;have p:v∈v6++v9:=by
  rcases aT.1 l with l|l
  .exact bF _ (H v l)
  .exact bx _ l
 have evo:=OS (T:=T) (M:=M) (dk:=dk) (W:=W) Q l;have G:AH [w,.str v.n]=Z (.I γ):=by let a:aQ:=[.z w,.z (.str v.n)];have R:yi [.str v.n]=Z (.I γ):=CB (aS.1 (show ((v6++v9).all λv=>isT (yi [.str v.n]))=γ by kernel_rfl) v p);have mt:vh wb "verb_of" aa bK a=Z (j? v,a):=vz (hh:=xh) (ys:=[.str v.n]) (ρ1:=a) (ρ2:=a) O O O O evo;refine uP (ρ:=a) O (uR ((vm (uL (ρ1:=a) (ds:=[.str v.n]) O R)).t ((vm (ρ1:=a) (uW mt O O)).t (uW (x:=.str v.n) (y:=.str v.n) (vO mt O) O ?_))));rw[xx];simp
 refine⟨?_,?_,by kernel_rfl⟩
 .let a:aQ:=[.z w,.z r,.un];let o:aQ:=[.z w,.z r,.z (.str v.f)];refine uP (ρ:=o) O ?_;unfold Gy;refine(vg (ρ:=a) (zt (ρ1:=a) O (zt (ρ1:=a) (xV (b:=γ) (vZ (uL (ds:=[w,.str v.n]) O G))) (xV (b:=γ) (vZ (uL (ds:=[.str m]) O P)))))).t ?_;refine(uK (ρ':=o) ((uY (ρ':=a) (vO (g:=uS xQ "form") (z:=.str v.f) (vz (hh:=xh) (ys:=[.str v.n]) (ρ1:=a) (ρ2:=a) O O O O evo) O)).t O)).t (uR ?_);have C:DE [w,.str v.f,.bt i]=Z (.I γ):=uP (ρ:=[.z w,.z (.str v.f),.z (.bt i)]) O (uR ((vm (uL (ds:=[.bt i,.int 5]) (ρ1:=[.z w,.z (.str v.f),.z (.bt i)]) O (P8 _ _ (by omega)))).t (zA id i (by rw[gZ];rfl) (by omega) λt j=>⟨[.z t,.z w,.z (.str v.f)],[.z t,.z w,.z (.str v.f)],O,uL (ds:=[w,.str v.f,t,.int 4]) O ((B t j).2 4 (by decide) (by decide)),O⟩)));have E:DF [w,.str v.f,.bt ds]=Z (.I γ):=uP (ρ:=[.z w,.z (.str v.f),.z (.bt ds)]) O (uR ((vm (uL (ds:=[.bt ds,.int 4]) (ρ1:=[.z w,.z (.str v.f),.z (.bt ds)]) O (P8 _ _ (by omega)))).t (zA id ds (by rw[gZ];rfl) (by omega) λt j=>⟨[.z t,.z w,.z (.str v.f)],[.z t,.z w,.z (.str v.f)],O,uL (ds:=[w,.str v.f,t]) O (hd t j).2,O⟩)));have F:zg [r]=Z (.I γ):=by
   cases q with
   |false=>kernel_rfl
   |true=>rw[show r=q? v.n i [] m γ from by show q? v.n i ds m γ=_;rw[N O]];kernel_rfl
  exact(vm (uL (ρ1:=o) (ds:=[w,.str v.f,.bt i]) O C)).t ((vm (uL (ρ1:=o) (ds:=[w,.str v.f,.bt ds]) O E)).t (uL (ds:=[r]) O F))
 .have e:gK r=(zS 16 14 i&&(zS 16 14 ds&&γ)):=by kernel_rfl
  rw[e,BS i λt h=>(B t h).1,BS ds λt h=>(hd t h).1];rfl
end
def nf(v:Vb):Str×Str:=(v.n,v.f)
def M?(q:Str×Str):L4.D:=.du [.str q.1,.str q.2]
def bsL:List (Str×Str):=[("take", "one"),("open", "one"),("put", "two"),("go", "way"),("wait", "alone"),("drop", "one")]
def ξ(V:List Vb):List (Str×Str):=bsL++(V.map nf++V.map nf)
def v_fm(h:v∈v6++v9):v.f∈o?:=bB (aS.1 (show ((v6++v9).all λv=>decide (v.f∈o?))=γ by kernel_rfl) v h)
def fm_v{V:List Vb}(h:q∈ξ V):∃v∈V++v9,nf v=q:=by
 rcases aT.1 h with h|h
 .have:=(show ∀q∈bsL,q∈v9.map nf by decide +kernel) q h;obtain⟨v,a,e⟩:=au.1 this;exact⟨v,bx _ a,e⟩
 .have h:q∈V.map nf:=(aT.1 h).elim id id;obtain⟨v,a,e⟩:=au.1 h;exact⟨v,bF _ a,e⟩
def tx1(k:Nat):Option L4.D:=(I1 (.int (k:Nat))).bind (E5 (.str "Text "))
def tx2(d:Nat):Option L4.D:=KE (.str ".") (.int (1+(d:Nat)))
def isS:Option L4.D->Bool
 |some (.str x)=>isT (BR [.str x])
 |_=>δ
def abR:((aU 8).all λk=>(aU 9).all λd=>isS ((tx1 k).bind λx=>(tx2 d).bind λy=>E5 x y))=γ:=by kernel_rfl
def adJ(m:k<8)(hd:d<9):∃x a b y c,I1 (.int (k:Nat))=Z x/\E5 (.str "Text ") x=Z a/\KE (.str ".") (.int (1+(d:Nat)))=Z y/\b=y/\E5 a y=Z (.str c)/\BR [.str c]=Z (.I γ):=by
 have h:=aS.1 (aS.1 abR k (bL.2 m)) d (bL.2 hd);unfold isS at h;split at h
 .rename_i c e;obtain⟨a,f,e⟩:=ju.1 e;obtain⟨x,i,f⟩:=ju.1 f;obtain⟨y,j,l⟩:=ju.1 e;exact⟨x,a,y,y,c,i,f,j,O,l,CB h⟩
 .cases h
def rB:FS:=(uO (EY (c2 f3 bw (vH uN 0 nO)) (gT j4 2))
 (uO (vc 10 (cL (uX 1 [0,9,1,2] (I' (vH uN 0 dq)) (gN 0) vN (vH (wM 3) 1 nF))))
 (uO (vc 11 (c2 (e? δ) (vH uN 0 dq) aP))
 (uO (vc 12 (cL (uX 1 [0,9,1,2] (I' (c2 xB (vH uN 0 dq) (c1 IS (D5 ic)))) (gN 0) vN (vH yZ 1 nQ))))
 (vG (AQ 6 (vE 13 (λa=>yT (a++[])) rK)))))))
section
variable{T:List Th}{M:List Mk}{dk:aF}{W:List Wy}{V:List Vb}{f:Str}{es:List L4.D}
theorem many{P:L4.D->Prop}{fe:FE}{a3 a4 a5 a6 a7 a8 a10 a11 a12:Sl}(st:∀(d:L4.D) (es:List L4.D),vT es->∃x a,fe [.z d,.pm es,.z (.str f),.z (TD T),.z (MD M)]=Z (x,[.z d,.pm a,.z (.str f),.z (TD T),.z (MD M)])/\vT a/\P x):∀(l:List L4.D) (es:List L4.D),vT es->∃(b:List L4.D) (a:List L4.D),b.length=l.length/\(∀x∈b,P x)/\vT a/\
  Ao 1 [0,9,1,2] (gN 0) vN fe l [.pm es,.z (TD T),.z (MD M),a3,a4,a5,a6,a7,a8,.z (.str f),a10,a11,a12]=Z (b,[.pm a,.z (TD T),.z (MD M),a3,a4,a5,a6,a7,a8,.z (.str f),a10,a11,a12])
 |[],es,h=>⟨[],es,O,λt p=>(by cases p),h,O⟩
 |d::l,es,h=>by
  obtain⟨x,c,r,j,q⟩:=st d es h;obtain⟨b,i,o,hxs,m,u⟩:=many (a3:=a3) (a4:=a4) (a5:=a5) (a6:=a6) (a7:=a7) (a8:=a8) (a10:=a10) (a11:=a11) (a12:=a12) st l c j;refine⟨x::b,i,by rw[aN,aN,o],λy e=>?_,m,?_⟩
  .rcases aL.1 e with rfl|e
   .exact q
   .exact hxs y e
  .unfold Ao;rw[show gN 0 d (E2 1 [0,9,1,2] [.pm es,.z (TD T),.z (MD M),a3,a4,a5,a6,a7,a8,.z (.str f),a10,a11,a12])=Z [.z d,.pm es,.z (.str f),.z (TD T),.z (MD M)] from O];simp only[vN,r];rw[show yz [0,9,1,2] (([.z d,.pm c,.z (.str f),.z (TD T),.z (MD M)]:aQ).drop 1) [.pm es,.z (TD T),.z (MD M),a3,a4,a5,a6,a7,a8,.z (.str f),a10,a11,a12]=Z [.pm c,.z (TD T),.z (MD M),a3,a4,a5,a6,a7,a8,.z (.str f),a10,a11,a12] from O];simp only[u]
def Mm(n:Nat):(B2 0 n).length=n:=by unfold B2;simp
def RI(g:e8 T M dk W)(h6:∀v∈V,v∈v6)(lV:V.length<=6)(nd:((V++v9).flatMap Vb.ws).Nodup)(hk:k<8)(h:vT es)(R:List L4.D)(lR:R.length<900)(C E s8 s9 m l c:Sl):∃r j t8 t9 t10 t11 t12,vT j/\RuQ T M V (gi T M dk W V) r/\
  rB [.pm es,.z (TD T),.z (MD M),C,E,.z (.bt ((ξ V).map M?)),.O R,.z (.int (k:Nat)),s8,s9,m,l,c]=Z (.nx [.pm j,.z (TD T),.z (MD M),C,E,.z (.bt ((ξ V).map M?)),.O (R++[r]),.z (.int (k:Nat)),t8,t9,t10,t11,t12]):=by
 let A:Sl:=.z (TD T);let B:Sl:=.z (MD M);let Q:Sl:=.z (.bt ((ξ V).map M?));let K:Sl:=.z (.int (k:Nat));have lF:(ξ V).length<=18:=by unfold ξ;rw[aE,aE,ah];show 6+_<=18;omega
 obtain⟨d,hd,e1,x1,h1⟩:=pk (i:=0) (e:=cV 5) (a:=c1 wU bw) (L:=(ξ V).map M?) (λes=>[.pm es,A,B,C,E,Q,.O R,K,s8,s9,m,l,c]) (λ_=>O) (λ_ _=>O) O O h (by unfold ξ bsL;simp) (by rw[ah];omega);obtain⟨q,hq,rfl⟩:=au.1 hd;obtain⟨v,u,rfl⟩:=fm_v hq;have hv6:v∈v6++v9:=by
  rcases aT.1 u with u|u
  .exact bF _ (h6 v u)
  .exact bx _ u
 have hf:=v_fm hv6;let X:Sl:=.z (.str v.n);let F:Sl:=.z (.str v.f);have dig:∀{es} (b:Int) (er:aQ),vT es->0<b->b<1000->∃d j,vH uN 0 (a1 (cC (.int b))) (.pm es::er)=Z (.int d,.pm j::er)/\0<=d/\d<b/\vT j:=λ{es} b er h h0 h1=>M' (i:=0) (b:=b) (a:=cC (.int b)) (λes=>.pm es::er) (λ_=>O) (λ_ _=>O) O h h0 (by omega);obtain⟨d2,e2,x2,p0,p1,h2⟩:=dig (es:=e1) 4 [A,B,C,E,Q,.O R,K,X,F,m,l,c] h1 (by decide) (by decide);obtain⟨n2,rfl⟩:=cE p0;obtain⟨G,e3,lts,hts,h3,x3⟩:=many (T:=T) (M:=M) (f:=v.f) (P:=λd=>Tq T M (gi T M dk W V) v.f 2 d) (fe:=vH (wM 3) 1 nF) (a3:=C) (a4:=E) (a5:=Q) (a6:=.O R) (a7:=K) (a8:=X) (a10:=m) (a11:=l) (a12:=c)
  (λd es h=>by
   obtain⟨x,j,e,q,t⟩:=Qd (V:=V) g hf 2 h;exact⟨x,j,(yL (i:=1) (es0:=es) (es:=es) (ds:=[.str v.f,TD T,MD M,.int 2]) (ρ1:=[.z d,.pm es,.z (.str v.f),.z (TD T),.z (MD M)]) O O O e).t O,q,t⟩) (B2 0 n2) e2 h2
 rw[Mm]at lts;let TS:Sl:=.z (.bt G);obtain⟨d4,e4,x4,_,_,h4⟩:=dig (es:=e3) 4 [A,B,C,E,Q,.O R,K,X,F,TS,l,c] h3 (by decide) (by decide);let o:Bool:=decide (d4=0);let RF:Sl:=.z (.I o);obtain⟨d5,H,x5,r0,r1,h5⟩:=dig (es:=e4) 4 [A,B,C,E,Q,.O R,K,X,F,TS,RF,c] h4 (by decide) (by decide);obtain⟨n5,rfl⟩:=cE r0;let S:Nat:=if o then 0 else n5
 have l6:S<=3:=by show (if o then 0 else n5)<=3;split<;>omega
 obtain⟨p,I,lds,hds,h6',x6⟩:=many (T:=T) (M:=M) (f:=v.f) (P:=λd=>Dq T M (gi T M dk W V) v.f d) (fe:=vH yZ 1 nQ) (a3:=C) (a4:=E) (a5:=Q) (a6:=.O R) (a7:=K) (a8:=X) (a10:=TS) (a11:=RF) (a12:=c)
  (λd es h=>by
   obtain⟨x,j,e,q,t⟩:=Xn (V:=V) g hf h;exact⟨x,j,(yL (i:=1) (es0:=es) (es:=es) (ds:=[.str v.f,TD T,MD M]) (ρ1:=[.z d,.pm es,.z (.str v.f),.z (TD T),.z (MD M)]) O O O e).t O,q,t⟩) (B2 0 S) H h5
 rw[Mm]at lds;let DS:Sl:=.z (.bt p);obtain⟨d7,e7,x7,u0,u1,h7⟩:=dig (es:=I) 9 [A,B,C,E,Q,.O R,K,X,F,TS,RF,DS] h6' (by decide) (by decide);obtain⟨n7,rfl⟩:=cE u0;obtain⟨tx,ta,_,ty,t,w1,w2,w3,_,w4,w5⟩:=adJ (d:=n7) hk (by omega);have ok:RuQ T M V (gi T M dk W V) (q? v.n G p t o):=⟨Xo h6 nd u (λt h=>(hts t h).1) (by omega) (λt h=>(hds t h).1) (by omega) (λz=>by
  have:S=0:=ak z;rw[this]at lds;exact js.1 lds) w5,v,u,G,p,t,o,O,λt h=>(hts t h).2,λt h=>(hds t h).2⟩
 refine⟨q? v.n G p t o,e7,X,F,TS,RF,DS,h7,ok,?_⟩;have rg:∀{e:FE} {ρ ρ1:aQ} {n:Nat},e ρ=Z (.int (n:Nat),ρ1)->n<=100->I' e ρ=Z (B2 0 n,ρ1):=λ{e ρ ρ1 n} h hn=>by unfold I';rw[h];dsimp only;rw[ak (by omega),gE]
 unfold rB;refine(uK (ρ':=[.pm e1,A,B,C,E,Q,.O R,K,X,F,m,l,c]) ?_).t ?_
 .unfold EY;rw[x1];rfl
 refine(uK (ρ':=[.pm e3,A,B,C,E,Q,.O R,K,X,F,TS,l,c]) ((uY (vP ((E8 (ds:=B2 0 n2) (ρ1:=[.pm e2,A,B,C,E,Q,.O R,K,X,F,m,l,c]) (rg x2 (by omega)) (by rw[Mm];omega)).t x3))).t O)).t ?_;refine(uK (ρ':=[.pm e4,A,B,C,E,Q,.O R,K,X,F,TS,RF,c]) ((uY (uW (x:=.int d4) (y:=.int 0) x4 O (yE δ d4 0))).t O)).t ?_;have e56:c2 xB (vH uN 0 dq) (c1 IS (D5 ic)) [.pm e4,A,B,C,E,Q,.O R,K,X,F,TS,RF,c]=Z (.int (S:Nat),[.pm H,A,B,C,E,Q,.O R,K,X,F,TS,RF,c]):=by
  show _=Z (D.int ((if o then 0 else n5:Nat):Int),_);have ec:c1 IS (D5 ic) [.pm H,A,B,C,E,Q,.O R,K,X,F,TS,RF,c]=Z (.int (if !o then 1 else 0),[.pm H,A,B,C,E,Q,.O R,K,X,F,TS,RF,c]):=rfl;refine uW x5 ec ((yf (.inr (by cases o<;>decide))).t ?_);cases o with
  |true=>simp
  |false=>simp
 refine(uK (ρ':=[.pm I,A,B,C,E,Q,.O R,K,X,F,TS,RF,DS]) ((uY (vP ((E8 (ds:=B2 0 S) (ρ1:=[.pm H,A,B,C,E,Q,.O R,K,X,F,TS,RF,c]) (rg e56 (by omega)) (by rw[Mm];omega)).t x6))).t O)).t ?_;refine(wj (Dc (es0:=R) (es:=R) (ρ1:=[.pm e7,A,B,C,E,Q,.O R,K,X,F,TS,RF,DS]) (d:=q? v.n G p t o) O (xy (ds:=[.str v.n,.bt G,.bt p,.str t,.I o]) (uJ O (uJ O (uJ O (uJ (uW (uW (x:=.str "Text ") (y:=tx) (ρ1:=[.pm I,A,B,C,E,Q,.O R,K,X,F,TS,RF,DS]) (ρ2:=[.pm I,A,B,C,E,Q,.O R,K,X,F,TS,RF,DS]) O (vO (x:=.int (k:Nat)) O w1) w2) (uW (x:=.str ".") (ρ1:=[.pm I,A,B,C,E,Q,.O R,K,X,F,TS,RF,DS]) O (uW (x:=.int 1) O x7 O) w3) w4) (uJ O O))))) (by kernel_rfl)) O (by omega))).t O
end
def adK(n:Nat):B2 0 n=(aU n).map λk:Nat=>D.int (k:Nat):=by unfold B2;simp
def Qf(h:e ρ=Z (.int (n:Nat),ρ1))(a:n<=100):I' e ρ=Z ((aU n).map λk:Nat=>D.int (k:Nat),ρ1):=by unfold I';rw[h];dsimp only;rw[ak (by omega),gE,adK]
section
variable{T:List Th}{M:List Mk}{dk:aF}{W:List Wy}{V:List Vb}{es:List L4.D}
theorem JS(g:e8 T M dk W)(B:∀v∈V,v∈v6)(lV:V.length<=6)(G:((V++v9).flatMap Vb.ws).Nodup)(C E:Sl):∀(l:List Nat) (es R:List L4.D) (q d e a b c:Sl),(∀k∈l,k<8)->vT es->R.length+l.length<900->∃o p X u w f i m,vT p/\o.length=l.length/\(∀r∈o,RuQ T M V (gi T M dk W V) r)/\
  fl (gN 7) rB (l.map λk:Nat=>D.int (k:Nat)) [.pm es,.z (TD T),.z (MD M),C,E,.z (.bt ((ξ V).map M?)),.O R,q,d,e,a,b,c]=Z (.nx [.pm p,.z (TD T),.z (MD M),C,E,.z (.bt ((ξ V).map M?)),.O (R++o),X,u,w,f,i,m])
 |[],es,R,q,d,e,a,b,c,_,h,_=>⟨[],es,q,d,e,a,b,c,h,O,λr U=>(by cases U),by rw[bR];rfl⟩
 |k::l,es,R,q,d,e,a,b,c,F,h,S=>by
  rw[aN]at S;obtain⟨r,H,u,w,f,i,m,N,ok,x1⟩:=RI g B lV G (F k bb) h R (by omega) C E d e a b c;obtain⟨o,I,Y,u8,u9,x,z,A,P,lR',okR,x2⟩:=JS g B lV G C E l H (R++[r]) (.z (.int (k:Nat))) u w f i m (λj Q=>F j (ba _ Q)) N (by rw[aE,cF];omega);refine⟨r::o,I,Y,u8,u9,x,z,A,P,by rw[aN,aN,lR'],λy t=>?_,?_⟩
  .rcases aL.1 t with rfl|t
   .exact ok
   .exact okR y t
  .rw[aJ];unfold fl;rw[show gN 7 (.int (k:Nat)) [.pm es,.z (TD T),.z (MD M),C,E,.z (.bt ((ξ V).map M?)),.O R,q,d,e,a,b,c]=Z [.pm es,.z (TD T),.z (MD M),C,E,.z (.bt ((ξ V).map M?)),.O R,.z (.int (k:Nat)),d,e,a,b,c] from O];simp only[x1];rw[x2,bX];rfl
def UU(g:e8 T M dk W)(G:∀v∈V,v∈v6)(lV:V.length<=6)(I:((V++v9).flatMap Vb.ws).Nodup)(h:vT es):∃R f,CA es [TD T,MD M,VD V,.int 8]=Z (.bt R,f)/\vT f/\R.length<=8/\∀r∈R,RuQ T M V (gi T M dk W V) r:=by
 let A:Sl:=.z (TD T);let B:Sl:=.z (MD M);let C:Sl:=.z (VD V);let E:Sl:=.z (.int 8);let Q:Sl:=.z (.bt ((ξ V).map M?));obtain⟨d,y,S,N,X,z⟩:=M' (i:=0) (b:=9) (a:=c2 wR ay aM) (λes=>[.pm es,A,B,C,E,Q,.O [],.un,.un,.un,.un,.un,.un]) (λ_=>O) (λ_ _=>O) O h (by decide) (by decide);obtain⟨n,rfl⟩:=cE N;obtain⟨R,o,q,t,u,j,l,m,F,lR,ok,U⟩:=JS g G lV I C E (aU n) y [] .un .un .un .un .un .un (λk H=>by have:=bL.1 H;omega) z (by simp;omega);rw[cH]at lR;refine⟨R,o,Gc (ρ:=[.pm o,A,B,C,E,Q,.un,q,t,u,j,l,m]) O ?_ O,F,by omega,ok⟩;unfold Cy;let w:Sl:=.z (.bt (bsL.map M?));let c:aQ:=[.pm es,A,B,C,E,w,.un,.un,.un,.un,.un,.un,.un];refine(uK (ρ':=c) O).t ?_;have x:cL (uX 1 [] (iL aw) (gN 0) vN (vC nv)) c=Z (.bt ((V.map nf).map M?),c):=(vP (xH j? (λv=>M? (nf v)) V (ρ1:=c) O (by omega) λv _=>⟨[.z (j? v)],[.z (j? v)],O,O,O⟩)).t (by rw[aZ];rfl);have P:cL (cRep (cL (uX 1 [] (iL aw) (gN 0) vN (vC nv))) b0) c=Z (.bt ((V.map nf++V.map nf).map M?),c):=by refine vP ?_;unfold cRep;rw[x];show (if ((V.map nf).map M?).length * 2<=1000/\(-1000:Int)<=2/\(2:Int)<=1000 then Z ((bU 2 ((V.map nf).map M?)).flatten,c)else J)=_;rw[ak ⟨by rw[ah,ah];omega,by decide,by decide⟩,bu];simp[bU]
 refine(uK (ρ':=[.pm es,A,B,C,E,Q,.un,.un,.un,.un,.un,.un,.un]) ((uY (vP (w6 (xs:=bsL.map M?) (ρ1:=c) O P (by rw[ah,ah,aE,ah];show 6+_<=1000;omega)))).t ?_)).t ?_
 .show Z (tf.nx [.pm es,A,B,C,E,.z (.bt (bsL.map M?++(V.map nf++V.map nf).map M?)),.un,.un,.un,.un,.un,.un,.un])=_;rw[<-bu];rfl
 refine(uK (ρ':=[.pm es,A,B,C,E,Q,.O [],.un,.un,.un,.un,.un,.un]) O).t ?_;refine(uK (ρ':=[.pm o,A,B,C,E,Q,.O R,q,t,u,j,l,m]) ((wm (Qf S (by omega))).t U)).t O
end
def JT{lo:FO}(b:e ρ=Z (.bt ds,ρ1))(c:lo ρ1=Z (l,ρ2))(d:f ρ2=Z (u,a)):Et e lo f ρ=Z (rl ds l u,a):=by unfold Et;rw[b];simp only[c,d]
def OT(h:e ρ=Z (.int i,ρ1)):X1 e ρ=Z (Z i,ρ1):=by unfold X1;rw[h]
def UV(h:vT es):∃t n c,t<6/\n<7/\Cw es []=Z (VD (vL t n),c)/\vT c:=by
 let Q:Sl:=.z (VD v6);obtain⟨d,f,u,q,z,m⟩:=M' (i:=0) (b:=6) (a:=cC (.int 6)) (λes=>[.pm es,Q,.un]) (λ_=>O) (λ_ _=>O) O h (by decide) (by decide);obtain⟨t,rfl⟩:=cE q;let X:Sl:=.z (.int (t:Nat));obtain⟨x,l,w,r,A,o⟩:=M' (i:=0) (b:=7) (a:=cC (.int 7)) (λes=>[.pm es,Q,X]) (λ_=>O) (λ_ _=>O) O m (by decide) (by decide);obtain⟨n,rfl⟩:=cE r;refine⟨t,n,l,by omega,by omega,Gc (ρ:=[.pm l,Q,X]) O ?_ O,o⟩;unfold Cv;refine(uK (ρ':=[.pm es,.z (VD (v6.take 3)),.un]) (by kernel_rfl)).t ((uK (ρ':=[.pm es,Q,.un]) (by kernel_rfl)).t ((uK ((uY u).t O)).t (xu ?_)));have p:(v6.map j?).length=6:=rfl;have c1:cL (Et ag (X1 aj) oNo) [.pm f,Q,X]=Z (.bt ((v6.map j?).drop t),[.pm f,Q,X]):=vP (by
  show Z (rl (v6.map j?) (Z (t:Int)) J,_)=_;rw[UB t (by omega)])
 have c2:cL (Et ag oNo (X1 aj)) [.pm f,Q,X]=Z (.bt ((v6.map j?).take t),[.pm f,Q,X]):=vP (by
  show Z (rl (v6.map j?) J (Z (t:Int)),_)=_;rw[JG t (by omega)])
 have y:((v6.map j?).drop t).length+((v6.map j?).take t).length=6:=by rw[fA,bY,p];omega
 refine(JT (vP (w6 c1 c2 (by omega))) O (OT w)).t ?_;show Z (rl ((v6.map j?).drop t++(v6.map j?).take t) J (Z (n:Int)),_)=_;have e:(vL t n).map j?=((v6.map j?).drop t++(v6.map j?).take t).take n:=by unfold vL;rw[iP,bu,mm,iP]
 rw[e];rw[JG n (by rw[aE];omega)]
def mB:FS:=(uO (vc 3 (c2 wR aM (vH uN 0 gw)))
 (vG (AQ 1 (vE 1 (λa=>Dr (a++[])) r9))))
theorem JU:∀(l:aF) (es:List L4.D) (M:List Mk) (j c:Sl),vT es->M.length+l.length<=900->∃f e r t,vT f/\e.map Mk.n=l/\(∀m∈e,m.ok)/\
  fl (gN 2) mB (l.map D.str) [.pm es,.O (M.map o3),j,c]=Z (.nx [.pm f,.O ((M++e).map o3),r,t])
 |[],es,M,j,c,h,_=>⟨es,[],j,c,h,O,λm F=>(by cases F),by rw[bR];rfl⟩
 |x::l,es,M,j,c,h,E=>by
  rw[aN]at E;obtain⟨d,u,H,T,U,A⟩:=M' (i:=0) (b:=3) (a:=cC (.int 3)) (λes=>[.pm es,.O (M.map o3),.z (.str x),c]) (λ_=>O) (λ_ _=>O) O h (by decide) (by decide);let Y:Sl:=.z (.int (1+d));obtain⟨o,p,I,G,W,B⟩:=M' (i:=0) (b:=1+d+1) (a:=c2 wR aw aM) (λes=>[.pm es,.O (M.map o3),.z (.str x),Y]) (λ_=>O) (λ_ _=>O) O A (by omega) (by omega);let m:Mk:=⟨x,o,1+d⟩;have ok:m.ok:=⟨by show 1<=1+d;omega,by show 1+d<=3;omega,G,by show o<=1+d;omega⟩;obtain⟨w,e,r,t,C,eM,okM,N⟩:=JU l p (M++[m]) (.z (.str x)) Y B (by rw[aE,cF];omega);refine⟨w,m::e,r,t,C,by rw[aJ,eM],λy q=>?_,?_⟩
  .rcases aL.1 q with rfl|q
   .exact ok
   .exact okM y q
  .rw[aJ];unfold fl;rw[show gN 2 (.str x) [.pm es,.O (M.map o3),j,c]=Z [.pm es,.O (M.map o3),.z (.str x),c] from O];have P:mB [.pm es,.O (M.map o3),.z (.str x),c]=Z (.nx [.pm p,.O ((M++[m]).map o3),.z (.str x),Y]):=by unfold mB;refine(uK (ρ':=[.pm u,.O (M.map o3),.z (.str x),Y]) ((uY (uW (x:=.int 1) O H O)).t O)).t ?_;refine(wj (Dc (es0:=M.map o3) (es:=M.map o3) (ρ1:=[.pm p,.O (M.map o3),.z (.str x),Y]) (d:=o3 m) O (xy (ds:=[.str x,.int o,.int (1+d)]) (uJ O (uJ I O)) O) O (by rw[ah];omega))).t ?_;rw[bu];rfl
   simp only[P];rw[N,bX];rfl
def UW(h:vT es):∃M c,Cu es []=Z (MD M,c)/\vT c/\(∀m∈M,m.ok)/\∃n,M.map Mk.n=mkL.take n:=by
 obtain⟨d,f,x,w,z,t⟩:=M' (i:=0) (b:=5) (a:=cC (.int 5)) (λes=>[.pm es,.O [],.un,.un]) (λ_=>O) (λ_ _=>O) O h (by decide) (by decide);obtain⟨n,rfl⟩:=cE w;obtain⟨j,M,p,q,u,eM,ok,y⟩:=JU (mkL.take n) f [] .un .un t (by rw[bY];simp only[fE];omega);refine⟨M,j,Gc (ρ:=[.pm j,.un,p,q]) O ?_ O,u,ok,n,eM⟩;unfold Ct;refine(uK (ρ':=[.pm es,.O [],.un,.un]) O).t ((uK (ρ':=[.pm j,.O (M.map o3),p,q]) ((wm (ds:=(mkL.take n).map D.str) (ρ1:=[.pm f,.O [],.un,.un]) ?_).t y)).t O);have e:cL (Et (cL (vp rF)) oNo (X1 (vH uN 0 (a1 ka)))) [.pm es,.O [],.un,.un]=Z (.bt ((mkL.take n).map D.str),[.pm f,.O [],.un,.un]):=by refine(vP (JT (ds:=mkL.map D.str) (ρ1:=[.pm es,.O [],.un,.un]) O O (OT x))).t ?_;rw[JG n (by rw[ah];show n<=4;omega),iP]
 unfold iL;rw[e]
def Kl(i:Nat):Str×aF:=r?.getD i ("key", ["key"])
def plD(q:Str×aF):L4.D:=.du [.str q.1,.du (q.2.map D.str)]
def kL:List Kd:=[.plain,.box,.lamp,.box,.fixed,.plain]
def tB:FS:=(uO (EY (c2 f3 ay (c2 xU (c2 wR bT bw) jc)) (gT rH 2))
 (uO (vc 9 (c2 f3 (cL (vp rS)) (vH uN 0 (a1 ib))))
 (uO (vG (AQ 2 (vE 0 (λa=>yk (a++[])) rO)))
 (fh (cT (c2 (e? δ) gu cU)) (vG (AQ 3 bJ)) uZ))))
def UX(h:i<7):Kl i∈r?/\A' (r?.map plD) (i:Int)=Z (plD (Kl i)):=by
 have e:r?[i]?=Z (Kl i):=by unfold Kl;rw[cX,bh (show i<r?.length from h)];rfl
 exact⟨cn e,DN (by rw[bA,e];rfl)⟩
theorem HK(a:Sl)(C:Nat)(htn:C<7):∀(l:List Nat) (es:List L4.D) (P:List Th) (c:aF) (M A B o:Sl),vT es->c≠[]->(∀x∈c,∃u∈P,u.n=x/\u.k.hd=γ)->Ord P->P.length+l.length<=900->c.length+l.length<=900->
  ∃(I:List L4.D) (G:List Th) (F:aF) (t6 t7 t8 t9:Sl),vT I/\Ord (P++G)/\G.map Th.nw=l.map (λk=>Kl ((k+C) % 7))/\(∀t∈G,t.k.pl=γ)/\
   fl (gN 6) tB (l.map λk:Nat=>D.int (k:Nat)) [.pm es,a,.O (P.map en),.O (c.map D.str),.z (.bt (r?.map plD)),.z (.int (C:Nat)),M,A,B,o]=Z (.nx [.pm I,a,.O ((P++G).map en),.O (F.map D.str),.z (.bt (r?.map plD)),.z (.int (C:Nat)),t6,t7,t8,t9])
 |[],es,P,c,M,A,B,o,h,_,_,ho,_,_=>⟨es,[],c,M,A,B,o,h,by rw[bR];exact ho,O,λr hr=>(cA hr).elim,by rw[bR];rfl⟩
 |k::l,es,P,c,M,A,B,o,h,h0,hH,ho,hl,W=>by
  rw[aN]at hl W;let Q:Sl:=.z (.bt (r?.map plD));let N:Sl:=.z (.int (C:Nat));let K:Sl:=.z (.int (k:Nat));let i:Nat:=(k+C) % 7;have hi:i<7:=gj _ (by decide);obtain⟨pm,ea⟩:=UX hi;let q:=Kl i;let X:Sl:=.z (.str q.1);let Y:Sl:=.z (.du (q.2.map D.str));obtain⟨d,e1,x1,p0,p1,h1⟩:=M' (i:=0) (b:=6) (a:=cC (.int 6)) (λes=>[.pm es,a,.O (P.map en),.O (c.map D.str),Q,N,K,X,Y,o]) (λ_=>O) (λ_ _=>O) O h (by decide) (by decide);obtain⟨j,rfl⟩:=cE p0;have hj:j<kL.length:=by show j<6;omega
  let m:Kd:=kL[j];have hpl:m.pl=γ:=(show ∀k∈kL,Kd.pl k=γ by decide) _ (fz hj);have ek:f3 (.bt (kL.map λk=>D.str k.s)) (.int (j:Nat))=Z (.str m.s):=DN (by rw[bA,bh hj];rfl);let AT:Sl:=.z (.str m.s);let z:aQ:=[.pm e1,a,.O (P.map en),.O (c.map D.str),Q,N,K,X,Y,AT];obtain⟨dd,hdd,H,h2,x2⟩:=ixs (ρ:=z) (i:=0) (j:=3) h1 (by simpa using h0) (by rw[ah];omega) O O O (λ_=>O);obtain⟨p,hp,rfl⟩:=au.1 hdd;let t:Th:=⟨q.1,q.2,m,Z p⟩;obtain⟨u,hu,hun,huk⟩:=hH p hp;have ok:Mc P t:=.inr (.inr ⟨hpl,u,hu,by rw[hun],huk⟩);let e:aF:=if m=.box then c++[q.1]else c
  have xb:tB [.pm es,a,.O (P.map en),.O (c.map D.str),Q,N,K,A,B,o]=Z (.nx [.pm H,a,.O ((P++[t]).map en),.O (e.map D.str),Q,N,K,X,Y,AT]):=by
   unfold tB;refine(uK (ρ':=[.pm es,a,.O (P.map en),.O (c.map D.str),Q,N,K,X,Y,o]) ?_).t ?_
   .have em:c2 xU (c2 wR bT bw) jc [.pm es,a,.O (P.map en),.O (c.map D.str),Q,N,K,A,B,o]=Z (.int (i:Nat),[.pm es,a,.O (P.map en),.O (c.map D.str),Q,N,K,A,B,o]):=(uW (x:=.int ((k:Int)+(C:Int))) O O (DP (by decide))).t (by
     rw[show ((k:Int)+(C:Int)) % 7=((i:Nat):Int) by show _=(((k+C) % 7:Nat):Int);omega])
    unfold EY;rw[uW (x:=.bt (r?.map plD)) (ρ1:=[.pm es,a,.O (P.map en),.O (c.map D.str),Q,N,K,A,B,o]) O em ea];rfl
   refine(uK (ρ':=z) ((uY (uW (x:=.bt (kL.map λk=>D.str k.s)) O x1 ek)).t O)).t ?_;let E:aQ:=[.pm H,a,.O ((P++[t]).map en),.O (c.map D.str),Q,N,K,X,Y,AT];refine(uK (ρ':=E) ((wj (Dc (es0:=P.map en) (es:=P.map en) (ρ1:=[.pm H,a,.O (P.map en),.O (c.map D.str),Q,N,K,X,Y,AT]) (d:=en t) O (xy (ds:=[.str q.1,.du (q.2.map D.str),.str m.s,.str p]) (uJ O (uJ O (uJ O (uJ x2 O)))) O) O (by rw[ah];omega))).t ?_)).t ?_
   .show Z (tf.nx [.pm H,a,.O (P.map en++[en t]),.O (c.map D.str),Q,N,K,X,Y,AT])=_;rw[show P.map en++[en t]=(P++[t]).map en by rw[bu];rfl]
   .have S:cT (c2 (e? δ) gu cU) E=Z (decide (m=.box),E):=vZ (uW O O (HI m .box));by_cases f:m=.box
    .rw[aV f]at S;refine(u4 S).t ((wj (Dc (es0:=c.map D.str) (es:=c.map D.str) (ρ1:=E) (d:=.str q.1) O O O (by rw[ah];omega))).t ?_);show Z (tf.nx [.pm H,a,.O ((P++[t]).map en),.O (c.map D.str++[.str q.1]),Q,N,K,X,Y,AT])=_;rw[show e.map D.str=c.map D.str++[.str q.1] by rw[show e=c++[q.1] from ak f,bu];rfl]
    .rw[aX f]at S;refine(vI S).t ?_;rw[show e=c from ao f];rfl
  have hH1:∀y∈e,∃u∈P++[t],u.n=y/\u.k.hd=γ:=λy w=>by
   have old:y∈c->∃u∈P++[t],u.n=y/\u.k.hd=γ:=λw=>by obtain⟨v,hv,h⟩:=hH y w;exact⟨v,bF _ hv,h⟩
   by_cases f:m=.box
   .rw[show e=c++[q.1] from ak f]at w;rcases aT.1 w with w|w
    .exact old w
    .rw[bj]at w;refine⟨t,by simp,w.symm,?_⟩;show m.hd=γ;rw[f];rfl
   .rw[show e=c from ao f]at w;exact old w
  have U:e≠[]:=by
   by_cases f:m=.box
   .rw[show e=c++[q.1] from ak f];simp
   .rw[show e=c from ao f];exact h0
  have hl1:e.length<=c.length+1:=by
   by_cases f:m=.box
   .rw[show e=c++[q.1] from ak f];simp
   .rw[show e=c from ao f];omega
  obtain⟨e3,G,F,t6,t7,t8,t9,g1,g2,g3,g4,g5⟩:=HK a C htn l H (P++[t]) e K X Y AT h2 U hH1 (ho.snoc ok) (by rw[aE,cF];omega) (by omega);refine⟨e3,t::G,F,t6,t7,t8,t9,g1,by rw[bX]at g2;exact g2,by rw[aJ,aJ,g3];rfl,λr hr=>?_,?_⟩
  .rcases aL.1 hr with rfl|hr
   .exact hpl
   .exact g4 r hr
  .rw[aJ];unfold fl;rw[show gN 6 (.int (k:Nat)) [.pm es,a,.O (P.map en),.O (c.map D.str),Q,N,M,A,B,o]=Z [.pm es,a,.O (P.map en),.O (c.map D.str),Q,N,K,A,B,o] from O];simp only[xb];rw[g5,bX];rfl
def ι(x:Str):Th:=⟨x,[x,"place"],.room,J⟩
structure OU(T:List Th):Prop where
 kx:Ord T
 ex:∃(r tn n:Nat) (y:Str) (P:List Th),1<=r/\r<=5/\tn<7/\n<8/\T=(η.take r).map ι++⟨"me", ["me", "self"],.you,Z y⟩::P/\P.map Th.nw=(aU n).map (λk=>Kl ((k+tn) % 7))/\∀t∈P,t.k.pl=γ
theorem Lf:∀(l:aF) (B:List Th),Ord B->Ord (B++l.map ι)
 |[],B,h=>by rw[fJ,bR];exact h
 |x::l,B,h=>by rw[aJ,List.append_cons];exact Lf l _ (h.snoc (.inl ⟨O,O⟩))
def RJ(h:vT es):∃(T:List Th) (j:Nat) (G:List L4.D),OU T/\j<T.length/\Bu es []=Z (TD (T.drop j++T.take j),G)/\vT G:=by
 let U:Sl:=.un;obtain⟨d,I,x1,p0,p1,h1⟩:=M' (i:=0) (b:=5) (a:=cC (.int 5)) (λes=>[.pm es,U,U,U,U,U,U,U,U,U]) (λ_=>O) (λ_ _=>O) O h (by decide) (by decide);obtain⟨r,rfl⟩:=cE p0;let R:aF:=η.take (1+r);have lR:R.length=1+r:=by show (η.take (1+r)).length=_;rw[bY];show min (1+r) 5=_;omega
 let RS:Sl:=.z (.bt (R.map D.str));let T0:List Th:=R.map ι;obtain⟨dd,hdd,E,x2,h2⟩:=pk (i:=0) (e:=cV 1) (a:=c1 wU ag) (L:=R.map D.str) (λes=>[.pm es,RS,.O (T0.map en),U,U,U,U,U,U,U]) (λ_=>O) (λ_ _=>O) O O h1 (by intro z;have:=bG dh z;rw[ah,lR]at this;simp at this) (by rw[ah];omega);obtain⟨y,hy,rfl⟩:=au.1 hdd;let B:Th:=⟨"me", ["me", "self"],.you,Z y⟩;let c:List Th:=T0++[B];have o0:Ord T0:=by have:=Lf R [] .nil;rw[bZ]at this;exact this
 have o1:Ord c:=o0.snoc (.inr (.inl ⟨O,ι y,cG hy,O,O⟩));let o:aF:=R++(["me"]:aF);have hH:∀x∈o,∃u∈c,u.n=x/\u.k.hd=γ:=λx H=>by
  rcases aT.1 H with H|H
  .exact⟨ι x,bF _ (cG H),O,O⟩
  .exact⟨B,bx _ (bj.2 O),(bj.1 H).symm,O⟩
 have lP:c.length=2+r:=by show (R.map ι++[B]).length=_;rw[aE,ah,lR];show 1+r+1=_;omega
 have lH:o.length=2+r:=by show (R++_).length=_;rw[aE,lR];show 1+r+1=_;omega
 let Q:Sl:=.z (.bt (r?.map plD));obtain⟨d3,e3,x3,q0,q1,h3⟩:=M' (i:=0) (b:=7) (a:=cC (.int 7)) (λes=>[.pm es,RS,.O (c.map en),.O (o.map D.str),Q,U,U,U,U,U]) (λ_=>O) (λ_ _=>O) O h2 (by decide) (by decide);obtain⟨S,rfl⟩:=cE q0;let N:Sl:=.z (.int (S:Nat));obtain⟨d4,W,x4,u0,u1,h4⟩:=M' (i:=0) (b:=8) (a:=cC (.int 8)) (λes=>[.pm es,RS,.O (c.map en),.O (o.map D.str),Q,N,U,U,U,U]) (λ_=>O) (λ_ _=>O) O h3 (by decide) (by decide);obtain⟨n,rfl⟩:=cE u0;obtain⟨e5,F,M,p,q,t,w,h5,o5,X,g4,x5⟩:=HK RS S (by omega) (aU n) W c o U U U U h4 (by show R++(["me"]:aF)≠[];simp) hH o1 (by rw[cH];omega) (by rw[cH];omega);let T:List Th:=c++F;have lP':F.length=n:=by have:=bG dh X;rw[ah,ah,cH]at this;exact this
 have lT:T.length=2+r+n:=by show (c++F).length=_;rw[aE,lP,lP']
 let HS:Sl:=.O (M.map D.str);obtain⟨d6,A,x6,v0,v1,h6⟩:=M' (i:=0) (b:=T.length) (a:=AR (c1 wU aj)) (λes=>[.pm es,RS,.O (T.map en),HS,Q,N,p,q,t,w]) (λ_=>O) (λ_ _=>O) (IV (vO O (by show Z (D.int _)=_;rw[ah])) O) h5 (by omega) (by omega);obtain⟨j,rfl⟩:=cE v0;have hj:j<T.length:=by omega
 have Y:OU T:=⟨o5,1+r,S,n,y,F,by omega,by omega,by omega,by omega,by show (R.map ι++[B])++F=_;rw[bX];rfl,X,g4⟩;let C:Sl:=.z (.int (j:Nat));let TL:Sl:=.z (TD T);refine⟨T,j,A,Y,hj,?_,h6⟩;refine Gc (ρ:=[.pm A,RS,TL,HS,Q,C,p,q,t,w]) O ?_ O;unfold Bt;refine(uK (ρ':=[.pm I,RS,U,U,U,U,U,U,U,U]) ((uY (vP (JT (ds:=η.map D.str) (ρ1:=[.pm es,U,U,U,U,U,U,U,U,U]) O O (OT (uW (x:=.int 1) O x1 O))))).t ?_)).t ?_
 .show Z (tf.nx [.pm I,.z (.bt (rl (η.map D.str) J (Z (1+(r:Int))))),U,U,U,U,U,U,U,U])=_;rw[show (1+(r:Int))=((1+r:Nat):Int) by omega,JG (1+r) (by rw[ah];show 1+r<=5;omega),<- iP]
 refine(uK (ρ':=[.pm I,RS,.O (T0.map en),U,U,U,U,U,U,U]) ((Ie (xH D.str (λx=>en (ι x)) R (ρ1:=[.pm I,RS,U,U,U,U,U,U,U,U]) O (by omega) λx _=>⟨[.z (.str x)],[.z (.str x)],O,O,O⟩)).t ?_)).t ?_
 .rw[show T0.map en=R.map λx=>en (ι x) by show (R.map ι).map en=_;rw[aZ];rfl];rfl
 refine(uK (ρ':=[.pm E,RS,.O (c.map en),U,U,U,U,U,U,U]) ((wj (Dc (es0:=T0.map en) (es:=T0.map en) (ρ1:=[.pm E,RS,.O (T0.map en),U,U,U,U,U,U,U]) (d:=en B) O (xy (ds:=[.str "me", .du [.str "me", .str "self"],.str "you", .str y]) (uJ O (uJ O (uJ O (uJ x2 O)))) O) O (by show ((R.map ι).map en).length<1000;rw[ah,ah];omega))).t ?_)).t ?_
 .rw[show c.map en=T0.map en++[en B] by show (T0++[B]).map en=_;rw[bu];rfl];rfl
 refine(uK (ρ':=[.pm E,RS,.O (c.map en),.O (o.map D.str),U,U,U,U,U,U]) ((Ie (w6 (xs:=R.map D.str) (ys:=[.str "me"]) (ρ1:=[.pm E,RS,.O (c.map en),U,U,U,U,U,U,U]) O O (by rw[ah];show R.length+1<=1000;omega))).t ?_)).t ?_
 .rw[show o.map D.str=R.map D.str++[.str "me"] by show (R++(["me"]:aF)).map D.str=_;rw[bu];rfl];rfl
 refine(uK (ρ':=[.pm E,RS,.O (c.map en),.O (o.map D.str),.z (.bt ((r?.take 4).map plD)),U,U,U,U,U]) O).t ?_;refine(uK (ρ':=[.pm E,RS,.O (c.map en),.O (o.map D.str),Q,U,U,U,U,U]) O).t ?_;refine(uK ((uY x3).t O)).t ?_;refine(uK (ρ':=[.pm e5,RS,.O (T.map en),HS,Q,N,p,q,t,w]) ((wm (Qf (ρ1:=[.pm W,RS,.O (c.map en),.O (o.map D.str),Q,N,U,U,U,U]) x4 (by omega))).t x5)).t ?_;refine(uK (ρ':=[.pm A,RS,.O (T.map en),HS,Q,C,p,q,t,w]) ((uY x6).t O)).t (xu ?_);refine(w6 (xs:=(T.map en).drop j) (ys:=(T.map en).take j) (ρ1:=[.pm A,RS,TL,HS,Q,C,p,q,t,w]) (ρ2:=[.pm A,RS,TL,HS,Q,C,p,q,t,w]) ?_ ?_ (by rw[fA,bY,ah];omega)).t ?_
 .refine(vP (JT (ds:=T.map en) (ρ1:=[.pm A,RS,TL,HS,Q,C,p,q,t,w]) (l:=Z (j:Int)) (u:=J) O O O)).t ?_;rw[UB j (by rw[ah];omega)]
 .refine(vP (JT (ds:=T.map en) (ρ1:=[.pm A,RS,TL,HS,Q,C,p,q,t,w]) (l:=J) (u:=Z (j:Int)) O O O)).t ?_;rw[JG j (by rw[ah];omega)]
 .rw[<-mm,<- iP,<- bu]
def rwD(w:Wy):L4.D:=.du [.str w.r,.str w.w]
theorem Qg:∀W:List Wy,zr (W.map rwD)=Z (W.map λw=>L3.Dq.du [.str w.r,.str w.w])
 |[]=>rfl
 |w::W=>by rw[aJ];unfold zr;rw[Qg W];rfl
def adL(r x:Str)(W:List Wy):K? (.du [.str r,.str x]) (.bt (W.map rwD))=Z (.I (!decide ([r,x]∈W.map λw=>[w.r,w.w]))):=by
 unfold K?;dsimp only;rw[show rh (.du [.str r,.str x])=Z (.du [.str r,.str x]) from O,Qg];dsimp only;rw[ak]
 .congr 3;rw[dg,fD,bQ,au];constructor
  .rintro⟨e,b,h⟩;obtain⟨w,a,rfl⟩:=au.1 b;have h:((w.r==r)&&((w.w==x)&&γ))=γ:=h;rw[aW,aW,beq_iff_eq,beq_iff_eq]at h;exact⟨w,a,by rw[h.1,h.2.1]⟩
  .rintro⟨w,a,h⟩;refine⟨_,au.2 ⟨w,a,O⟩,?_⟩;have c:w.r=r/\w.w=x:=by simpa using h
   show ((w.r==r)&&((w.w==x)&&γ))=γ;rw[c.1,c.2];simp
 .rw[aW];refine⟨O,aS.2 λe b=>?_⟩;obtain⟨w,a,rfl⟩:=au.1 b;rfl
def wB:FS:=(uO (vc 7 (c2 f3 aw (vH uN 0 gv)))
 (uO (vc 8 (c2 f3 (cL (vp m9)) (vH uN 0 dq)))
 (uO (vc 9 (c2 f3 aw (vH uN 0 gv)))
 (uO (vc 10 (c2 f3 ay (vH uN 0 (a1 (c1 wU ay)))))
 (fh (z5 (cT (c2 K? (vC ko) (cL (uX 1 [] (iL bw) (gN 0) vN (LV aa J (Z 2))))))) (vG (AQ 5 (vC nE))) uZ)))))
section
variable{T:List Th}{M:List Mk}{es:List L4.D}
def Q'(T:List Th)(M:List Mk):List (Option Str):=J::J::(M.map Mk.n++(T.filter λt=>t.k.mk).map Th.n).map Z
def abS(h:m∈Q' T M)(e:m=Z x):x∈vf T M:=by
 subst e;have h:Z x∈(M.map Mk.n++(T.filter λt=>t.k.mk).map Th.n).map Z:=by simpa [Q']using h
 obtain⟨y,a,e⟩:=au.1 h;cases e;rcases aT.1 a with a|a
 .exact bx _ a
 .exact bF _ a
def UY(R:ll T≠[])(lr:(ll T).length<=13)(ld:(Q' T M).length<=20)(h:vT es)(W:List Wy)(lW:W.length<=900)(ok:∀w∈W,Kj T M w)(U:(W.map λw=>[w.r,w.w]).Nodup)(a b j N E t f:Sl):
  ∃(q:List L4.D) (A:List Wy) (t7 t8 t9 P:Sl),vT q/\A.length<=W.length+1/\(∀w∈A,Kj T M w)/\(A.map λw=>[w.r,w.w]).Nodup/\
   wB [.pm es,a,b,.z (.bt ((ll T).map D.str)),.z (.bt ((Q' T M).map oS)),.O (W.map n3),j,N,E,t,f]=Z (.nx [.pm q,a,b,.z (.bt ((ll T).map D.str)),.z (.bt ((Q' T M).map oS)),.O (A.map n3),j,t7,t8,t9,P]):=by
 let RM:Sl:=.z (.bt ((ll T).map D.str));let DR:Sl:=.z (.bt ((Q' T M).map oS));let WS:Sl:=.O (W.map n3);obtain⟨d1,F,e1,x1,h1⟩:=pk (i:=0) (e:=cV 3) (a:=c1 wU aw) (L:=(ll T).map D.str) (λes=>[.pm es,a,b,RM,DR,WS,j,N,E,t,f]) (λ_=>O) (λ_ _=>O) O O h (by simpa using R) (by rw[ah];omega);obtain⟨r,I,rfl⟩:=au.1 F;let X:Sl:=.z (.str r);obtain⟨x,hx,e2,x2,h2⟩:=OR (i:=0) (c:=4) (e:=cL (vp m9)) ["north", "up", "outside", "north"] (λes=>[.pm es,a,b,RM,DR,WS,j,X,E,t,f]) (λ_=>O) (λ_ _=>O) O h1 O (by decide) (by decide);let Y:Sl:=.z (.str x);obtain⟨d3,G,e3,x3,h3⟩:=pk (i:=0) (e:=cV 3) (a:=c1 wU aw) (L:=(ll T).map D.str) (λes=>[.pm es,a,b,RM,DR,WS,j,X,Y,t,f]) (λ_=>O) (λ_ _=>O) O O h2 (by simpa using R) (by rw[ah];omega);obtain⟨g,hg,rfl⟩:=au.1 G;let AT:Sl:=.z (.str g);obtain⟨d4,H,B,x4,Q⟩:=pk (i:=0) (e:=cV 4) (a:=c1 wU ay) (L:=(Q' T M).map oS) (λes=>[.pm es,a,b,RM,DR,WS,j,X,Y,AT,f]) (λ_=>O) (λ_ _=>O) O O h3 (by simp[Q']) (by rw[ah];omega);obtain⟨m,hm,rfl⟩:=au.1 H;let u:Sl:=.z (oS m);let w:Wy:=⟨r,x,g,m⟩;have wok:Kj T M w:=⟨I,(show ∀x∈(["north", "up", "outside", "north"]:aF),x∈(["north", "up", "outside"]:aF) by decide) x hx,hg,λy e=>abS hm e⟩;let o:aQ:=[.pm B,a,b,RM,DR,WS,j,X,Y,AT,u];have C:z5 (cT (c2 K? (vC ko) (cL (uX 1 [] (iL bw) (gN 0) vN (LV aa J (Z 2)))))) o=Z (!decide ([r,x]∈W.map λw=>[w.r,w.w]),o):=by refine Pu (ρ1:=o.map Sl.W2) (vZ (uW (x:=.du [.str r,.str x]) (y:=.bt (W.map rwD)) (ρ1:=o.map Sl.W2) O (vP (xH n3 rwD W (ρ1:=o.map Sl.W2) O (by omega) λw _=>⟨[.z (n3 w)],[.z (n3 w)],O,O,O⟩)) (adL r x W)))
 have pre:wB [.pm es,a,b,RM,DR,WS,j,N,E,t,f]=fh (z5 (cT (c2 K? (vC ko) (cL (uX 1 [] (iL bw) (gN 0) vN (LV aa J (Z 2))))))) (vG (AQ 5 (vC nE))) uZ o:=by unfold wB;exact(uK ((uY x1).t O)).t ((uK ((uY x2).t O)).t ((uK ((uY x3).t O)).t (uK ((uY x4).t O))))
 by_cases c:[r,x]∈W.map λw=>[w.r,w.w]
 .rw[aV c]at C;exact⟨B,W,X,Y,AT,u,Q,by omega,ok,U,pre.t ((vI C).t O)⟩
 .rw[aX c]at C;refine⟨B,W++[w],X,Y,AT,u,Q,by rw[aE];exact aO _,λy l=>?_,?_,pre.t ((u4 C).t ((wj (Dc (es0:=W.map n3) (es:=W.map n3) (ρ1:=o) (d:=n3 w) O O O (by rw[ah];omega))).t ?_))⟩
  .rcases aT.1 l with l|l
   .exact ok y l
   .rw[bj.1 l];exact wok
  .rw[bu,cp];refine⟨U,by simp,λy l z S e=>c ?_⟩;rw[aJ,fJ,bj]at S;rw[e,S]at l;exact l
  .show Z (tf.nx [.pm B,a,b,RM,DR,.O (W.map n3++[n3 w]),j,X,Y,AT,u])=_;rw[show (W++[w]).map n3=W.map n3++[n3 w] by rw[bu];rfl]
theorem Lg(E:ll T≠[])(F:(ll T).length<=13)(ld:(Q' T M).length<=20)(a b:Sl):∀(l es:List L4.D) (W:List Wy) (o e f i c:Sl),vT es->W.length+l.length<=900->(∀w∈W,Kj T M w)->(W.map λw=>[w.r,w.w]).Nodup->
  ∃(m:List L4.D) (p:List Wy) (S z A B j:Sl),vT m/\p.length<=W.length+l.length/\(∀w∈p,Kj T M w)/\(p.map λw=>[w.r,w.w]).Nodup/\
   fl (gN 6) wB l [.pm es,a,b,.z (.bt ((ll T).map D.str)),.z (.bt ((Q' T M).map oS)),.O (W.map n3),o,e,f,i,c]=Z (.nx [.pm m,a,b,.z (.bt ((ll T).map D.str)),.z (.bt ((Q' T M).map oS)),.O (p.map n3),S,z,A,B,j])
 |[],es,W,o,e,f,i,c,h,_,ok,q=>⟨es,W,o,e,f,i,c,h,aO _,ok,q,O⟩
 |d::l,es,W,o,e,f,i,c,h,R,ok,q=>by rw[aN]at R;obtain⟨I,G,z,A,B,j,P,l1,x,t,x1⟩:=UY E F ld h W (by omega) ok q a b (.z d) e f i c;obtain⟨N,H,U,X,Y,u9,C,Q,l2,y,u,x2⟩:=Lg E F ld a b l I G (.z d) z A B j P (by omega) x t;refine⟨N,H,U,X,Y,u9,C,Q,by rw[aN];omega,y,u,?_⟩;unfold fl;rw[show gN 6 d [.pm es,a,b,.z (.bt ((ll T).map D.str)),.z (.bt ((Q' T M).map oS)),.O (W.map n3),o,e,f,i,c]=Z [.pm es,a,b,.z (.bt ((ll T).map D.str)),.z (.bt ((Q' T M).map oS)),.O (W.map n3),.z d,e,f,i,c] from O];simp only[x1];exact x2
def adM(M:List Mk)(K:aF):([D.E,.E]++M.map λm=>D.str m.n)++K.map D.str=.E::.E::((M.map Mk.n++K).map Z).map oS:=by simp[oS,Function.comp_def]
def Xp(hT:T.length<=13)(hM:M.length<=4)(F:ll T≠[])(h:vT es):∃W j,DL es [TD T,MD M]=Z (WD W,j)/\vT j/\W.length<=8/\(∀w∈W,Kj T M w)/\(W.map λw=>[w.r,w.w]).Nodup:=by
 let A:Sl:=.z (TD T);let B:Sl:=.z (MD M);let U:Sl:=.un;let RM:Sl:=.z (.bt ((ll T).map D.str));let DR:Sl:=.z (.bt ((Q' T M).map oS));let K:=(T.filter λt=>t.k.mk).map Th.n;have lK:K.length<=13:=by show (dH Th.n _).length<=13;rw[ah];exact bD (cu _ _) hT
 have H:(ll T).length<=13:=by unfold ll;rw[ah];exact bD (cu _ _) hT
 have ld:(Q' T M).length<=20:=by unfold Q';rw[aN,aN,ah,aE,ah];show M.length+K.length+1+1<=20;omega
 obtain⟨d,p,P,N,X,C⟩:=M' (i:=0) (b:=9) (a:=cC (.int 9)) (λes=>[.pm es,A,B,RM,DR,.O [],U,U,U,U,U]) (λ_=>O) (λ_ _=>O) O h (by decide) (by decide);obtain⟨n,rfl⟩:=cE N;obtain⟨o,W,q,u,x,y,l,E,lW,ok,I,Q⟩:=Lg F H ld A B ((aU n).map λk:Nat=>D.int (k:Nat)) p [] U U U U U C (by simp;omega) (λw G=>(by cases G)) .nil;rw[ah,cH]at lW;simp only[fE]at lW;refine⟨W,o,Gc (ρ:=[.pm o,A,B,RM,DR,.un,q,u,x,y,l]) O ?_ O,E,by omega,ok,I⟩;unfold DJ;refine(uK (ρ':=[.pm es,A,B,RM,U,U,U,U,U,U,U]) ((uY (vP (uL (g:=vx) (ds:=[TD T,.bt ((["room"]:aF).map D.str)]) (ρ1:=[.pm es,A,B,U,U,U,U,U,U,U,U]) O (zN T (by omega) ["room"] (λk=>decide (k=.room)) OQ)))).t O)).t ?_;let f:aQ:=[.pm es,A,B,RM,U,U,U,U,U,U,U];refine(uK (ρ':=[.pm es,A,B,RM,DR,U,U,U,U,U,U]) ((uY (vP (w6 (xs:=[.E,.E]++M.map λm=>D.str m.n) (ys:=K.map D.str) (ρ1:=f) (ρ2:=f) ?_ ?_ ?_))).t ?_)).t ?_
 .exact vP (w6 (xs:=[.E,.E]) (ρ1:=f) O (vP (xH o3 (λm=>D.str m.n) M (ρ1:=f) O (by omega) λm _=>⟨[.z (o3 m)],[.z (o3 m)],O,O,O⟩)) (by rw[ah];show 2+M.length<=1000;omega))
 .exact vP (uL (g:=vx) (ds:=[TD T,.bt ((["box", "lamp"]:aF).map D.str)]) (ρ1:=f) O (zN T (by omega) ["box", "lamp"] Kd.mk UN))
 .rw[aE,ah,ah];show 2+M.length+K.length<=1000;omega
 .show Z (tf.nx [.pm es,A,B,RM,.z (.bt (([.E,.E]++M.map λm=>D.str m.n)++K.map D.str)),U,U,U,U,U,U])=_;rw[show ([.E,.E]++M.map λm=>D.str m.n)++K.map D.str=(Q' T M).map oS from adM M K]
 refine(uK (ρ':=[.pm es,A,B,RM,DR,.O [],U,U,U,U,U]) O).t ?_;exact(uK (ρ':=[.pm o,A,B,RM,DR,.O (W.map n3),q,u,x,y,l]) ((wm (Qf (ρ1:=[.pm p,A,B,RM,DR,.O [],U,U,U,U,U]) P (by omega))).t Q)).t O
end
def abT:((aU 7).all λa=>(aU 8).all λn=>decide (η++("me" : Str)::((aU n).map λk=>(Kl ((k+a) % 7)).1)++mkL).Nodup)=γ:=by kernel_rfl
def RK{a:Type}(l:List a)(j:Nat):(l.drop j++l.take j).Perm l:=(List.perm_append_comm).t (by rw[List.take_append_drop])
def UZ{T:List Th}(p:T.Perm T0)(h:Mc T0 t):D1 T t:=by
 have i:∀u∈T0,u.k=.room->u.n∈ll T:=λu a f=>cG (aY.2 ⟨p.mem_iff.2 a,aV f⟩);have e:∀u∈T0,u.k.hd=γ->u.n∈p? T:=λu a f=>cG (aY.2 ⟨p.mem_iff.2 a,f⟩);obtain⟨n,w,k,s⟩:=t;rcases h with ⟨b,c⟩|⟨b,u,a,c,d⟩|⟨b,u,a,c,d⟩
 .simp only at b c;subst b c;exact trivial
 .simp only at b c;subst b c;exact i u a d
 .simp only at b c;subst c;cases k with
  |room=>cases b
  |you=>cases b
  |plain=>exact e u a d
  |fixed=>exact e u a d
  |box=>exact e u a d
  |lamp=>exact e u a d
structure Base(T:List Th):Prop where
 len:T.length<=13
 r1:1<=(T.filter λt=>decide (t.k=.room)).length
 r5:(T.filter λt=>decide (t.k=.room)).length<=5
 y1:(T.filter λt=>decide (t.k=.you)).map Th.n=(["me"]:aF)
 p7:(T.filter λt=>t.k.pl).length<=7
 nd:∀m,(T.map Th.n++mkL.take m).Nodup
 nm:∀x∈T.map Th.n,Nm x
 st:∀t∈T,D1 T t
 rk:∃r,Mb T r
 wd:∀t∈T,D3 t
def Xq(d:OU T0)(j:Nat):Base (T0.drop j++T0.take j):=by
 have p:=RK T0 j;obtain⟨r,w,n,y,P,N,Q,b,H,l,eP,hP⟩:=d.ex;let R:=(η.take r).map ι;let c:Th:=⟨"me", ["me", "self"],.you,Z y⟩;have lR:R.length=r:=by show ((η.take r).map ι).length=r;rw[ah,bY];show min r 5=r;omega
 have lP:P.length=n:=by have:=bG dh eP;rw[ah,ah,cH]at this;exact this
 have i:∀t∈R,t.k=.room:=λt h=>by obtain⟨x,_,rfl⟩:=au.1 h;rfl
 have spl:∀p:Th->Bool,T0.filter p=R.filter p++((if p c=γ then [c]else [])++P.filter p):=λp=>by rw[l,List.filter_append,gL];show R.filter p++(if p c=γ then c::P.filter p else P.filter p)=_;split<;>rfl
 have all_:∀(p:Kd->Bool) (L:List Th),(∀t∈L,p t.k=γ)->L.filter (λt=>p t.k)=L:=λp L h=>oY.2 h;have non_:∀(p:Kd->Bool) (L:List Th),(∀t∈L,p t.k=δ)->L.filter (λt=>p t.k)=[]:=λp L h=>List.filter_eq_nil_iff.2 λt b z=>by rw[h t b]at z;cases z
 have plk:∀k:Kd,k.pl=γ->decide (k=.room)=δ/\decide (k=.you)=δ:=JQ (λz=>by cases z) (λz=>by cases z) (λ_=>⟨O,O⟩) (λ_=>⟨O,O⟩) (λ_=>⟨O,O⟩) (λ_=>⟨O,O⟩);have fr:T0.filter (λt=>decide (t.k=.room))=R:=by rw[spl,all_ (λk=>decide (k=.room)) R λt h=>by rw[i t h];rfl,non_ (λk=>decide (k=.room)) P λt h=>(plk t.k (hP t h)).1];exact bR R
 have E:T0.filter (λt=>decide (t.k=.you))=[c]:=by rw[spl,non_ (λk=>decide (k=.you)) R λt h=>by rw[i t h];rfl,non_ (λk=>decide (k=.you)) P λt h=>(plk t.k (hP t h)).2];rfl
 have C:T0.filter (λt=>t.k.pl)=P:=by rw[spl,non_ Kd.pl R λt h=>by rw[i t h];rfl,all_ Kd.pl P hP];rfl
 have eN:T0.map Th.n=η.take r++("me" : Str)::(aU n).map λk=>(Kl ((k+w) % 7)).1:=by
  rw[l,bu,aJ];have A:((η.take r).map ι).map Th.n=η.take r:=by rw[aZ];exact gZ _
  have B:P.map Th.n=(aU n).map λk=>(Kl ((k+w) % 7)).1:=by have:=bG (dH cQ) eP;rw[aZ,aZ]at this;exact this
  rw[A,B]
 have big:=bB (aS.1 (aS.1 abT w (bL.2 b)) n (bL.2 H));have wP:∀t∈P,t.nw∈r?:=λt h=>by have o:t.nw∈P.map Th.nw:=cG h;rw[eP]at o;obtain⟨k,_,e⟩:=au.1 o;rw[<-e];exact(UX (gj _ (by decide))).1
 have S:∀t∈T0,D3 t:=λt h=>by
  rw[l]at h;rcases aT.1 h with h|h
  .obtain⟨x,a,rfl⟩:=au.1 h;exact⟨bF _ (au.2 ⟨x,iz a,O⟩),λz=>by cases z⟩
  .rcases aL.1 h with rfl|h
   .exact⟨bx _ bb,λz=>by cases z⟩
   .exact⟨bx _ (ba _ (wP t h)),λ_=>wP t h⟩
 have f:∀m,(T0.map Th.n++mkL.take m).Nodup:=λm=>by rw[eN];exact big.sublist (((iG r η).append (uF _)).append (iG m mkL))
 constructor
 .rw[p.length_eq,l,aE,aN,ah,bY,lP];show min r 5+(n+1)<=13;omega
 .rw[(p.filter _).length_eq,fr,lR];exact N
 .rw[(p.filter _).length_eq,fr,lR];exact Q
 .have:=p.filter λt=>decide (t.k=.you);rw[E]at this;rw[List.perm_singleton.1 this];rfl
 .rw[(p.filter _).length_eq,C,lP];omega
 .intro m;exact((p.map _).append_right _).nodup_iff.2 (f m)
 .intro x a;have a:=(p.map Th.n).mem_iff.1 a;rw[eN]at a;rcases aT.1 a with a|a
  .exact bF _ (bF _ (iz a))
  .refine bF _ (bx _ ?_);rcases aL.1 a with rfl|a
   .exact bb
   .obtain⟨k,_,rfl⟩:=au.1 a;exact ba _ (cG (UX (gj _ (by decide))).1)
 .intro t b;exact UZ p (d.kx.all t (p.mem_iff.1 b))
 .obtain⟨i,h⟩:=d.kx.rank (cp.1 (f 0)).1;refine⟨i,λt b=>?_⟩;obtain⟨o,F⟩:=h t (p.mem_iff.1 b);refine⟨by rw[p.length_eq];exact o,λq I=>?_⟩;obtain⟨G,u,M,e⟩:=F q I;exact⟨G,u,p.mem_iff.2 M,e⟩
 .exact λt b=>S t (p.mem_iff.1 b)
theorem Lh(er:aQ):∀(l:aF) (es:List L4.D),vT es->∃(f:aF) (j:List L4.D),f.Sublist l/\vT j/\
  Ao 1 [0] (gN 0) (cT (c2 (e? δ) (vH uN 1 gw) aP)) aa (l.map D.str) (.pm es::er)=Z (f.map D.str,.pm j::er)
 |[],es,h=>⟨[],es,.slnil,h,O⟩
 |x::l,es,h=>by
  obtain⟨d,e,u,w,z,t⟩:=M' (i:=1) (b:=3) (a:=cC (.int 3)) (λes=>[.z (.str x),.pm es]) (λ_=>O) (λ_ _=>O) O h (by decide) (by decide);obtain⟨f,o,q,p,r⟩:=Lh er l e t;have m:cT (c2 (e? δ) (vH uN 1 gw) aP) [.z (.str x),.pm es]=Z (decide (d=0),[.z (.str x),.pm e]):=vZ (uW (x:=.int d) (y:=.int 0) u O (yE δ d 0));rw[aJ];unfold Ao;rw[show gN 0 (.str x) (E2 1 [0] (.pm es::er))=Z [.z (.str x),.pm es] from O];by_cases c:d=0
  .rw[aV c]at m;refine⟨x::f,o,q.cons_cons x,p,?_⟩;simp only[m,show cV 0 [.z (.str x),.pm e]=Z (.str x,[.z (.str x),.pm e]) from O];rw[show yz [0] (([.z (.str x),.pm e]:aQ).drop 1) (.pm es::er)=Z (.pm e::er) from O];simp only[r];rfl
  .rw[aX c]at m;refine⟨f,o,q.cons x,p,?_⟩;simp only[m];rw[show yz [0] (([.z (.str x),.pm e]:aQ).drop 1) (.pm es::er)=Z (.pm e::er) from O];exact r
def Xr(h:vT es):∃(T:List Th) (M:List Mk) (dk:aF) (W:List Wy) (t n:Nat) (R p:List L4.D),e8 T M dk W/\t<6/\n<7/\R.length<=8/\(∀r∈R,RuQ T M (vL t n) (gi T M dk W (vL t n)) r)/\Bc es [.int 8]=Z (.bt [TD T,MD M,.bt (dk.map D.str),WD W,VD (vL t n),.bt R],p):=by
 obtain⟨T0,j,e,d0,X,H,w⟩:=RJ h;let T:=T0.drop j++T0.take j;have b:Base T:=Xq d0 j;obtain⟨M,f,I,y,mo,m,eM⟩:=UW w;have lM:M.length<=4:=by have:=bG dh eM;rw[ah,bY]at this;rw[this];exact pV _ _
 let A:Sl:=.z (TD T);let B:Sl:=.z (MD M);let AT:Sl:=.z (.int 8);obtain⟨dk,i,sl,C,N⟩:=Lh [AT,A,B,.un,.un,.un] (ll T) f y;let DK:Sl:=.z (.bt (dk.map D.str));have rne:ll T≠[]:=λz=>by have:=b.r1;unfold ll at z;rw[kY]at z;rw[z]at this;exact aq this (by decide)
 obtain⟨W,l,P,E,lW,okW,ndW⟩:=Xp b.len lM rne C;obtain⟨t,n,o,u,hn,Q,F⟩:=UV E;have rmnd:(ll T).Nodup:=(jA.map Th.n).nodup (cp.1 (b.nd 0)).1;have g:e8 T M dk W:={
  len:=b.len,r1:=b.r1,r5:=b.r5,y1:=b.y1,p7:=b.p7,m4:=lM,mo:=mo
  nm:=λx d=>by
   rcases aT.1 d with d|d
   .exact b.nm x d
   .rw[eM]at d;exact bx _ (iz d)
  nd:=by rw[eM];exact b.nd m
  st:=b.st,rk:=b.rk,wd:=b.wd
  d0:=bD sl.length_le (by unfold ll;rw[ah];exact b.r5)
  d1:=rmnd.sublist sl
  d2:=λx d=>sl.subset d
  w8:=lW,wo:=okW,wn:=ndW }
 obtain⟨R,q,S,U,lR,ok⟩:=UU (V:=vL t n) g (λv G=>Mh G) (JJ t n) (P7 u hn) F;refine⟨T,M,dk,W,t,n,R,q,g,u,hn,lR,ok,?_⟩;let WS:Sl:=.z (WD W);let VS:Sl:=.z (VD (vL t n));have Y:T.length<=13:=b.len;refine Gc (ρ:=[.pm q,AT,A,B,DK,WS,VS]) O ?_ O;unfold DM;refine(uK (ρ':=[.pm e,AT,A,.un,.un,.un,.un]) ((uY (yL (es0:=es) (es:=es) (ds:=[]) (ρ1:=[.pm es,AT,.un,.un,.un,.un,.un]) O O O H)).t O)).t ?_;refine(uK (ρ':=[.pm f,AT,A,B,.un,.un,.un]) ((uY (yL (es0:=e) (es:=e) (ds:=[]) (ρ1:=[.pm e,AT,A,.un,.un,.un,.un]) O O O I)).t O)).t ?_;refine(uK (ρ':=[.pm i,AT,A,B,DK,.un,.un]) ((uY (vP ((E8 (ds:=(ll T).map D.str) (ρ1:=[.pm f,AT,A,B,.un,.un,.un]) ?_ (by rw[ah];unfold ll;rw[ah];have:=b.r5;omega)).t N))).t O)).t ?_
 .unfold iL;rw[vP (uL (g:=vx) (ds:=[TD T,.bt ((["room"]:aF).map D.str)]) (ρ1:=[.pm f,AT,A,B,.un,.un,.un]) O (zN T (by omega) ["room"] (λk=>decide (k=.room)) OQ))];rfl
 refine(uK (ρ':=[.pm l,AT,A,B,DK,WS,.un]) ((uY (yL (es0:=i) (es:=i) (ds:=[TD T,MD M]) (ρ1:=[.pm i,AT,A,B,DK,.un,.un]) O O O P)).t O)).t ?_;refine(uK (ρ':=[.pm o,AT,A,B,DK,WS,VS]) ((uY (yL (es0:=l) (es:=l) (ds:=[]) (ρ1:=[.pm l,AT,A,B,DK,WS,.un]) O O O Q)).t O)).t ?_;exact xu (To (uJ O (uJ O (uJ O (uJ O (uJ O (uJ ((yL (es0:=o) (es:=o) (ds:=[TD T,MD M,VD (vL t n),.int 8]) (ρ1:=[.pm o,AT,A,B,DK,WS,VS]) O O O S).t O) O)))))) (by show 6<=1000;decide))
def wtL(w:Wy):List L4.D:=[atO "me" w.r,woO w.w]++match w.m with|none=>[]|some m=>[noO (mkO m 0)]
def goO(w:Wy):L4.D:=q? "go" (wtL w) [O' "me" w.g] "You go." δ
def A21:List L4.D:=(Ci [.str "me"]).getD []++(Dv []).getD []++(Dx []).getD []++(Bq []).getD []
def SH(W:List Wy):List L4.D:=A21++(W.map goO++[q? "go" [] [] "No way there." γ])++[q? "wait" [] [] "Time goes by." δ]
def adN(w:Wy):Dy [.str "me", n3 w]=Z (wtL w):=by obtain⟨r,x,g,m⟩:=w;cases m<;>kernel_rfl
def Xs(w:Wy):AF [.str "go", .bt (wtL w),.bt [O' "me" w.g],.str "You go."]=Z (goO w):=by kernel_rfl
def adO(W:List Wy)(f:W.length<=8):EB [.str "me", WD W]=Z (W.map goO++[q? "go" [] [] "No way there." γ]):=by
 let c:aQ:=[.z (.str "me"),.z (WD W),.un];let b:aQ:=[.z (.str "me"),.z (WD W),.z (.bt (W.map goO))];refine Aq (ρ:=b) O ?_;unfold EA;refine(uK (ρ':=b) ((uY (vP (xH n3 goO W (ρ1:=c) O (by omega) λw _=>⟨[.z (n3 w),.z (.str "me")],[.z (n3 w),.z (.str "me")],O,?_,O⟩))).t O)).t ?_
 .exact uL (ds:=[.str "go", .bt (wtL w),.bt [O' "me" w.g],.str "You go."]) (uJ O (uJ (vP (uL (ds:=[.str "me", n3 w]) O (adN w))) (uJ O (uJ O O)))) (Xs w)
 .exact xu (w6 (xs:=W.map goO) (ys:=[q? "go" [] [] "No way there." γ]) (ρ1:=b) O (by kernel_rfl) (by rw[ah];show W.length+1<=1000;omega))
def Qh:A21.length<=50:=kO (by kernel_rfl)
def abU{W:List Wy}(a:W.length<=8):(SH W).length<=100:=by have:=Qh;unfold SH;rw[aE,aE,aE,ah];show A21.length+(W.length+1)+1<=100;omega
def RN(W:List Wy)(c:W.length<=8):AG [.str "me", WD W]=Z (SH W):=by
 have:=Qh;let a:aQ:=[.z (.str "me"),.z (WD W)];refine Aq (ρ:=a) O (xu (w6 (xs:=A21++(W.map goO++[q? "go" [] [] "No way there." γ])) (ys:=[q? "wait" [] [] "Time goes by." δ]) (ρ1:=a) (vP (w6 (xs:=A21) (ρ1:=a) (by kernel_rfl) (vP (uL (ds:=[.str "me", WD W]) O (adO W c))) ?_)) (by kernel_rfl) ?_))
 .rw[aE,ah];show A21.length+(W.length+1)<=1000;omega
 .rw[aE,aE,ah];show A21.length+(W.length+1)+1<=1000;omega
def Ye(W:List Wy):∀d∈SH W,gK d=γ:=λd hd=>by
 unfold SH at hd;rcases aT.1 hd with hd|hd
 .rcases aT.1 hd with hd|hd
  .exact aS.1 (show A21.all gK=γ by kernel_rfl) d hd
  .rcases aT.1 hd with hd|hd
   .obtain⟨w,_,rfl⟩:=au.1 hd;obtain⟨r,x,g,m⟩:=w;cases m<;>kernel_rfl
   .rw[bj.1 hd];kernel_rfl
 .rw[bj.1 hd];kernel_rfl
def abV(h:gK d=γ):w? 16 14 d=γ:=by unfold gK at h;rw[aW]at h;exact h.2
section
variable{T:List Th}{M:List Mk}{dk:aF}{W:List Wy}{V:List Vb}{R:List L4.D}
def wA(T:List Th)(M:List Mk)(dk:aF)(W:List Wy)(V:List Vb)(R:List L4.D)(c:L4.D):List L4.D:=[TD T,MD M,.bt (dk.map D.str),WD W,VD V,VD v9,.str "me", .Q (nK T) (T.map en),mD T M,vwD (V++v9),.bt R,.bt (SH W),.bt R,c]
def wS(T:List Th)(M:List Mk)(dk:aF)(W:List Wy)(V:List Vb)(R:List L4.D)(c:L4.D)(q:Sl)(k:Nat):aQ:=[.ob 14 (ts.take k) ((wA T M dk W V R c).take k),.z (TD T),.z (MD M),.z (.bt (dk.map D.str)),.z (WD W),.z (VD V),.z (.bt R),q]
def NM{r:aQ}(b:e (.z (.obj 14 a ds)::r.map Bf)=Z (d,r'))(c:w? 16 14 d=γ):Ea 16 e (.ob 14 a ds::r)=Z (d,.ob 14 a ds::r):=by unfold Ea;simp only[b,c];rfl
def JV(c:e (.ob 14 a ds::r)=Z (d,.ob 14 a ds::r))(f:a.contains b=δ)(h:ds.length=a.length)(i:a.length<900):vU 14 0 b e (.ob 14 a ds::r)=Z (.nx (.ob 14 (a++[b]) (ds++[d])::r)):=by unfold vU;rw[c];show (if 14=14 then if a.contains b=γ then J else if ds.length=a.length then if a.length<900 then Z (tf.nx (.ob 14 (a++[b]) (ds++[d])::r))else J else J else J)=_;rw[ak O,f,ao bq,ak h,ak i]
def F2(V:List Vb)(lV:V.length<=6)(a b c d:L4.D)(e:aF)(ds:List L4.D):xY [.obj 14 ("kept_things" ::"kept_marks" ::"kept_dark" ::"kept_ways" ::"kept_verbs" ::"shared_verbs" ::e) (a::b::c::d::VD V::VD v9::ds)]=Z (VD (V++v9)):=by refine(Gh (ρ:=[.z (.obj 14 ("kept_things" ::"kept_marks" ::"kept_dark" ::"kept_ways" ::"kept_verbs" ::"shared_verbs" ::e) (a::b::c::d::VD V::VD v9::ds))]) O (xu (w6 (xs:=V.map j?) (ys:=v9.map j?) O O (by rw[ah];show V.length+9<=1000;omega)))).t ?_;rw[<-bu]
def abW(b:∀v∈V,v∈v6):w? 16 14 (vwD (V++v9))=γ:=by
 show zS 16 14 _=γ;refine BS _ λd hd=>?_;obtain⟨v,a,hd⟩:=dR.1 hd;obtain⟨x,_,rfl⟩:=au.1 hd;refine aS.1 (show ((v6++v9).all λv=>w? 16 14 (j? v))=γ by kernel_rfl) v ?_;rcases aT.1 a with a|a
 .exact bF _ (b v a)
 .exact bx _ a
def U0(g:e8 T M dk W)(p:t<6)(o:n<7)(hR:∀r∈R,RuOk (gi T M dk W (vL t n)) r)(lR:R.length<=8):∃f dss,zi [TD T,MD M,.bt (dk.map D.str),WD W,VD (vL t n),.bt R]=Z (ts,wA T M dk W (vL t n) R (.Q f (dss.map .bt)))/\∀j,gl f dss j=(R++SH W).filter λd=>decide (kv d=j):=by
 have I:=abU g.w8;have H:=g.len;let V:=vL t n;have lV:V.length<=6:=JJ t n;have C:∀d∈R++SH W,gK d=γ:=λd hd=>by
  rcases aT.1 hd with hd|hd
  .exact(hR d hd).g
  .exact Ye W d hd
 obtain⟨f,dss,y,z,A⟩:=UT (R++SH W) [] [] C O (by rw[aE];simp only[fE];omega) λb h=>(by cases h);let c:L4.D:=.Q f (dss.map .bt);refine⟨f,dss,?_,λj=>(z j).t (bZ _)⟩;let B:Sl:=.z (.I γ);have G:w? 16 14 c=γ:=by show zS 16 14 (dss.map .bt)=γ;exact BS _ λd hd=>by obtain⟨b,h,rfl⟩:=au.1 hd;exact A b h
 let S:=wS T M dk W V R c;have e:zh (S .un 0)=Z (.nx (S B 14)):=by
  unfold zh;refine(uK (ρ':=S .un 0) (wj (uL (ds:=[TD T,MD M,.bt (dk.map D.str),WD W,VD V,VD v9]) (uJ O (uJ O (uJ O (uJ O (uJ O (uJ (vP (uL (ds:=[]) O UC)) O)))))) (JN g p o)))).t ?_;refine(uK (ρ':=S .un 1) (by kernel_rfl)).t ((uK (ρ':=S .un 2) (by kernel_rfl)).t ((uK (ρ':=S .un 3) (by kernel_rfl)).t ((uK (ρ':=S .un 4) (by kernel_rfl)).t ((uK (ρ':=S .un 5) (by kernel_rfl)).t ((uK (ρ':=S .un 6) (by kernel_rfl)).t ?_)))));have eY:((T.filter λt=>decide (t.k=.you)).map λt=>D.str t.n)=[.str "me"]:=by rw[show (λt:Th=>D.str t.n)=D.str∘Th.n from O,<- aZ,g.y1];rfl
  refine(uK (ρ':=S .un 7) (JV (r:=(S .un 6).tail) (NM (d:=.str "me") (r':=(.z (.obj 14 (ts.take 6) ((wA T M dk W V R c).take 6)))::((S .un 6).tail).map Bf) (uW (x:=.bt [.str "me"]) (vz (xs:=(wA T M dk W V R c).take 6) (ys:=[.str Kd.you.s]) (hh:=zY) O O O O ((JO T (by omega) _ _ .you).t (by rw[eY]))) O O) O) O O (by decide))).t ?_;refine(uK (ρ':=S .un 8) (JV (r:=(S .un 7).tail) (uL (ds:=[TD T]) O (OO T (by omega) g.z?)) O O (by decide))).t ?_;refine(uK (ρ':=S .un 9) (JV (r:=(S .un 8).tail) (uL (ds:=[TD T,MD M]) O (UD g)) O O (by decide))).t ?_;refine(uK (ρ':=S .un 10) (JV (r:=(S .un 9).tail) (NM (r':=(.z (.obj 14 (ts.take 9) ((wA T M dk W V R c).take 9)))::((S .un 9).tail).map Bf) (uL (ds:=[VD (V++v9)]) (uJ (vz (xs:=(wA T M dk W V R c).take 9) (ys:=[]) (hh:=xY) O O O O (F2 V lV _ _ _ _ _ _)) O) (adA p o)) (abW λv F=>Mh F)) O O (by decide))).t ?_;refine(uK (ρ':=S B 10) ((uY (i:=7) (ρ':=S .un 10) (NM (d:=.I γ) (r:=(S .un 10).tail) ((vm (ρ1:=.z (gi T M dk W V)::(S .un 10).tail) (uL (uJ O (uJ O O)) (P8 _ _ (by omega)))).t (zA id R (by rw[gZ];rfl) (by omega) λr l=>?_)) O)).t O)).t ?_
  .exact⟨[.z r,.z (gi T M dk W V)],[.z r,.z (gi T M dk W V)],O,uL (ds:=[gi T M dk W V,r]) O (hR r l).r,O⟩
  refine(uK (ρ':=S B 10) (by kernel_rfl)).t ((uK (ρ':=S B 11) (by kernel_rfl)).t ?_);refine(uK (ρ':=S B 12) (JV (r:=(S B 11).tail) (NM (d:=.bt (SH W)) (r':=(.z (.obj 14 (ts.take 11) ((wA T M dk W V R c).take 11)))::((S B 11).tail).map Bf) (vP (uL (ds:=[.str "me", WD W]) O (RN W g.w8))) (BS _ λd hd=>abV (Ye W d hd))) O O (by decide))).t ?_;refine(uK (ρ':=S B 13) (JV (r:=(S B 12).tail) ((vP (xH (ρ1:=S B 12) id id R (by rw[gZ];rfl) (by omega) λr l=>⟨[.z r],[.z r],O,uL (ds:=[r]) O (hR r l).c,O⟩)).t (by rw[gZ];rfl)) O O (by decide))).t ?_;refine JV (r:=(S B 13).tail) (NM (uL (ds:=[.bt (R++SH W)]) (uJ (vP (w6 (xs:=R) (ys:=SH W) O O (by omega))) O) (r:=c) ?_) G) O O (by decide);refine uP (ρ:=[.z (.bt (R++SH W)),.un,.un]) O ?_;show (match Dh (uS zd "verb") (R++SH W) [] []with
   |some (f,dss)=>Z (tf.rt (.Q f (dss.map .bt)) [.z (.bt (R++SH W)),.un,.un])
   |none=>J)=_
  rw[y]
 unfold zi v?;rw[ak (show [TD T,MD M,.bt (dk.map D.str),WD W,VD V,.bt R].length=6 from O)];rw[show zh (stI 14 8 [TD T,MD M,.bt (dk.map D.str),WD W,VD V,.bt R])=Z (.nx (S B 14)) from e];rfl
end
theorem Li:∀l:aF,G1 (l.map D.str)=Z l
 |[]=>rfl
 |x::l=>by rw[aJ];unfold G1;rw[Li l]
def w3:aF:=["north", "outside", "up"]
def R?(W:List Wy):aF:=w3.filter λx=>decide (x∈W.map Wy.w)
def Xt(h:∀x∈l,x∈w3):Dj (x? l)=w3.filter λx=>decide (x∈l):=by
 have d:w3.Nodup:=by decide
 have p3:w3.Pairwise λa b=>L? a b=γ:=by decide
 refine kJ (λa b _ _=>Je a b) (jt Jd Ih _) (p3.filter _) ((iB _ L?).t ((List.perm_ext_iff_of_nodup (OH l) (jA.nodup d)).2 λx=>?_));rw[L6,aY,bQ];exact⟨λc=>⟨h x c,c⟩,λc=>c.2⟩
section
variable{T:List Th}{M:List Mk}{dk:aF}{W:List Wy}{V:List Vb}{R:List L4.D}{c:L4.D}
def wO(T:List Th)(M:List Mk)(dk:aF)(W:List Wy)(V:List Vb)(R:List L4.D)(c:L4.D):L4.D:=.obj 14 ts (wA T M dk W V R c)
def NN(i:W.length<=8)(b:∀w∈W,w.w∈(["north", "up", "outside"]:aF)):zj [wO T M dk W V R c]=Z (.bt ((R? W).map D.str)):=by
 let a:aQ:=[.z (wO T M dk W V R c)];refine Gh (ρ:=a) O (xu ?_);have e:cL (uX 1 [] (iL (c1 (uS Bi "kept_ways") aa)) (gN 0) vN (c2 f3 aa aM)) a=Z (.bt ((W.map Wy.w).map D.str),a):=(vP (xH n3 (λw=>.str w.w) W (ρ1:=a) O (by omega) λw _=>⟨[.z (n3 w)],[.z (n3 w)],O,O,O⟩)).t (by rw[aZ];rfl);show u6 _ a=_;unfold u6;rw[e];dsimp only;rw[Li];dsimp only;rw[ak (by rw[ah];omega),Xt λx d=>?_]
 .rfl
 .obtain⟨w,h,rfl⟩:=au.1 d;exact(show ∀x∈(["north", "up", "outside"]:aF),x∈w3 by decide) _ (b w h)
def gk(T:List Th):aF:=(T.filter λt=>t.k.pl).map Th.n
def U1(T:List Th)(d:T.length<=13):Br [wO T M dk W V R c]=Z (.bt (T.map λt=>.str t.n)):=by let a:aQ:=[.z (wO T M dk W V R c)];exact Gh (ρ:=a) O (xu (xH en (λt=>.str t.n) T (ρ1:=a) O (by omega) λt _=>⟨[.z (en t)],[.z (en t)],O,O,O⟩))
def GH(e:f ρ=Z (.X ds ρ')):uO f h ρ=Z (.X ds ρ'):=by unfold uO;rw[e]
def obF(N d:aF)(f:Str):List (L4.D×L4.D):=if f="alone" then [(.E,.E)]else if f="way" then d.map λx=>(.str x,.E)else if f="one" then N.map λx=>(.str x,.E)else N.flatMap λa=>N.map λb=>(.str a,.str b)
def p2(q:L4.D×L4.D):L4.D:=.du [q.1,q.2]
def p3(v:Str)(q:L4.D×L4.D):L4.D:=.du [.str v,q.1,q.2]
theorem Qi(N:aF)(hN:N.length<=7):∀l:aF,(l.flatMap λa=>N.map λb=>(D.str a,D.str b)).length<=7 * l.length
 |[]=>aO _
 |a::l=>by rw[fw,aE,ah,aN];have:=Qi N hN l;omega
def OV(W:List Wy):(R? W).length<=3:=bD (cu _ _) (aO 3)
def U2{N a:aF}(hN:N.length<=7)(hD:a.length<=3)(f:Str):(obF N a f).length<=49:=by
 unfold obF;split
 .decide
 .split
  .rw[ah];omega
  .split
   .rw[ah];omega
   .have:=Qi N hN N;omega
theorem NO{x:Sl}(N:aF)(hN:N.length<=7):∀(l:aF) (acc:List (L4.D×L4.D)) (s:Sl),acc.length+7 * l.length<=900->∃f,fl (gN 4) (vG (HP 3 (uX 1 [4] (iL aj) (gN 0) vN (vC eZ)))) (l.map D.str) [a,b,.z (.bt (N.map D.str)),.O (acc.map p2),s]=Z (.nx [a,b,.z (.bt (N.map D.str)),.O ((acc++l.flatMap λa=>N.map λb=>(D.str a,D.str b)).map p2),f])
 |[],acc,s,_=>⟨s,by rw[List.flatMap_nil,bR];rfl⟩
 |y::l,acc,s,p=>by rw[aN]at p;let Q:Sl:=.z (.bt (N.map D.str));let Y:Sl:=.z (.str y);let nw:List (L4.D×L4.D):=N.map λb=>(D.str y,D.str b);obtain⟨f,e⟩:=NO (a:=a) (b:=b) (x:=x) N hN l (acc++nw) Y (by rw[aE];show acc.length+(N.map _).length+7 * l.length<=900;rw[ah];omega);refine⟨f,?_⟩;rw[aJ];unfold fl;let d:aQ:=[a,b,Q,.O (acc.map p2),Y];rw[show gN 4 (.str y) [a,b,Q,.O (acc.map p2),s]=Z d from O];have m:uX 1 [4] (iL aj) (gN 0) vN (vC eZ) d=Z (nw.map p2,d):=(xH D.str (λz=>.du [.str y,.str z]) N (ρ1:=d) O (by omega) λz _=>⟨[.z (.str z),Y],[.z (.str z),Y],O,O,O⟩).t (by show _=Z ((N.map _).map p2,d);rw[aZ];rfl);have j:vG (HP 3 (uX 1 [4] (iL aj) (gN 0) vN (vC eZ))) d=Z (.nx [a,b,Q,.O ((acc++nw).map p2),Y]):=(wj (Tp (i:=3) (es0:=acc.map p2) (es:=acc.map p2) (ρ1:=d) O m O (by rw[ah,ah];show acc.length+(N.map _).length<=1000;rw[ah];omega))).t (by rw[bu];rfl);simp only[j];rw[e,fw,bX]
def OW(g:e8 T M dk W)(q:f∈o?):xO [wO T M dk W V R c,.str f]=Z ((obF (gk T) (R? W) f).map p2):=by
 have u:=g.len;let w:=wO T M dk W V R c;have lN:(gk T).length<=7:=by unfold gk;rw[ah];exact g.p7
 have ld:=OV W;have nms:∀F:Sl,uX 1 [0] (iL (vh yW "names" aa vB)) (gN 0) (cT (vh v3 "is_plainly" (vh vq "thing_of" ag bM) vB)) aa [.z w,F,.un,.un,.un]=Z ((gk T).map D.str,[.z w,F,.un,.un,.un]):=λF=>by
  let d:aQ:=[.z w,F,.un,.un,.un];refine(zl (λt:Th=>D.str t.n) (λt=>.str t.n) (λt=>t.k.pl) T (ρ1:=d) ?_ (by omega) λt y=>⟨[.z (.str t.n),.z w],[.z (.str t.n),.z w],O,?_,λ_=>⟨_,O,O⟩,λ_=>O⟩).t (by unfold gk;rw[aZ];rfl)
  .unfold iL;rw[vz (g:=yW) (m:="names") (e:=cV 0) (a:=vB) (ρ:=d) (hh:=Br) (xs:=wA T M dk W V R c) (ys:=[]) (ρ1:=d) (ρ2:=d) O O O O (U1 T u)]
  .have p:wF [w,.str t.n]=Z ((xk (nK T) (T.map en) (kS t.n)).getD .E):=by kernel_rfl
   rw[FY g.z? en y]at p;refine vZ (vz (hh:=yP) (xs:=[.str t.n,.du (t.w.map D.str),.str t.k.s,oS t.s]) (ys:=[]) (ρ1:=[.z (.str t.n),.z w]) (ρ2:=[.z (.str t.n),.z w]) ?_ O O O (FX t));exact vz (hh:=wF) (xs:=wA T M dk W V R c) (ys:=[.str t.n]) (ρ1:=[.z (.str t.n),.z w]) (ρ2:=[.z (.str t.n),.z w]) O O O O p
 let NL:Sl:=.z (.bt ((gk T).map D.str));have r:∀F:Sl,vc 2 (cL (uX 1 [0] (iL (vh yW "names" aa vB)) (gN 0) (cT (vh v3 "is_plainly" (vh vq "thing_of" ag bM) vB)) aa)) [.z w,F,.un,.un,.un]=Z (.nx [.z w,F,NL,.un,.un]):=λF=>(uY (vP (nms F))).t O;simp only[o?,aL,cA,or_false]at q;rcases q with rfl|rfl|rfl|rfl
 .let d:aQ:=[.z w,.z (.str "one"),NL,.un,.un];refine Aq (ρ:=d) O ?_;unfold yu;refine(vg O).t ((vg O).t ((uK (r _)).t (GH ((u4 O).t (xu ((xH D.str (λx=>.du [.str x,.E]) (gk T) (ρ1:=d) O (by omega) λx _=>⟨[.z (.str x)],[.z (.str x)],O,O,O⟩).t ?_))))));show _=Z (((gk T).map λx=>(D.str x,D.E)).map p2,d);rw[aZ];rfl
 .obtain⟨A,e⟩:=NO (a:=.z w) (b:=.z (.str "two")) (x:=.un) (gk T) lN (gk T) [] .un (by simp;omega);refine Aq (ρ:=[.z w,.z (.str "two"),NL,.un,A]) O ?_;unfold yu;refine(vg O).t ((vg O).t ((uK (r _)).t ((vg O).t ((uK (ρ':=[.z w,.z (.str "two"),NL,.O [],.un]) O).t ((uK ((wm (ds:=(gk T).map D.str) (ρ1:=[.z w,.z (.str "two"),NL,.O [],.un]) O).t e)).t ?_)))));rfl
 .refine Aq (ρ:=[.z w,.z (.str "alone"),.un,.un,.un]) O ?_;unfold yu;exact GH ((u4 O).t O)
 .let d:aQ:=[.z w,.z (.str "way"),.un,.un,.un];refine Aq (ρ:=d) O ?_;unfold yu;refine(vg O).t (GH ((u4 O).t (xu ((xH D.str (λx=>.du [.str x,.E]) (R? W) (ρ1:=d) ?_ (by omega) λx _=>⟨[.z (.str x)],[.z (.str x)],O,O,O⟩).t ?_))))
  .show iL _ d=_;unfold iL;rw[vz (g:=xS) (m:="way_words") (e:=cV 0) (a:=vB) (ρ:=d) (hh:=zj) (xs:=wA T M dk W V R c) (ys:=[]) (ρ1:=d) (ρ2:=d) O O O O (NN g.w8 λw z=>(g.wo w z).hw)]
  .show _=Z (((R? W).map λx=>(D.str x,D.E)).map p2,d);rw[aZ];rfl
end
def cmV(N a:aF)(v:Str×Str):List L4.D:=(obF N a v.2).map (p3 v.1)
def cmA(N a:aF)(Q:List (Str×Str)):List L4.D:=Q.flatMap (cmV N a)
theorem U3{N a:aF}(hN:N.length<=7)(hD:a.length<=3):∀Q:List (Str×Str),(cmA N a Q).length<=49 * Q.length
 |[]=>aO _
 |q::Q=>by unfold cmA;rw[fw,aE,aN];have b:=U3 hN hD Q;have c:=U2 hN hD q.2;unfold cmA at b;unfold cmV at b ⊢;rw[ah];omega
section
variable{T:List Th}{M:List Mk}{dk:aF}{W:List Wy}{V:List Vb}{R:List L4.D}{c:L4.D}
theorem Qj(g:e8 T M dk W):∀(L:List Vb) (acc:List L4.D) (s:Sl),(∀v∈L,v.f∈o?)->acc.length+49 * L.length<=900->∃d,fl (gN 2) (vG (HP 1 (uX 2 [2] (iL (cL (vK xO kj))) (gT j3 2) vN (vC ky)))) (L.map j?) [.z (wO T M dk W V R c),.O acc,s]=Z (.nx [.z (wO T M dk W V R c),.O (acc++cmA (gk T) (R? W) (L.map nf)),d])
 |[],acc,s,_,_=>⟨s,by show _=Z (tf.nx [_,.O (acc++[]),s]);rw[bR];rfl⟩
 |v::L,acc,s,h,o=>by
  rw[aN]at o;have lN:(gk T).length<=7:=by unfold gk;rw[ah];exact g.p7
  have lo:=U2 lN (OV W) v.f;let w:=wO T M dk W V R c;let nw:List L4.D:=cmV (gk T) (R? W) (nf v);have x:nw.length<=49:=by show (dH _ _).length<=49;rw[ah];exact lo
  obtain⟨d,e⟩:=Qj g L (acc++nw) (.z (j? v)) (λu p=>h u (ba _ p)) (by rw[aE];omega);refine⟨d,?_⟩;rw[aJ];unfold fl;let a:aQ:=[.z w,.O acc,.z (j? v)];rw[show gN 2 (j? v) [.z (wO T M dk W V R c),.O acc,s]=Z a from O];have l:uX 2 [2] (iL (cL (vK xO kj))) (gT j3 2) vN (vC ky) a=Z (nw,a):=by refine xH p2 (p3 v.n) (obF (gk T) (R? W) v.f) (ρ1:=a) ?_ (by omega) λq _=>⟨[.z q.1,.z q.2,.z (j? v)],[.z q.1,.z q.2,.z (j? v)],O,O,O⟩;unfold iL;rw[vP (uL (g:=xO) (ds:=[w,.str v.f]) (ρ1:=a) O (OW g (h v bb)))]
  have j:vG (HP 1 (uX 2 [2] (iL (cL (vK xO kj))) (gT j3 2) vN (vC ky))) a=Z (.nx [.z w,.O (acc++nw),.z (j? v)]):=(wj (Tp (i:=1) (es0:=acc) (es:=acc) (ρ1:=a) O l O (by omega))).t O;simp only[j];rw[e,bX];rfl
def U4(b:∀v∈V,v∈v6):∀v∈V++v9,v.f∈o?:=λv a=>v_fm (by
 rcases aT.1 a with a|a
 .exact bF _ (b v a)
 .exact bx _ a)
def NP(g:e8 T M dk W)(d:∀v∈V,v∈v6)(lV:V.length<=6):Cs [wO T M dk W V R c]=Z (cmA (gk T) (R? W) ((V++v9).map nf)):=by
 let w:=wO T M dk W V R c;have f:(V++v9).length<=15:=by rw[aE];show V.length+9<=15;omega
 obtain⟨h,e⟩:=Qj g (V:=V) (R:=R) (c:=c) (V++v9) [] .un (U4 d) (by simp only[fE];omega);refine Aq (ρ:=[.z w,.un,h]) O ?_;unfold EK;refine(uK (ρ':=[.z w,.O [],.un]) O).t ((uK ((wm (ds:=(V++v9).map j?) (ρ1:=[.z w,.O [],.un]) ?_).t e)).t O);unfold iL;rw[vz (g:=xR) (m:="all_verbs") (e:=cV 0) (a:=vB) (ρ:=[.z w,.O [],.un]) (hh:=xY) (xs:=wA T M dk W V R c) (ys:=[]) (ρ1:=[.z w,.O [],.un]) (ρ2:=[.z w,.O [],.un]) O O O O (F2 V lV _ _ _ _ _ _)]
end
def HL(h:e ρ=Z (.bt ds,ρ1)):iL e ρ=Z (ds,ρ1):=by unfold iL;rw[h]
abbrev Ky:=Str×Str
def kD(k:Ky):L4.D:=.du [.str k.1,.str k.2]
def sD(P:List Ky)(v:Ky->L4.D):L4.D:=.du (P.map λk=>.du [kD k,v k])
def Qk(k j:Ky):e? δ (kD k) (kD j)=Z (.I (decide (k=j))):=by obtain⟨a,b⟩:=k;obtain⟨c,d⟩:=j;have e:J7 δ (.du [.str a,.str b]) (.du [.str c,.str d])=J:=rfl;have f:Ol δ (.du [.str a,.str b]) (.du [.str c,.str d])=Z (.I (L3.nr (.du [.str a,.str b]) (.du [.str c,.str d]))):=rfl;unfold e? kD;rw[e];simp only;rw[f];congr 2;rw[dg];simp[L3.nr,L3.BB]
theorem JW(p:Sl)(k:Ky)(v:Ky->L4.D):∀(P:List Ky) (s:Sl),∃c,fl (gN 2) (fh (cT (c2 (e? δ) (c2 f3 aj aP) ag)) (uT (c2 f3 aj aM)) uZ) (P.map λk=>.du [kD k,v k]) [p,.z (kD k),s]=Z (if k∈P then .rt (v k) [p,.z (kD k),c]else .nx [p,.z (kD k),c])
 |[],s=>⟨s,by rw[ao cA];rfl⟩
 |q::P,s=>by
  let Q:Sl:=.z (.du [kD q,v q]);have a:cT (c2 (e? δ) (c2 f3 aj aP) ag) [p,.z (kD k),Q]=Z (decide (q=k),[p,.z (kD k),Q]):=vZ (uW (x:=kD q) (y:=kD k) O O (Qk _ _));rw[aJ];unfold fl;rw[show gN 2 (.du [kD q,v q]) [p,.z (kD k),s]=Z [p,.z (kD k),Q] from O];by_cases h:q=k
  .rw[aV h]at a;refine⟨Q,?_⟩;simp only[u4 a];rw[ak (by rw[h];exact bb),<- h];rfl
  .rw[aX h]at a;obtain⟨c,d⟩:=JW p k v P Q;refine⟨c,?_⟩;simp only[vI a,uZ];rw[d];by_cases b:k∈P
   .rw[ak b,ak (ba _ b)]
   .rw[ao b,ao λz=>by rcases aL.1 z with z|z;exact h z.symm;exact b z]
def NQ(P:List Ky)(v:Ky->L4.D)(k:Ky):Cn [sD P v,kD k]=Z (if k∈P then v k else .E):=by
 obtain⟨b,h⟩:=JW (.z (sD P v)) k v P .un;by_cases a:k∈P
 .rw[ak a]at h ⊢;exact uP (ρ:=[.z (sD P v),.z (kD k),b]) O (uU ((wm O).t h))
 .rw[ao a]at h ⊢;exact uP (ρ:=[.z (sD P v),.z (kD k),b]) O ((uK ((wm O).t h)).t O)
def up(v:Ky->L4.D)(k:Ky)(d:L4.D):Ky->L4.D:=λq=>if q=k then d else v q
def Ql(P:List Ky)(hP:P.length<=900)(v:Ky->L4.D)(k:Ky)(d:L4.D):Ba [sD P v,kD k,d]=Z (sD P (up v k d)):=by
 let a:aQ:=[.z (sD P v),.z (kD k),.z d];refine uP (ρ:=a) O (uR ?_);have e:cL (uX 1 [1,2] (iT aa) (gN 0) vN (yr (cT (c2 (e? δ) (c2 f3 aa aP) ag)) (vC cB) aa)) a=Z (.bt (P.map λq=>.du [kD q,up v k d q]),a):=by
  refine vP (xH (λq:Ky=>.du [kD q,v q]) (λq=>.du [kD q,up v k d q]) P (ρ1:=a) O (by omega) λq _=>⟨[.z (.du [kD q,v q]),.z (kD k),.z d],[.z (.du [kD q,v q]),.z (kD k),.z d],O,?_,O⟩);have b:cT (c2 (e? δ) (c2 f3 aa aP) ag) [.z (.du [kD q,v q]),.z (kD k),.z d]=Z (decide (q=k),[.z (.du [kD q,v q]),.z (kD k),.z d]):=vZ (uW (x:=kD q) (y:=kD k) O O (Qk _ _));unfold yr up;rw[b];by_cases h:q=k
  .rw[aV h,ak h,h];rfl
  .rw[aX h,ao h];rfl
 show E7 _ a=_;unfold E7;rw[e];rfl
def va(i?:Str->Str)(mk:Str->Int):Ky->L4.D:=λk=>if k.1="at" then .str (i? k.2)else .int (mk k.2)
def W?{a:Type}(f:Str->a)(x:Str)(d:a):Str->a:=λy=>if y=x then d else f y
def adP(i?:Str->Str)(mk:Str->Int)(x d:Str)(P:List Ky):sD P (up (va i? mk) ("at", x) (.str d))=sD P (va (W? i? x d) mk):=by
 unfold sD;congr 1;refine kZ λk _=>?_;obtain⟨a,y⟩:=k;unfold up va W?;by_cases h:a="at"
 .subst h;by_cases b:y=x
  .subst b;simp
  .simp[b]
 .simp[h]
def adQ(i?:Str->Str)(mk:Str->Int)(x:Str)(d:Int)(P:List Ky)(hP:∀k∈P,k.1="at" \/ k.1="mark"):sD P (up (va i? mk) ("mark", x) (.int d))=sD P (va i? (W? mk x d)):=by
 unfold sD;congr 1;refine kZ λk b=>?_;have b:=hP k b;obtain⟨a,y⟩:=k;unfold up va W?;rcases b with h|h
 .have h:a="at" := h;subst h;have:¬("at" : Str)="mark" := by decide
  simp[this]
 .have h:a="mark" := h;subst h;have:¬("mark" : Str)="at" := by decide
  by_cases c:y=x
  .subst c;simp[this]
  .simp[c,this]
def getD_map{c d:Type}(f:c->d)(a:c)(b:d)(l:List c){i:Nat}(h:i<l.length):(l.map f).getD i b=f (l.getD i a):=by rw[cX,cX,bA,bh h];rfl
def OX{a:Type}(d:a):∀l:List a,(aU l.length).map (λi=>l.getD i d)=l:=λl=>by
 apply List.ext_getElem
 .rw[ah,cH]
 .intro i c b;rw[List.getElem_map,List.getElem_range,cX,bh b];rfl
def kL2(k:Ky):aF:=[k.1,k.2]
theorem NR:∀P:List Ky,zp (P.map kD)=Z (P.map kL2)
 |[]=>rfl
 |q::P=>by rw[aJ];unfold zp;rw[NR P];rfl
def U5(P:List Ky)(a:0<P.length)(d:P.length<64):∃b:List Ky,b.Perm P/\Jg (P.map kD)=Z (b.map kD):=by
 let c:Nat->Nat->Bool:=λi j=>J9 ((P.map kL2).getD i []) ((P.map kL2).getD j []);refine⟨(OB c P.length).map λi=>P.getD i ("", ""),?_,?_⟩
 .have:=(Gg c a).map λi=>P.getD i ("", "");rw[OX]at this;exact this
 .unfold Jg;rw[NR];simp only[ah];rw[ak ⟨a,d⟩,aZ];congr 1;exact kZ λi e=>getD_map kD ("", "") .E P (LP c a i e)
def C'(T:List Th):aF:=(T.filter λt=>!decide (t.k=.room)).map Th.n
def PT(T:List Th)(M:List Mk):List Ky:=((C' T).map λx=>(("at", x):Ky))++(vf T M).map λx=>(("mark", x):Ky)
def abX(t:Th):e? γ (.str t.k.s) (.str "room")=Z (.I (!decide (t.k=.room))):=by cases t.k<;>kernel_rfl
section
variable{T:List Th}{M:List Mk}{dk:aF}{W:List Wy}{V:List Vb}{R:List L4.D}{c:L4.D}{P:List Ky}
def U6(T:List Th):(C' T).length<=T.length:=by unfold C';rw[ah];exact cu _ _
def U7(T:List Th)(M:List Mk):(vf T M).length<=T.length+M.length:=by unfold vf;rw[aE,ah,ah];have:=cu (λt:Th=>t.k.mk) T;omega
def NS(g:e8 T M dk W):∃t∈T,t.n="me" /\ t.k=.you:=by
 have h:("me" : Str)∈(T.filter λt=>decide (t.k=.you)).map Th.n:=by rw[g.y1];exact bj.2 O
 obtain⟨t,a,e⟩:=au.1 h;rw[aY]at a;exact⟨t,a.1,e,bB a.2⟩
def Mn{T:List Th}(f:(T.map Th.n).Nodup)(h:t∈T)(i:u∈T)(e:t.n=u.n):t=u:=by
 induction T with
 |nil=>cases h
 |cons a T j=>
  rw[aJ,dB]at f;rcases aL.1 h with b|b<;>rcases aL.1 i with d|d
  .rw[b,d]
  .exact aq (show a.n∈T.map Th.n from by rw[<-b,e];exact au.2 ⟨_,d,O⟩) f.1
  .exact aq (show a.n∈T.map Th.n from by rw[<-d,<- e];exact au.2 ⟨_,b,O⟩) f.1
  .exact j f.2 b d
def Mo(d:(T.map Th.n).Nodup)(p:Th->Bool)(b:t∈T):t.n∈(T.filter p).map Th.n ↔ p t=γ:=by
 constructor
 .intro h;obtain⟨u,a,e⟩:=au.1 h;rw[aY]at a;rw[<-Mn d a.1 b e];exact a.2
 .exact λh=>au.2 ⟨t,aY.2 ⟨b,h⟩,O⟩
def Yf(g:e8 T M dk W):("me" : Str)∈C' T:=by obtain⟨t,a,e,k⟩:=NS g;rw[<-e];exact(Mo g.z? _ a).2 (by rw[k];rfl)
def OY(g:e8 T M dk W):0<(PT T M).length/\(PT T M).length<64:=by have a:=U6 T;have b:=U7 T M;have d:=jw (Yf g);have e:=g.len;have f:=g.m4;unfold PT;rw[aE,ah,ah];omega
def U8(h:P.Perm (PT T M))(x:Str):(("at", x):Ky)∈P ↔ x∈C' T:=by
 rw[h.mem_iff];unfold PT;rw[aT,au,au];constructor
 .rintro(⟨y,a,e⟩|⟨y,a,e⟩)
  .injection e with _ e;rw[<-e];exact a
  .injection e with e _;exact aq e (by decide)
 .exact λh=>.inl ⟨x,h,O⟩
def Yg(h:P.Perm (PT T M))(x:Str):(("mark", x):Ky)∈P ↔ x∈vf T M:=by
 rw[h.mem_iff];unfold PT;rw[aT,au,au];constructor
 .rintro(⟨y,a,e⟩|⟨y,a,e⟩)
  .injection e with e _;exact aq e (by decide)
  .injection e with _ e;rw[<-e];exact a
 .exact λh=>.inr ⟨x,h,O⟩
def Yh(h:P.Perm (PT T M)):∀k∈P,k.1="at" \/ k.1="mark" := λk a=>by
 have a:=h.mem_iff.1 a;unfold PT at a;rw[aT,au,au]at a;rcases a with ⟨y,_,rfl⟩|⟨y,_,rfl⟩
 .exact .inl O
 .exact .inr O
def U9(g:e8 T M dk W):∃f:List Ky,f.Perm (PT T M)/\Ej [wO T M dk W V R c]=Z (.bt (f.map kD)):=by
 have hT:=g.len;have hM:=g.m4;obtain⟨o,r⟩:=OY g;obtain⟨f,pR,e⟩:=U5 (PT T M) o r;refine⟨f,pR,?_⟩;let w:=wO T M dk W V R c;let a:L4.D:=.bt ((C' T).map λx=>kD ("at", x));let d:L4.D:=.bt ((vf T M).map λx=>kD ("mark", x));let b:Sl->Sl->aQ:=λp q=>[.z w,p,q];have u:=U6 T;have y:=U7 T M;have j:uX 1 [] (iL (c1 (uS xf "kept_things") aa)) (gN 0) (cT (c2 (e? γ) (c1 (uS vJ "kind") aa) dc)) (vC (ax jf nJ)) (b .un .un)=Z ((T.filter λt=>!decide (t.k=.room)).map λt=>kD ("at", t.n),b .un .un):=
  zl en (λt=>kD ("at", t.n)) (λt=>!decide (t.k=.room)) T (ρ1:=b .un .un) O (by omega) λt _=>⟨[.z (en t)],[.z (en t)],O,vZ (uW (vO O (AM t)) O (abX t)),λ_=>⟨_,O,O⟩,λ_=>O⟩
 have l:uX 1 [] (iL (cL (vK yn rP))) (gN 0) vN (vC (ax j9 bM)) (b (.z a) .un)=Z ((vf T M).map λx=>kD ("mark", x),b (.z a) .un):=
  xH D.str (λx=>kD ("mark", x)) (vf T M) (ρ1:=b (.z a) .un) (HL (vP (uL (uJ O (uJ O O)) (Em T M (by omega) hM)))) (by omega) λx _=>⟨[.z (.str x)],[.z (.str x)],O,O,O⟩
 have m:Gj (cL (xq ag aj)) (b (.z a) (.z d))=Z (f.map kD,b (.z a) (.z d)):=by
  have q:cL (xq ag aj) (b (.z a) (.z d))=Z (.bt ((PT T M).map kD),b (.z a) (.z d)):=by refine(vP (w6 (xs:=(C' T).map λx=>kD ("at", x)) (ys:=(vf T M).map λx=>kD ("mark", x)) O O (by rw[ah,ah];omega))).t ?_;unfold PT;rw[bu,aZ,aZ];rfl
  unfold Gj;rw[q];simp only[e]
 refine Gh (ρ:=b (.z a) (.z d)) O ?_;refine(uK (ρ':=b (.z a) .un) ((uY (vP j)).t ?_)).t ((uK (ρ':=b (.z a) (.z d)) ((uY (vP l)).t O)).t (xu m));show Z (tf.nx [Sl.z w,.z (.bt ((T.filter λt=>!decide (t.k=.room)).map λt=>kD ("at", t.n))),.un])=Z (tf.nx [Sl.z w,.z (.bt (((T.filter λt=>!decide (t.k=.room)).map Th.n).map λx=>kD ("at", x))),.un]);rw[aZ];rfl
def AN(b:(T.map Th.n).Nodup)(a:t∈T):wF [wO T M dk W V R c,.str t.n]=Z (en t):=by refine uP (ρ:=[.z (wO T M dk W V R c),.z (.str t.n)]) O (uR (uW (x:=.Q (nK T) (T.map en)) (y:=.str t.n) O O ?_));show Z ((xk (nK T) (T.map en) (kS t.n)).getD .E)=_;rw[FY b en a];rfl
def RO(g:e8 T M dk W):Ck [wO T M dk W V R c]=Z (.Q (M.map λm=>kS m.n) (M.map λm=>D.int m.st)):=by
 let w:=wO T M dk W V R c;have j:((M.map λm=>kS m.n)).Nodup:=by have:=(cp.1 g.nd).2.1;rw[show (λm:Mk=>kS m.n)=kS∘Mk.n from O,<- aZ];exact jG.2 (this.imp λh e=>h (Ma e))
 have t:=g.m4;obtain⟨l,e⟩:=Al (g:=gN 2) (i:=1) (fk:=c1 (uS vd "name") aj) (fv:=c1 (uS wD "start") aj) o3 Mk.n (λm=>D.int m.st) (λb a s=>[.z w,.dk b a,s])
  (λm b a s=>⟨[.z w,.dk b a,.z (o3 m)],O,O,O,O,λf d=>⟨_,O⟩⟩) M [] [] .un (by rw[bZ];exact j) (by simp;omega) O
 rw[bZ,bZ]at e;refine uP (ρ:=[.z w,.z (.Q (M.map λm=>kS m.n) (M.map λm=>D.int m.st)),l]) O ?_;refine(uK (ρ':=[.z w,.dk [] [],.un]) O).t ?_;refine(uK ((wm (ds:=M.map o3) (ρ1:=[.z w,.dk [] [],.un]) ?_).t e)).t O;exact HL (vz (m:="own_marks") (ns:=ts) (xs:=wA T M dk W V R c) (ys:=[]) O O O O O)
def Va(g:e8 T M dk W)(b:t∈T)(st:L4.D):yC [wO T M dk W V R c,st,kD ("at", t.n)]=Z (oS t.s):=by let a:aQ:=[.z (wO T M dk W V R c),.z st,.z (kD ("at", t.n))];refine uP (ρ:=a) O (uU ((u4 (ρ':=a) (vZ (uW (x:=.str "at") (y:=.str "at") O O (by rw[xx];rfl)))).t (uR (vO (vz (m:="thing_of") (ns:=ts) (xs:=wA T M dk W V R c) (ys:=[.str t.n]) O O O O (AN g.z? b)) (Il t)))))
def OZ(x:Str)(d:List fc)(b:List L4.D):yC [wO T M dk W V R c,.Q d b,kD ("mark", x)]=Z ((xk d b (kS x)).getD (.int 0)):=by let a:aQ:=[.z (wO T M dk W V R c),.z (.Q d b),.z (kD ("mark", x))];refine uP (ρ:=a) O ((uK (ρ':=a) ((vI (ρ':=a) (vZ (uW (x:=.str "mark") (y:=.str "at") O O (by rw[xx];rfl)))).t O)).t O)
theorem NT{d:Type}(kf:d->fc)(b:d->Int)(k:fc):∀l:List d,∃z,(xk (l.map kf) (l.map λa=>D.int (b a)) k).getD (.int 0)=.int z
 |[]=>⟨0,O⟩
 |a::l=>by
  rw[aJ,aJ];unfold xk;split
  .exact⟨b a,O⟩
  .exact NT kf b k l
def at0(T:List Th)(x:Str):Str:=((T.find? λt=>decide (t.n=x)).bind Th.s).getD ""
def Mp(b:(T.map Th.n).Nodup)(a:t∈T):at0 T t.n=t.s.getD "" := by
 unfold at0;cases h:T.find? λu=>decide (u.n=t.n)with
 |none=>exact aq (pq.1 h t a) (by simp)
 |some u=>rw[Mn b (List.mem_of_find?_eq_some h) a (bB (qf (p:=λu:Th=>decide (u.n=t.n)) h))];rfl
def Qm(g:e8 T M dk W)(j:t∈T)(h:t.k≠.room):∃p,t.s=Z p/\p∈p? T/\(t.k=.you->p∈ll T):=by
 have a:=g.st t j;unfold D1 at a;have l:∀p,p∈ll T->p∈p? T:=λp i=>by obtain⟨u,d,e⟩:=au.1 i;rw[aY]at d;exact au.2 ⟨u,aY.2 ⟨d.1,by rw[bB d.2];rfl⟩,e⟩
 cases f:t.s with
 |none=>rw[f]at a;cases b:t.k<;>rw[b]at a h<;>first|exact aq O h|exact a.elim
 |some p=>rw[f]at a;refine⟨p,O,?_⟩;cases b:t.k<;>rw[b]at a h<;>first|exact aq O h|exact⟨l p a,λ_=>a⟩|exact⟨a,λz=>by cases z⟩
def Vc(g:e8 T M dk W):∃(P:List Ky) (m:Str->Int),P.Perm (PT T M)/\Bs [wO T M dk W V R c]=Z (sD P (va (at0 T) m)):=by
 obtain⟨f,pR,eR⟩:=U9 (c:=c) g;have j:∀x,∃z,(xk (M.map λm=>kS m.n) (M.map λm=>D.int m.st) (kS x)).getD (.int 0)=.int z:=λx=>NT (λm:Mk=>kS m.n) Mk.st (kS x) M;refine⟨f,λx=>(j x).choose,pR,?_⟩;let w:=wO T M dk W V R c;let st:L4.D:=.Q (M.map λm=>kS m.n) (M.map λm=>D.int m.st);have hR:f.length<64:=by rw[pR.length_eq];exact(OY g).2
 have val:∀k∈f,yC [w,st,kD k]=Z (va (at0 T) (λx=>(j x).choose) k):=λk i=>by
  obtain⟨a,x⟩:=k;rcases Yh pR _ i with h|h
  .have h:a="at" := h;subst h;have o:=(U8 pR x).1 i;obtain⟨t,d,rfl⟩:=au.1 o;rw[aY]at d;obtain⟨p,l,_⟩:=Qm g d.1 (λz=>by rw[z]at d;exact aq d.2 (by decide));rw[Va g d.1];unfold va;rw[ak O,Mp g.z? d.1,l];rfl
  .have h:a="mark" := h;subst h;rw[OZ,(j x).choose_spec];unfold va;rw[ao (show ¬("mark" : Str)="at" by decide)]
 let b:aQ:=[.z w,.z st];refine uP (ρ:=b) O ((uK (ρ':=b) ((uY (uL (uJ O O) (RO g))).t O)).t (uR ?_));have e:=xH (k:=1) (ey:=[0,1]) (g:=gN 0) (fe:=vC sA) (s:=iL (vh A9 "parts" aa vB)) (ρ:=b) (ρ1:=b) kD (λk=>.du [kD k,va (at0 T) (λx=>(j x).choose) k]) f
  (HL (vz (m:="parts") (ns:=ts) (xs:=wA T M dk W V R c) (ys:=[]) O O O O eR)) (by omega) λk i=>⟨[.z (kD k),.z w,.z st],[.z (kD k),.z w,.z st],O,Z0 (uJ O (uJ (uL (uJ O (uJ O (uJ O O))) (val k i)) O)) (show 2<=1000 by decide),O⟩
 show E7 _ b=_;unfold E7;rw[vP e];rfl
end
inductive Ch(T:List Th) (a:Str->Str):Str->aF->Prop
 |nil {x:Str} (h:x∉C' T):Ch T a x []
 |cons {x:Str} {l:aF} (h:x∈C' T) (c:Ch T a (a x) l):Ch T a x (a x::l)
structure c3(T:List Th)(a:Str->Str):Prop where
 me:a "me" ∈ ll T
 hd:∀x∈C' T,a x∈p? T
 ch:∀x,∃l,Ch T a x l
section
variable{T:List Th}{M:List Mk}{dk:aF}{W:List Wy}{V:List Vb}{R:List L4.D}{c:L4.D}{P:List Ky}{a:Str->Str}{m:Str->Int}
def abY(h:Ch T a x l):Ch T a x e->l=e:=by
 induction h generalizing e with
 |nil h=>intro b;cases b with
  |nil _=>rfl
  |cons b _=>exact aq b h
 |cons h _ f=>intro b;cases b with
  |nil b=>exact aq h b
  |cons _ d=>rw[f d]
def abZ(h:Ch T a x l):∀y∈l,∃f,Ch T a y f/\f.length<l.length:=by
 induction h with
 |nil _=>intro y b;cases b
 |@cons x l h d j=>
  intro y b;rcases aL.1 b with e|b
  .rw[e];exact⟨l,d,by rw[aN];omega⟩
  .obtain⟨f,i,o⟩:=j y b;exact⟨f,i,by rw[aN];omega⟩
def Xu(h:Ch T a x l):x∉l:=λe=>by obtain⟨f,d,b⟩:=abZ h x e;rw[abY h d]at b;exact eO _ b
def adR(h:Ch T a x l):l.Nodup:=by
 induction h with
 |nil _=>exact ma
 |@cons x l h d b=>exact dB.2 ⟨Xu d,b⟩
def Yi(i:c3 T a)(h:Ch T a x l):∀y∈l,y∈p? T:=by
 induction h with
 |nil _=>intro y b;cases b
 |@cons x l h d f=>
  intro y b;rcases aL.1 b with e|b
  .rw[e];exact i.hd x h
  .exact f y b
theorem Vd:∀{l L:aF},l.Nodup->(∀x∈l,x∈L)->l.length<=L.length
 |[],L,_,_=>cq _
 |a::l,L,b,e=>by rw[dB]at b;have d:=e a bb;have:=Vd (L:=L.erase a) b.2 λz f=>(oP (show z≠a from λw=>b.1 (w▸f))).2 (e z (ba _ f));rw[oh d]at this;have:=jw d;rw[aN];omega
def O0(g:e8 T M dk W)(i:c3 T a)(h:Ch T a x l):l.length<=13:=by
 have b:=Vd (adR h) (Yi i h);have d:(p? T).length<=T.length:=by unfold p?;rw[ah];exact cu _ _
 have:=g.len;omega
def Xv(h:Ch T a w l):w≠x->x∉l->Ch T (W? a x b) w l:=by
 induction h with
 |nil h=>intro _ _;exact .nil h
 |@cons w l h d o=>intro j i;have e:W? a x b w=a w:=ao j;have f:=o (λz=>i (by rw[z];exact bb)) λz=>i (ba _ z);rw[<-e]at f ⊢;exact .cons h f
def c3.mv(g:e8 T M dk W)(i:c3 T a)(t:x∈C' T)(hb:b∈p? T)(hm:x="me" -> b∈ll T)(q:b≠x)(o:Ch T a b j)(r:x∉j):c3 T (W? a x b) where
 me:=by
  unfold W?;by_cases e:("me" : Str)=x
  .rw[ak e];exact hm e.symm
  .rw[ao e];exact i.me
 hd:=λy u=>by
  unfold W?;by_cases e:y=x
  .rw[ak e];exact hb
  .rw[ao e];exact i.hd y u
 ch:=λw=>by
  have cx:Ch T (W? a x b) x (W? a x b x::j):=.cons t (by rw[show W? a x b x=b from ak O];exact Xv o q r);obtain⟨l,h⟩:=i.ch w
  induction h with
  |nil h=>exact⟨_,.nil h⟩
  |@cons w l h d z=>
   by_cases e:w=x
   .rw[e];exact⟨_,cx⟩
   .obtain⟨A,f⟩:=z;have p:W? a x b w=a w:=ao e;rw[<-p]at f;exact⟨_,.cons h f⟩
def NU(p:P.Perm (PT T M))(x:Str):zD [sD P (va a m),.str x]=Z (if x∈C' T then .str (a x)else .E):=by
 refine uP (ρ:=[.z (sD P (va a m)),.z (.str x)]) O (uR (uL (ds:=[sD P (va a m),kD ("at", x)]) (uJ O (uJ O O)) ((NQ P (va a m) ("at", x)).t ?_)));congr 1;by_cases h:x∈C' T
 .rw[ak h,ak ((U8 p x).2 h)];unfold va;rw[ak O]
 .rw[ao h,ao λz=>h ((U8 p x).1 z)]
def Im(p:P.Perm (PT T M))(x:Str):yX [sD P (va a m),.str x]=Z (if x∈vf T M then .int (m x)else .E):=by
 refine uP (ρ:=[.z (sD P (va a m)),.z (.str x)]) O (uR (uL (ds:=[sD P (va a m),kD ("mark", x)]) (uJ O (uJ O O)) ((NQ P (va a m) ("mark", x)).t ?_)));congr 1;by_cases h:x∈vf T M
 .rw[ak h,ak ((Yg p x).2 h)];unfold va;rw[ao (show ¬("mark" : Str)="at" by decide)]
 .rw[ao h,ao λz=>h ((Yg p x).1 z)]
def aD(T:List Th)(a:Str->Str)(x:Str):L4.D:=if x∈C' T then .str (a x)else .E
def RP(p:P.Perm (PT T M))(w e:Sl)(h:Ch T a x l):∀(n:Nat) (b:List L4.D),l.length<n->b.length+l.length<=1000->
  whL (cT (c2 wz ay aA)) (uO (vG (AQ 3 ay)) (vc 4 (uM zD kB))) n [w,.z (sD P (va a m)),e,.O b,.z (aD T a x)]=Z (.nx [w,.z (sD P (va a m)),e,.O (b++l.map D.str),.z .E]):=by
 let S:=sD P (va a m)
 induction h with
 |@nil x h=>
  intro n b f _;rw[show aD T a x=.E from ao h];cases n with
  |zero=>cases f
  |succ n=>rw[fJ,bR];rfl
 |@cons x l h d o=>
  intro n b f j;rw[show aD T a x=.str (a x) from ak h];rw[aN]at f j;cases n with
  |zero=>cases f
  |succ n=>
   have i:uO (vG (AQ 3 ay)) (vc 4 (uM zD kB)) [w,.z S,e,.O b,.z (.str (a x))]=Z (.nx [w,.z S,e,.O (b++[.str (a x)]),.z (aD T a (a x))]):=by refine(uK (ρ':=[w,.z S,e,.O (b++[.str (a x)]),.z (.str (a x))]) (wj ((Dc (es:=b) O O O (by omega)).t O))).t ?_;exact(uY (uL (uJ O (uJ O O)) (NU p (a x)))).t O
   rw[aJ];unfold whL;rw[show cT (c2 wz ay aA) [w,.z (sD P (va a m)),e,.O b,.z (.str (a x))]=Z (γ,[w,.z S,e,.O b,.z (.str (a x))]) from O];simp only[i];refine(o n (b++[.str (a x)]) (by omega) (by rw[aE,cF];omega)).t ?_;rw[bX];rfl
def Mq(p:P.Perm (PT T M))(w:L4.D)(h:Ch T a x l)(d:l.length<=13):yp [w,sD P (va a m),.str x]=Z (l.map D.str):=by let S:=sD P (va a m);refine Aq (ρ:=[.z w,.z S,.z (.str x),.un,.z .E]) O ?_;refine(uK (ρ':=[.z w,.z S,.z (.str x),.O [],.un]) O).t ?_;refine(uK (ρ':=[.z w,.z S,.z (.str x),.O [],.z (aD T a x)]) ((uY (uL (uJ O (uJ O O)) (NU p x))).t O)).t ?_;exact(uK (RP p (.z w) (.z (.str x)) h 50 [] (by omega) (by simp;omega))).t O
def ab0(p:P.Perm (PT T M))(h:Ch T a x l)(d:l.length<=13):Uv [wO T M dk W V R c,sD P (va a m),.str x]=Z (.I (decide (("me" : Str)∈l))):=by let b:aQ:=[.z (wO T M dk W V R c),.z (sD P (va a m)),.z (.str x)];refine uP (ρ:=b) O (uR (uW (x:=.str "me") (y:=.bt (l.map D.str)) (vz (m:="you") (ns:=ts) (xs:=wA T M dk W V R c) (ys:=[]) O O O O O) (vP (uL (uJ O (uJ O (uJ O O))) (Mq p _ h d))) (xC δ _ _)))
def inv0(g:e8 T M dk W):c3 T (at0 T) where
 me:=by obtain⟨t,b,e,k⟩:=NS g;obtain⟨q,f,_,j⟩:=Qm g b (by rw[k];exact λz=>by cases z);rw[<-e,Mp g.z? b,f];exact j k
 hd:=λx i=>by obtain⟨t,b,rfl⟩:=au.1 i;rw[aY]at b;obtain⟨q,f,j,_⟩:=Qm g b.1 (λz=>by rw[z]at b;exact aq b.2 (by decide));rw[Mp g.z? b.1,f];exact j
 ch:=λx=>by
  obtain⟨r,hr⟩:=g.rk;have:∀(n:Nat) (x:Str),r x<n->∃l,Ch T (at0 T) x l:=by
   intro n
   induction n with
   |zero=>intro x h;cases h
   |succ n o=>
    intro x h;by_cases i:x∈C' T
    .obtain⟨t,b,rfl⟩:=au.1 i;rw[aY]at b;obtain⟨q,f,_,_⟩:=Qm g b.1 (λz=>by rw[z]at b;exact aq b.2 (by decide));have e:at0 T t.n=q:=by rw[Mp g.z? b.1,f];rfl
     have j:=((hr t b.1).2 q f).1;obtain⟨l,d⟩:=o q (by omega);rw[<-e]at d;exact⟨_,.cons i d⟩
    .exact⟨_,.nil i⟩
  exact this (r x+1) x (by omega)
end
def zO(a:e ρ=Z (.I δ,ρ1)):v7 e b ρ=Z (.I δ,ρ1):=by unfold v7;rw[a]
section
variable{T:List Th}{M:List Mk}{dk:aF}{W:List Wy}{V:List Vb}{R:List L4.D}{c:L4.D}{P:List Ky}{a:Str->Str}{m:Str->Int}
structure u?(T:List Th)(M:List Mk)(dk:aF)(W:List Wy)(P:List Ky)(a:Str->Str):Prop where
 g:e8 T M dk W
 p:P.Perm (PT T M)
 i:c3 T a
def adS(h:x∈p? T):∃t∈T,t.n=x/\t.k.hd=γ:=by obtain⟨t,b,e⟩:=au.1 h;rw[aY]at b;exact⟨t,b.1,e,b.2⟩
def Yj(g:e8 T M dk W)(b:t∈T):t.n∈vf T M ↔ t.k.mk=γ:=by
 unfold vf;rw[aT,Mo g.z? _ b];constructor
 .rintro(h|h)
  .exact h
  .exact aq O ((cp.1 g.nd).2.2 _ (au.2 ⟨t,b,O⟩) _ h)
 .exact .inl
def Qn(t:Th)(k:Kd):e? δ (.str t.k.s) (.str k.s)=Z (.I (decide (t.k=k))):=HI t.k k
def Xw(s:u? T M dk W P a)(i:x∈p? T):∃b,zx [wO T M dk W V R c,sD P (va a m),.str x]=Z (.I b):=by
 obtain⟨t,f,rfl,_⟩:=adS i;let d:aQ:=[.z (wO T M dk W V R c),.z (sD P (va a m)),.z (.str t.n)];have e:c2 (e? δ) (c1 (uS vJ "kind") (vh vq "thing_of" aa cy)) cU d=Z (.I (decide (t.k=.box)),d):=
  uW (vO (vz (m:="thing_of") (ns:=ts) (xs:=wA T M dk W V R c) (ys:=[.str t.n]) O O O O (AN s.g.z? f)) (AM t)) O (Qn t .box)
 by_cases h:t.k=.box
 .rw[aV h]at e;refine⟨decide (m t.n=0),uP (ρ:=d) O (uR ((vm e).t (uW (uL (uJ O (uJ O O)) ((Im s.p t.n).t (by rw[ak ((Yj s.g f).2 (by rw[h];rfl))]))) O ?_)))⟩;rw[yE];rfl
 .rw[aX h]at e;exact⟨δ,uP (ρ:=d) O (uR (zO e))⟩
def opn(sh:Str->Bool)(h:Str):aF->Bool
 |[]=>δ
 |a::l=>if a=h then γ else if sh a then δ else opn sh h l
def Ve{sh:Str->Bool}{h a:Str}{l:aF}:opn sh h (a::l)=if a=h then γ else if sh a then δ else opn sh h l:=rfl
def oB:FS:=(uO (fh (cT (c2 (e? δ) ay aw)) (uT cR) uZ)
 (fh (cT (uM zx nV)) (uT bI) uZ))
theorem Lj{st:L4.D}(h:Str):∀(l:aF) (s:Sl),(∀a∈l,zx [w,st,.str a]=Z (.I (sh a)))->∃j,fl (gN 4) oB (l.map D.str) [.z w,.z st,.z x,.z (.str h),s]=Z (.rt (.I (opn sh h l)) [.z w,.z st,.z x,.z (.str h),j])\/(opn sh h l=δ/\fl (gN 4) oB (l.map D.str) [.z w,.z st,.z x,.z (.str h),s]=Z (.nx [.z w,.z st,.z x,.z (.str h),j]))
 |[],s,_=>⟨s,.inr ⟨O,O⟩⟩
 |a::l,s,p=>by
  let d:aQ:=[.z w,.z st,.z x,.z (.str h),.z (.str a)];have e:cT (c2 (e? δ) ay aw) d=Z (decide (a=h),d):=vZ (uW (x:=.str a) (y:=.str h) O O (xx δ a h));have f:cT (uM zx nV) d=Z (sh a,d):=vZ (uL (uJ O (uJ O (uJ O O))) (p a bb));rw[aJ];unfold fl;rw[show gN 4 (.str a) [.z w,.z st,.z x,.z (.str h),s]=Z d from O];rw[Ve];by_cases i:a=h
  .rw[aV i]at e;rw[ak i];refine⟨.z (.str a),.inl ?_⟩;have o:oB d=Z (.rt (.I γ) d):=uU ((u4 e).t O);simp only[o];rfl
  .rw[aX i]at e;rw[ao i];have o:oB d=_:=uK ((vI e).t O);simp only[o];cases q:sh a with
   |true=>rw[q]at f;refine⟨.z (.str a),.inl ?_⟩;simp only[(u4 f).t (O:uT bI d=Z (.rt (.I δ) d)),if_true];rfl
   |false=>rw[q]at f;obtain⟨j,g⟩:=Lj (w:=w) (st:=st) (x:=x) (sh:=sh) h l (.z (.str a)) λb r=>p b (ba _ r);refine⟨j,?_⟩;simp only[(vI f).t (O:uZ d=Z (.nx d)),eG,if_false];exact g
def Mr(s:u? T M dk W P a)(x h:Str):∃b,zy [wO T M dk W V R c,sD P (va a m),.str x,.str h]=Z (.I b):=by
 obtain⟨l,d⟩:=s.i.ch x;have j:∀y:Str,∃b:Bool,y∈p? T->zx [wO T M dk W V R c,sD P (va a m),.str y]=Z (.I b):=λy=>by
  by_cases f:y∈p? T
  .obtain⟨b,e⟩:=Xw (c:=c) (m:=m) s f;exact⟨b,λ_=>e⟩
  .exact⟨δ,λz=>aq z f⟩
 refine⟨opn (λy=>(j y).choose) h l,?_⟩;obtain⟨t,q⟩:=Lj (w:=wO T M dk W V R c) (st:=sD P (va a m)) (x:=.str x) (sh:=λy=>(j y).choose) h l .un λy f=>(j y).choose_spec (Yi s.i d y f);have o:=vP (uL (a:=ax aa cB) (ρ:=[.z (wO T M dk W V R c),.z (sD P (va a m)),.z (.str x),.z (.str h),.un]) (uJ O (uJ O (uJ O O))) (Mq (m:=m) s.p _ d (O0 s.g s.i d)));rcases q with q|⟨r,q⟩
 .exact uP O (uU ((wm (HL o)).t q))
 .rw[r];exact uP O ((uK ((wm (HL o)).t q)).t O)
def Ms(s:u? T M dk W P a):Ai [wO T M dk W V R c,sD P (va a m)]=Z (.str (a "me")):=
 uP (ρ:=[.z (wO T M dk W V R c),.z (sD P (va a m))]) O (uR (uL (uJ O (uJ (vz (m:="you") (ns:=ts) (xs:=wA T M dk W V R c) (ys:=[]) O O O O O) O)) ((NU s.p "me").t (by rw[ak (Yf s.g)]))))
def Vf(s:u? T M dk W P a)(i:t∈T)(h:t.k=.lamp)(r:Str):∃b,AI [wO T M dk W V R c,sD P (va a m),.str t.n,.str r]=Z (.I b):=by
 let d:aQ:=[.z (wO T M dk W V R c),.z (sD P (va a m)),.z (.str t.n),.z (.str r)];have e:c2 (e? δ) (uM yX cB) aM d=Z (.I (decide (m t.n=1)),d):=uW (uL (uJ O (uJ O O)) ((Im s.p t.n).t (by rw[ak ((Yj s.g i).2 (by rw[h];rfl))]))) O (by rw[yE];rfl);obtain⟨b,f⟩:=Mr (c:=c) (m:=m) s t.n r;cases q:decide (m t.n=1)with
 |true=>rw[q]at e;exact⟨b,uP (ρ:=d) O (uR ((vm e).t (uL (uJ O (uJ O (uJ O (uJ O O)))) f)))⟩
 |false=>rw[q]at e;exact⟨δ,uP (ρ:=d) O (uR (zO e))⟩
def Vg(s:u? T M dk W P a):∃b,FI [wO T M dk W V R c,sD P (va a m)]=Z (.I b):=by
 let w:=wO T M dk W V R c;let r:=a "me";let S:=sD P (va a m);let d:aQ:=[.z w,.z S,.z (.str r)];have o:vc 2 (uM Ai cz) [.z w,.z S,.un]=Z (.nx d):=(uY (uL (uJ O (uJ O O)) (Ms s))).t O;have i:wg (cT (vh zC "is_dark" aa cy)) d=Z (!decide (r∈dk),d):=xV (vZ (vz (m:="is_dark") (ns:=ts) (xs:=wA T M dk W V R c) (ys:=[.str r]) O O O O (uP (ρ:=[.z w,.z (.str r)]) O (uR (uW (x:=.str r) (y:=.bt (dk.map D.str)) O O (xC δ r dk))))));cases q:decide (r∈dk)with
 |false=>rw[q]at i;exact⟨γ,uP O ((uK o).t (uU ((u4 i).t O)))⟩
 |true=>
  rw[q]at i;have E:=s.g.len;let L:=T.filter λt=>decide (t.k=.lamp);have l:∀t:Th,∃b:Bool,t∈L->AI [w,S,.str t.n,.str r]=Z (.I b):=λt=>by
   by_cases j:t∈L
   .have h:=aY.1 j;obtain⟨b,e⟩:=Vf (c:=c) (m:=m) s h.1 (bB h.2) r;exact⟨b,λ_=>e⟩
   .exact⟨δ,λz=>aq z j⟩
  have p:uX 1 [0,1,2] (iL (vh yB "of_kind" aa ip)) (gN 0) vN (uM AI sf) d=Z (L.map λt=>D.I (l t).choose,d):=by have f:L.length<=1000:=bD (cu _ _) (by omega);exact xH (λt:Th=>D.str t.n) (λt=>D.I (l t).choose) L (ρ1:=d) (HL (vz (m:="of_kind") (ns:=ts) (xs:=wA T M dk W V R c) (ys:=[.str Kd.lamp.s]) O O O O (JO T (by omega) _ _ .lamp))) f λt j=>⟨[.z (.str t.n),.z w,.z S,.z (.str r)],[.z (.str t.n),.z w,.z S,.z (.str r)],O,uL (uJ O (uJ O (uJ O (uJ O O)))) ((l t).choose_spec j),O⟩
  exact⟨_,uP O ((uK o).t ((uK ((vI i).t O)).t (uR (vO (vP p) (PM _ _)))))⟩
def Qo(s:u? T M dk W P a)(z:t∈T):∃b,wQ [wO T M dk W V R c,sD P (va a m),.str t.n]=Z (.I b):=by
 let w:=wO T M dk W V R c;let S:=sD P (va a m);let d:aQ:=[.z w,.z S,.z (.str t.n),.z (en t)];have f:vc 3 (vh vq "thing_of" aa cy) [.z w,.z S,.z (.str t.n),.un]=Z (.nx d):=(uY (vz (m:="thing_of") (ns:=ts) (xs:=wA T M dk W V R c) (ys:=[.str t.n]) O O O O (AN s.g.z? z))).t O;have e:ya (cT (c2 y8 aw aA)) (wg (cT (vh v3 "is_plainly" aw vB))) d=Z (!t.k.pl,d):=zt O (xV (vZ (vz (m:="is_plainly") (ns:=["name", "words", "kind", "start"]) (xs:=[.str t.n,.du (t.w.map D.str),.str t.k.s,oS t.s]) (ys:=[]) O O O O (FX t))));obtain⟨i,u⟩:=Mr (c:=c) (m:=m) s t.n "me";obtain⟨j,x⟩:=Mr (c:=c) (m:=m) s t.n (a "me");obtain⟨A,y⟩:=Vg (c:=c) (m:=m) s;have h:cT (uM zy rT) d=Z (i,d):=vZ (uL (uJ O (uJ O (uJ O (uJ (vz (m:="you") (ns:=ts) (xs:=wA T M dk W V R c) (ys:=[]) O O O O O) O)))) u);have l:uM zy sd d=Z (.I j,d):=uL (uJ O (uJ O (uJ O (uJ (uL (uJ O (uJ O O)) (Ms s)) O)))) x;cases p:t.k.pl with
 |false=>rw[p]at e;exact⟨_,uP O ((uK f).t (uU ((u4 e).t O)))⟩
 |true=>
  rw[p]at e;cases i with
  |true=>exact⟨_,uP O ((uK f).t ((uK ((vI e).t O)).t (uU ((u4 h).t O))))⟩
  |false=>
   cases j with
   |true=>exact⟨_,uP (ρ:=d) O ((uK f).t ((uK ((vI e).t O)).t ((uK ((vI h).t O)).t (uR ((vm l).t (uL (uJ O (uJ O O)) y))))))⟩
   |false=>exact⟨_,uP (ρ:=d) O ((uK f).t ((uK ((vI e).t O)).t ((uK ((vI h).t O)).t (uR (zO l)))))⟩
def Xx(S:L4.D):wQ [wO T M dk W V R c,S,.E]=Z (.I δ):=by let w:=wO T M dk W V R c;let b:aQ:=[.z w,.z S,.z .E,.z .E];have d:vc 3 (vh vq "thing_of" aa cy) [.z w,.z S,.z .E,.un]=Z (.nx b):=(uY (vz (m:="thing_of") (ns:=ts) (xs:=wA T M dk W V R c) (ys:=[.E]) O O O O (by rfl))).t O;exact uP (ρ:=b) O ((uK d).t (uU ((u4 O).t O)))
end
def q3(v:Str)(x y:Option Str):L4.D:=.du [.str v,oS x,oS y]
def Cm(T:List Th)(W:List Wy)(v:Vb)(x y:Option Str):Prop:=(v.f="one" /\ ∃n∈gk T,x=Z n/\y=J)\/(v.f="two" /\ ∃n∈gk T,∃k∈gk T,x=Z n/\y=Z k)\/(v.f="alone" /\ x=J/\y=J)\/(v.f="way" /\ ∃d∈R? W,x=Z d/\y=J)
def thO(v:Vb)(x y:Option Str):List (Option Str):=if v.f="way" then [J,J]else [x,y]
section
variable{T:List Th}{M:List Mk}{dk:aF}{W:List Wy}{V:List Vb}{R:List L4.D}{c:L4.D}{P:List Ky}{a:Str->Str}{m:Str->Int}{v:Vb}{x y:Option Str}
def Qp(d:((V++v9).flatMap Vb.ws).Nodup)(b:v∈V++v9):xh [wO T M dk W V R c,.str v.n]=Z (j? v):=
 uP (ρ:=[.z (wO T M dk W V R c),.z (.str v.n)]) O (uR (uW (x:=vwD (V++v9)) (y:=.str v.n) O O (Mj d b)))
def Vh(i:((V++v9).flatMap Vb.ws).Nodup)(h:v∈V++v9)(x y:Option Str):zK [wO T M dk W V R c,q3 v.n x y]=Z (.I (decide (v.f="way"))):=by
 let w:=wO T M dk W V R c;let b:aQ:=[.z w,.z (q3 v.n x y),.z (j? v)];have e:vc 2 (yr (cT (c2 y8 ag aA)) aA (vh wb "verb_of" aa ik)) [.z w,.z (q3 v.n x y),.un]=Z (.nx b):=by refine(uY (d:=j? v) (ρ':=[.z w,.z (q3 v.n x y),.un]) ?_).t O;show vh wb "verb_of" aa ik [.z w,.z (q3 v.n x y),.un]=_;exact vz (m:="verb_of") (ns:=ts) (xs:=wA T M dk W V R c) (ys:=[.str v.n]) O O O O (Qp i h)
 exact uP (ρ:=b) O ((uK e).t (uR ((vm O).t (uW (x:=.str v.f) (y:=.str "way") O O (by rw[xx];rfl)))))
def Lk(i:((V++v9).flatMap Vb.ws).Nodup)(d:v∈V++v9)(x y:Option Str):wx [wO T M dk W V R c,q3 v.n x y]=Z (.du ((thO v x y).map oS)):=by
 let b:aQ:=[.z (wO T M dk W V R c),.z (q3 v.n x y)];have e:cT (uM zK cz) b=Z (decide (v.f="way"),b):=vZ (uL (uJ O (uJ O O)) (Vh i d x y));unfold thO;by_cases h:v.f="way"
 .rw[aV h]at e;rw[ak h];exact uP (ρ:=b) O (uU ((u4 (zt O e)).t O))
 .rw[aX h]at e;rw[ao h];exact uP (ρ:=b) O ((vg (zt O e)).t O)
def m_it(h:wx [w,q]=Z (.du [oS x,oS y])):wy [w,S,q,.str "it"]=Z (oS x):=by let b:aQ:=[.z w,.z S,.z q,.z (.str "it")];exact uP (ρ:=b) O ((vg O).t (uU ((u4 O).t (uR (uW (uL (uJ O (uJ O O)) h) O O)))))
def Xy(h:wx [w,q]=Z (.du [oS x,oS y])):wy [w,S,q,.str "other"]=Z (oS y):=by let b:aQ:=[.z w,.z S,.z q,.z (.str "other")];exact uP (ρ:=b) O ((vg O).t ((vg O).t (uU ((u4 O).t (uR (uW (uL (uJ O (uJ O O)) h) O O))))))
def ab1(s:u? T M dk W P a)(q:L4.D):wy [wO T M dk W V R c,sD P (va a m),q,.str "here"]=Z (.str (a "me")):=by let b:aQ:=[.z (wO T M dk W V R c),.z (sD P (va a m)),.z q,.z (.str "here")];exact uP (ρ:=b) O (uU ((u4 O).t (uR (uL (uJ O (uJ O O)) (Ms s)))))
def JX(w S q:L4.D){x:Str}(h:Nm x):wy [w,S,q,.str x]=Z (.str x):=by let b:aQ:=[.z w,.z S,.z q,.z (.str x)];have all:=aS.1 (show (nmL.all λx=>!decide (x="here")&&!decide (x="it")&&!decide (x="other"))=γ by kernel_rfl) x h;simp only[aW,fq,decide_eq_false_iff_not]at all;have e:∀t:Str,¬x=t->cT (c2 (e? δ) aw (cC (.str t))) b=Z (δ,b):=λt d=>vZ (uW (x:=.str x) (y:=.str t) O O (by rw[xx];show Z (D.I (decide (x=t)))=_;rw[aX d]));exact uP (ρ:=b) O ((vg (e _ all.1.1)).t ((vg (e _ all.1.2)).t ((vg (e _ all.2)).t O)))
def Xz(p:((V++v9).flatMap Vb.ws).Nodup)(o:v∈V++v9)(i:Cm T W v x y)(S:L4.D)(h:By v.f t):∃z∈gk T,wy [wO T M dk W V R c,S,q3 v.n x y,.str t]=Z (.str z):=by
 have b:=Lk (T:=T) (M:=M) (dk:=dk) (W:=W) (R:=R) (c:=c) p o x y;have nw:∀f:Str,f∈(["one", "two"]:aF)->v.f=f->wx [wO T M dk W V R c,q3 v.n x y]=Z (.du [oS x,oS y]):=λf j e=>by unfold thO at b;rw[ao (show ¬v.f="way" from by rw[e];intro z;rw[z]at j;exact aq j (by decide))]at b;exact b
 rcases h with ⟨rfl,h⟩|⟨rfl,h⟩
 .have b:=nw _ h O;rcases i with ⟨_,n,d,rfl,rfl⟩|⟨_,n,d,k,l,rfl,rfl⟩|⟨e,_⟩|⟨e,_⟩
  .exact⟨n,d,m_it b⟩
  .exact⟨n,d,m_it b⟩
  .rw[e]at h;exact aq h (by decide)
  .rw[e]at h;exact aq h (by decide)
 .have b:=nw "two" (by decide) h;rcases i with ⟨e,_⟩|⟨_,n,d,k,l,rfl,rfl⟩|⟨e,_⟩|⟨e,_⟩
  .rw[e]at h;exact aq h (by decide)
  .exact⟨k,l,Xy b⟩
  .rw[e]at h;exact aq h (by decide)
  .rw[e]at h;exact aq h (by decide)
def Vi(g:e8 T M dk W)(h:z∈T.map Th.n):Nm z:=g.nm _ (bF _ h)
def pl_T(h:z∈gk T):z∈T.map Th.n:=by obtain⟨t,b,rfl⟩:=au.1 h;exact au.2 ⟨t,(aY.1 b).1,O⟩
def NV(h:z∈p? T):z∈T.map Th.n:=by obtain⟨t,b,rfl⟩:=au.1 h;exact au.2 ⟨t,(aY.1 b).1,O⟩
def Vj(h:z∈ll T):z∈T.map Th.n:=by obtain⟨t,b,rfl⟩:=au.1 h;exact au.2 ⟨t,(aY.1 b).1,O⟩
def RQ(s:u? T M dk W P a)(l:((V++v9).flatMap Vb.ws).Nodup)(d:v∈V++v9)(b:Cm T W v x y)(hN:∀z∈N,z∈T.map Th.n)(h:Tm v.f N t):∃z∈T.map Th.n,wy [wO T M dk W V R c,sD P (va a m),q3 v.n x y,.str t]=Z (.str z):=by
 rcases h with h|rfl|h
 .exact⟨t,hN t h,JX _ _ _ (Vi s.g (hN t h))⟩
 .exact⟨_,Vj s.i.me,ab1 s _⟩
 .obtain⟨z,j,e⟩:=Xz (M:=M) (dk:=dk) (R:=R) (c:=c) l d b (sD P (va a m)) h;exact⟨z,pl_T j,e⟩
def XA(k:Nat)(w S q t:L4.D)(b:Bool):Prop:=∃j e f d,t=.obj j e f/\vv k j=Z d/\e.contains "holds" = δ/\d [t,w,S,q]=Z (.I b)
def RR(s:u? T M dk W P a)(U:((V++v9).flatMap Vb.ws).Nodup)(Q:v∈V++v9)(I:Cm T W v x y)(h:Ts T M v.f n t):∀k,n<=k->∃b,XA k (wO T M dk W V R c) (sD P (va a m)) (q3 v.n x y) t b:=by
 let w:=wO T M dk W V R c;let S:=sD P (va a m);let q:=q3 v.n x y
 induction h with
 |@ats n B t2 H hb=>
  intro k _;obtain⟨z,hz,E⟩:=RQ (R:=R) (c:=c) (m:=m) s U Q I (λ_ h=>h) H;obtain⟨u,hu,eu⟩:=RQ (R:=R) (c:=c) (m:=m) s U Q I (λ_ h=>NV h) hb;let A:aQ:=[.z (atO B t2),.z w,.z S,.z q,.z (.str z),.un];let o:L4.D->aQ:=λd=>[.z (atO B t2),.z w,.z S,.z q,.z (.str z),.z d];have e0:∀(d:L4.D),zD [S,.str z]=Z d->∀f:FS,uO (vc 4 (uM wy fO)) (uO (vc 5 (uM zD (ax aj eA))) f) [.z (atO B t2),.z w,.z S,.z q,.un,.un]=f (o d):=λd hd f=>(uK (ρ':=A) ((uY (uL (uJ O (uJ O (uJ O (uJ O O)))) E)).t O)).t (uK (ρ':=o d) ((uY (uL (uJ O (uJ O O)) hd)).t O))
  by_cases hn:z∈C' T
  .exact⟨_,3,_,_,EH,O,by cases k<;>rfl,O,uP (ρ:=o (.str (a z))) O ((e0 _ ((NU s.p z).t (by rw[ak hn])) _).t (uR ((vm O).t (uW (x:=.str (a z)) (y:=.str u) O (uL (uJ O (uJ O (uJ O (uJ O O)))) eu) (by rw[xx])))))⟩
  .exact⟨δ,3,_,_,EH,O,by cases k<;>rfl,O,uP (ρ:=o .E) O ((e0 _ ((NU s.p z).t (by rw[ao hn])) _).t (uR (zO O)))⟩
 |@has n B H=>intro k _;obtain⟨z,hz,E⟩:=RQ (R:=R) (c:=c) (m:=m) s U Q I (λ_ h=>h) H;obtain⟨l,ch⟩:=s.i.ch z;let o:aQ:=[.z (hsO B),.z w,.z S,.z q];exact⟨_,4,_,_,HA,O,by cases k<;>rfl,O,uP (ρ:=o) O (uR (uL (uJ O (uJ O (uJ (uL (uJ O (uJ O (uJ O (uJ O O)))) E) O))) (ab0 s.p ch (O0 s.g s.i ch))))⟩
 |@seen n B H=>intro k _;obtain⟨z,hz,E⟩:=RQ (R:=R) (c:=c) (m:=m) s U Q I (λ_ h=>h) H;obtain⟨u,hu,rfl⟩:=au.1 hz;obtain⟨b,eb⟩:=Qo (V:=V) (R:=R) (c:=c) (m:=m) s hu;let o:aQ:=[.z (seO B),.z w,.z S,.z q];exact⟨b,5,_,_,FM,O,by cases k<;>rfl,O,uP (ρ:=o) O (uR (uL (uJ O (uJ O (uJ (uL (uJ O (uJ O (uJ O (uJ O O)))) E) O))) eb))⟩
 |@mark n p val hq=>
  intro k _;obtain⟨z,E⟩:∃z,wy [w,S,q,.str p.1]=Z (.str z):=by
   rcases hq with hq|⟨hq,_⟩
   .exact⟨_,JX _ _ _ (UH s.g hq)⟩
   .obtain⟨z,_,e⟩:=Xz (M:=M) (dk:=dk) (R:=R) (c:=c) U Q I S hq;exact⟨z,e⟩
  let o:L4.D->aQ:=λd=>[.z (mkO p.1 val),.z w,.z S,.z q,.z d];have e0:∀(d:L4.D),yX [S,.str z]=Z d->vc 4 (uM yX kA) [.z (mkO p.1 val),.z w,.z S,.z q,.un]=Z (.nx (o d)):=λd hd=>(uY (uL (uJ O (uJ (uL (uJ O (uJ O (uJ O (uJ O O)))) E) O)) hd)).t O;by_cases hn:z∈vf T M
  .exact⟨_,6,_,_,AJ,O,by cases k<;>rfl,O,uP (ρ:=o (.int (m z))) O ((uK (e0 _ ((Im s.p z).t (by rw[ak hn])))).t (uR ((vm O).t (uW (x:=.int (m z)) (y:=.int val) O O (yE _ _ _)))))⟩
  .exact⟨δ,6,_,_,AJ,O,by cases k<;>rfl,O,uP (ρ:=o .E) O ((uK (e0 _ ((Im s.p z).t (by rw[ao hn])))).t (uR (zO O)))⟩
 |@kind n B kk H=>intro k _;obtain⟨z,hz,E⟩:=RQ (R:=R) (c:=c) (m:=m) s U Q I (λ_ h=>h) H;obtain⟨u,hu,rfl⟩:=au.1 hz;let o:aQ:=[.z (kiO B kk),.z w,.z S,.z q,.z (en u)];exact⟨_,7,_,_,FP,O,by cases k<;>rfl,O,uP (ρ:=o) O ((uK (ρ':=o) ((uY (vz (m:="thing_of") (ns:=ts) (xs:=wA T M dk W V R c) (ys:=[.str u.n]) (ρ2:=[.z (kiO B kk),.z w,.z S,.z q,.un]) O O O (uJ (uL (uJ O (uJ O (uJ O (uJ O O)))) E) O) (AN s.g.z? hu))).t O)).t (uR ((vm O).t (uW (x:=.str u.k.s) (y:=.str kk) (vO O (AM u)) O (xx _ _ _)))))⟩
 |@word n d N=>
  intro k _;obtain⟨z,rfl⟩:∃z,x=Z z:=by
   rcases I with ⟨e,_⟩|⟨e,_⟩|⟨e,_⟩|⟨_,d,_,rfl,_⟩
   .rw[e]at N;exact aq N (by decide)
   .rw[e]at N;exact aq N (by decide)
   .rw[e]at N;exact aq N (by decide)
   .exact⟨d,O⟩
  let o:aQ:=[.z (woO d),.z w,.z S,.z (q3 v.n (Z z) y)];exact⟨_,8,_,_,FR,O,by cases k<;>rfl,O,uP (ρ:=o) O (uR ((vm (ρ1:=o) (uL (uJ O (uJ O O)) ((Vh U Q (Z z) y).t (by rw[aV N])))).t (uW (x:=.str z) (y:=.str d) O O (xx _ _ _))))⟩
 |@lit n=>intro k _;obtain⟨b,eb⟩:=Vg (V:=V) (R:=R) (c:=c) (m:=m) s;let o:aQ:=[.z liO,.z w,.z S,.z q];exact⟨b,15,_,_,HC,O,by cases k<;>rfl,O,uP (ρ:=o) O (uR (uL (uJ O (uJ O O)) eb))⟩
 |@no n d h ih=>intro k hk;obtain⟨k,rfl⟩:∃j,k=j+1:=⟨k - 1,by omega⟩;obtain⟨b,j,r,G,Y,rfl,h2,h3,h4⟩:=ih k (by omega);let o:aQ:=[.z (noO (.obj j r G)),.z w,.z S,.z q];exact⟨!b,9,["inner"],[.obj j r G],fb 4 4 (zL (vv k)),O,O,O,uP (ρ:=o) O (uR (Mg (vz (g:=vv k) (m:="holds") (c:=j) (ns:=r) (hh:=Y) (xs:=G) (ys:=[w,S,q]) (ρ1:=o) (ρ2:=o) O h2 h3 O h4)))⟩
 |@bo n d e h h' ih ih'=>
  intro k hk;obtain⟨k,rfl⟩:∃j,k=j+1:=⟨k - 1,by omega⟩;obtain⟨b,j,r,G,Y,rfl,h2,h3,h4⟩:=ih k (by omega);obtain⟨b',j',F,C,hh',rfl,h2',h3',h4'⟩:=ih' k (by omega);let D2:L4.D:=boO (.obj j r G) (.obj j' F C);let o:aQ:=[.z D2,.z w,.z S,.z q];have e1:vh (vv k) "holds" (c1 (uS Ik "one") aa) dv o=Z (.I b,o):=vz (g:=vv k) (m:="holds") (c:=j) (ns:=r) (hh:=Y) (xs:=G) (ys:=[w,S,q]) (ρ1:=o) (ρ2:=o) O h2 h3 O h4;have e2:vh (vv k) "holds" (c1 (uS DU "other") aa) dv o=Z (.I b',o):=vz (g:=vv k) (m:="holds") (c:=j') (ns:=F) (hh:=hh') (xs:=C) (ys:=[w,S,q]) (ρ1:=o) (ρ2:=o) O h2' h3' rfl h4';cases b with
  |true=>exact⟨b',10,["one", "other"],[.obj j r G,.obj j' F C],fb 4 4 (yt (vv k)),O,O,O,uP (ρ:=o) O (uR ((vm e1).t e2))⟩
  |false=>exact⟨δ,10,["one", "other"],[.obj j r G,.obj j' F C],fb 4 4 (yt (vv k)),O,O,O,uP (ρ:=o) O (uR (zO e1))⟩
end
section
variable{T:List Th}{M:List Mk}{dk:aF}{W:List Wy}{V:List Vb}{R:List L4.D}{c:L4.D}{P:List Ky}{a:Str->Str}{m:Str->Int}{v:Vb}{x y:Option Str}
def u?.len(s:u? T M dk W P a):P.length<=900:=by have:=(OY s.g).2;rw[s.p.length_eq];omega
def adU{x:Str}(h:x∈C' T):∃t∈T,t.n=x/\¬t.k=.room:=by obtain⟨t,b,e⟩:=au.1 h;rw[aY]at b;exact⟨t,b.1,e,λz=>by rw[z]at b;exact aq b.2 (by decide)⟩
def Vk(s:Str)(x:Str):e? γ (.bt [kD (s,x)]) (.bt [])=Z (.I γ):=by rfl
def NW(g:e8 T M dk W){x:Str}(h:x∈C' T):EF [wO T M dk W V R c,.str x]=Z (.bt [kD ("at", x)]):=by obtain⟨t,j,rfl,i⟩:=adU h;let w:=wO T M dk W V R c;let b:aQ:=[.z w,.z (.str t.n),.z (en t)];have d:vc 2 (vh vq "thing_of" aa bK) [.z w,.z (.str t.n),.un]=Z (.nx b):=(uY (vz (m:="thing_of") (ns:=ts) (xs:=wA T M dk W V R c) (ys:=[.str t.n]) O O O O (AN g.z? j))).t O;have e:cT (c2 (e? δ) (c1 (uS vJ "kind") aj) dc) b=Z (δ,b):=vZ (uW (vO O (AM t)) O ((Qn t .room).t (by rw[aX i])));have f:ya (cT (c2 y8 aj aA)) (cT (c2 (e? δ) (c1 (uS vJ "kind") aj) dc)) b=Z (δ,b):=zt O e;refine uP (ρ:=b) O ((uK d).t (uR ?_));unfold yr;rw[f];rfl
def RT(g:e8 T M dk W){x:Str}{t:Th}(j:x∈C' T)(i:t∈T):FK [wO T M dk W V R c,.str x,.str t.n]=Z (.I (t.k.hd&&!decide (t.n=x))):=by
 let w:=wO T M dk W V R c;let b:aQ:=[.z w,.z (.str x),.z (.str t.n),.z (en t)];have h:vc 3 (vh vq "thing_of" aa cy) [.z w,.z (.str x),.z (.str t.n),.un]=Z (.nx b):=(uY (vz (m:="thing_of") (ns:=ts) (xs:=wA T M dk W V R c) (ys:=[.str t.n]) O O O O (AN g.z? i))).t O;have d:vh wa "can_hold" aw vB b=Z (.I t.k.hd,b):=vz (m:="can_hold") (ns:=["name", "words", "kind", "start"]) (xs:=[.str t.n,.du (t.w.map D.str),.str t.k.s,oS t.s]) (ys:=[]) O O O O (L8 t);refine uP (ρ:=b) O ((uK h).t (uR ((vm (ρ1:=b) (uW (uL (uJ O (uJ O O)) (NW g j)) O (Vk _ _))).t ((vm (ρ1:=b) O).t ?_))));cases f:t.k.hd with
 |true=>rw[f]at d;exact(vm d).t (uW (x:=.str t.n) (y:=.str x) O O (by rw[xx];rfl))
 |false=>rw[f]at d;exact zO d
def Done(w S q d:L4.D)(o:L4.D):Prop:=∃k e f b,d=.obj k e f/\zz k=Z b/\e.contains "done" = δ/\b [d,w,S,q]=Z o
def stO(P:List Ky):Option ((Str->Str)×(Str->Int))->L4.D
 |none=>.E
 |some q=>sD P (va q.1 q.2)
def Qq(s:u? T M dk W P a){q:L4.D}{t d x:Str}{u:Th}(E:x∈C' T)(A:u∈T)(I:x="me" -> u.k=.room)(G:wy [wO T M dk W V R c,sD P (va a m),q,.str t]=Z (.str x))(H:wy [wO T M dk W V R c,sD P (va a m),q,.str d]=Z (.str u.n)):
  ∃o,Done (wO T M dk W V R c) (sD P (va a m)) q (O' t d) (stO P o)/\∀p,o=Z p->c3 T p.1:=by
 let w:=wO T M dk W V R c;let S:=sD P (va a m);obtain⟨l,h⟩:=s.i.ch u.n;let b:aQ:=[.z (O' t d),.z w,.z S,.z q,.z (.str x),.z (.str u.n)];have e:cT (uM FK sr) b=Z (u.k.hd&&!decide (u.n=x),b):=vZ (uL (uJ O (uJ O (uJ O O))) (RT s.g E A));have F:cT (c2 (n6 δ) ay (cL (vK yp kg))) b=Z (decide (x∈l),b):=vZ (uW (x:=.str x) (y:=.bt (l.map D.str)) O (vP (uL (uJ O (uJ O (uJ O O))) (Mq s.p _ h (O0 s.g s.i h)))) (xC δ _ _));have r:∀f:FS,uO (vc 4 (uM wy fO)) (uO (vc 5 (uM wy ni)) f) [.z (O' t d),.z w,.z S,.z q,.un,.un]=f b:=λf=>(uK (ρ':=[.z (O' t d),.z w,.z S,.z q,.z (.str x),.un]) ((uY (uL (uJ O (uJ O (uJ O (uJ O O)))) G)).t O)).t (uK (ρ':=b) ((uY (uL (uJ O (uJ O (uJ O (uJ O O)))) H)).t O))
 cases k:u.k.hd&&!decide (u.n=x)with
 |false=>rw[k]at e;exact⟨J,⟨11,_,_,Bb,O,O,O,uP (ρ:=b) O ((r _).t (uU ((u4 (F0 (xV e))).t O)))⟩,λp z=>by cases z⟩
 |true=>
  rw[k]at e;rw[aW,fq,decide_eq_false_iff_not]at k;have j:=zt (xV e) F;cases B:decide (x∈l)with
  |true=>rw[B]at j;exact⟨J,⟨11,_,_,Bb,O,O,O,uP (ρ:=b) O ((r _).t (uU ((u4 j).t O)))⟩,λp z=>by cases z⟩
  |false=>rw[B]at j;refine⟨Z (W? a x u.n,m),⟨11,_,_,Bb,O,O,O,uP (ρ:=b) O ((r _).t ((vg j).t (uR (uL (ds:=[S,kD ("at", x),.str u.n]) (uJ O (uJ O (uJ O O))) ((Ql P s.len (va a m) ("at", x) (.str u.n)).t (by rw[adP];rfl))))))⟩,λp z=>?_⟩;cases z;exact s.i.mv s.g E (au.2 ⟨u,aY.2 ⟨A,k.1⟩,O⟩) (λz=>au.2 ⟨u,aY.2 ⟨A,aV (I z)⟩,O⟩) k.2 h (of_decide_eq_false B)
theorem Vl{d:Type}(kf:d->fc)(b:d->Int)(k:fc):∀l:List d,(xk (l.map kf) (l.map λa=>D.int (b a)) k).getD .E=.E\/∃z,(xk (l.map kf) (l.map λa=>D.int (b a)) k).getD .E=.int z
 |[]=>.inl O
 |a::l=>by
  rw[aJ,aJ];unfold xk;split
  .exact .inr ⟨b a,O⟩
  .exact Vl kf b k l
def Vm(s:u? T M dk W P a)(B:wy [wO T M dk W V R c,sD P (va a m),q,.str t]=Z (.str z))(n:Int):
  ∃o,Done (wO T M dk W V R c) (sD P (va a m)) q (puO t n) (stO P o)/\∀p,o=Z p->c3 T p.1:=by
 let w:=wO T M dk W V R c;let S:=sD P (va a m);let j:aQ:=[.z (puO t n),.z w,.z S,.z q,.z (.str z)];have F:xg [w,.str z]=Z ((xk ((mP T M).map λq=>kS q.1) ((mP T M).map λq=>D.int q.2) (kS z)).getD .E):=uP (ρ:=[.z w,.z (.str z)]) O (uR (uW (x:=mD T M) (y:=.str z) O O O));have H:vc 4 (uM wy fO) [.z (puO t n),.z w,.z S,.z q,.un]=Z (.nx j):=(uY (uL (uJ O (uJ O (uJ O (uJ O O)))) B)).t O;have C:∀(d:L4.D),xg [w,.str z]=Z d->∀f:aQ,cV 0 f=Z (w,f)->cV 1 f=Z (.str z,f)->vh wW "most_of" aa bK f=Z (d,f):=λd hd f I B=>vz (m:="most_of") (ns:=ts) (xs:=wA T M dk W V R c) (ys:=[.str z]) I O O (uJ B O) hd;have fin:∀b,EG [w,.str z,.int n]=Z (.I b)->∃o,Done w S q (puO t n) (stO P o)/\∀p,o=Z p->c3 T p.1:=λb N=>by
  have G:=xV (vZ (uL (a:=ax ag (ax ay nI)) (ρ:=j) (uJ O (uJ O (uJ O O))) N));cases b with
  |false=>exact⟨J,⟨12,_,_,EI,O,O,O,uP (ρ:=j) O ((uK H).t (uU ((u4 G).t O)))⟩,λp z=>by cases z⟩
  |true=>exact⟨Z (a,W? m z n),⟨12,_,_,EI,O,O,O,uP (ρ:=j) O ((uK H).t ((vg G).t (uR (uL (ds:=[S,kD ("mark", z),.int n]) (uJ O (uJ O (uJ O O))) ((Ql P s.len (va a m) ("mark", z) (.int n)).t (by rw[adQ _ _ _ _ _ (Yh s.p)];rfl))))))⟩,λp z=>by cases z;exact s.i⟩
 let l:aQ:=[.z w,.z (.str z)];let r:aQ:=[.z w,.z (.str z),.z (.int n)];rcases Vl (λq:Str×Int=>kS q.1) bH (kS z) (mP T M)with h|⟨k,h⟩
 .have A:=F.t (bG Z h);have E:Ab [w,.str z]=Z (.bt []):=by refine uP (ρ:=l) O (uR ((JP (ρ1:=l) (vZ (uW (C _ A l O O) O O))).t O))
  exact fin δ (uP (ρ:=r) O (uR (zO (ρ1:=r) (uW (uL (uJ O (uJ O O)) E) O O))))
 .have A:=F.t (bG Z h);have E:Ab [w,.str z]=Z (.bt [kD ("mark", z)]):=by refine uP (ρ:=l) O (uR ?_);have e:cT (c2 y8 (vh wW "most_of" aa bK) aA) l=Z (δ,l):=vZ (uW (C _ A l O O) O O);show yr _ _ _ l=_;unfold yr;rw[e];rfl
  exact fin (decide (n<=k)) (uP (ρ:=r) O (uR ((vm (ρ1:=r) (uW (uL (uJ O (uJ O O)) E) O (Vk _ _))).t (uW (x:=.int n) (y:=.int k) O (C _ A r O O) O))))
def adV(g:e8 T M dk W)(h:z∈gk T):z∈C' T/\¬z="me" := by obtain⟨t,d,rfl⟩:=au.1 h;rw[aY]at d;have b:=d.2;refine⟨(Mo g.z? _ d.1).2 (by cases e:t.k<;>rw[e]at b<;>first|rfl|cases b),λz=>?_⟩;obtain⟨u,f,e,k⟩:=NS g;rw[Mn g.z? d.1 f (z.t e.symm),k]at b;cases b
def Vn(s:u? T M dk W P a)(C:((V++v9).flatMap Vb.ws).Nodup)(B:v∈V++v9)(l:Cm T W v x y){d:L4.D}(h:Ds T M v.f d):∃o,Done (wO T M dk W V R c) (sD P (va a m)) (q3 v.n x y) d (stO P o)/\∀p,o=Z p->c3 T p.1:=by
 cases h with
 |@put q n h=>
  rcases h with h|⟨h,_⟩
  .exact Vm s (JX _ _ _ (UH s.g h)) n
  .obtain⟨z,_,e⟩:=Xz (M:=M) (dk:=dk) (R:=R) (c:=c) C B l (sD P (va a m)) h;exact Vm s e n
 |@U? t b S U Y=>
  obtain⟨z,hz,i⟩:=RQ (R:=R) (c:=c) (m:=m) s C B l (λ_ h=>NV h) U;obtain⟨u,A,rfl⟩:=au.1 hz;rcases S with ⟨w,j,rfl,X⟩|h
  .have F:=JX (wO T M dk W V R c) (sD P (va a m)) (q3 v.n x y) (Vi s.g (au.2 ⟨w,j,O⟩));refine Qq s ((Mo s.g.z? _ j).2 (by rw[aX X];rfl)) A (λz=>?_) F i;obtain⟨r,E,e,kr⟩:=Y z;have G:=JX (wO T M dk W V R c) (sD P (va a m)) (q3 v.n x y) (Vi s.g (au.2 ⟨r,E,e⟩));rw[G]at i;have H:b=u.n:=by injection i with i;injection i
   rw[<-Mn s.g.z? E A (e.t H)];exact kr
  .obtain⟨w,j,I⟩:=Xz (M:=M) (dk:=dk) (R:=R) (c:=c) C B l (sD P (va a m)) h;obtain⟨N,Q⟩:=adV s.g j;exact Qq s N A (λz=>aq z Q) I i
end
section
variable{T:List Th}{M:List Mk}{dk:aF}{W:List Wy}{V:List Vb}{R:List L4.D}{c:L4.D}{P:List Ky}{a:Str->Str}{m:Str->Int}{v:Vb}{x y:Option Str}
def XB(h:XA 3 w S q t b)(r:Sl):vh (vv 3) "holds" ay fP [.z w,.z S,.z q,r,.z t]=Z (.I b,[.z w,.z S,.z q,r,.z t]):=by obtain⟨k,e,f,d,rfl,i,j,l⟩:=h;exact vz (g:=vv 3) (m:="holds") (c:=k) (ns:=e) (hh:=d) (xs:=f) (ys:=[w,S,q]) O i j O l
def fB:FS:=(fh (wg (cT (vh (vv 3) "holds" ay fP))) (uT bI) uZ)
theorem Ll(r:Sl):∀(d:List L4.D) (s:Sl),(∀t∈d,∃b,XA 3 w S q t b)->∃f,fl (gN 4) fB d [.z w,.z S,.z q,r,s]=Z (.nx [.z w,.z S,.z q,r,f])\/fl (gN 4) fB d [.z w,.z S,.z q,r,s]=Z (.rt (.I δ) [.z w,.z S,.z q,r,f])
 |[],s,_=>⟨s,.inl O⟩
 |t::d,s,h=>by
  unfold fl;rw[show gN 4 t [.z w,.z S,.z q,r,s]=Z [.z w,.z S,.z q,r,.z t] from O];obtain⟨b,l⟩:=h t bb;have e:=xV (vZ (XB l r));cases b with
  |true=>obtain⟨f,j⟩:=Ll (w:=w) (S:=S) (q:=q) r d (.z t) λu o=>h u (ba _ o);have i:fB [.z w,.z S,.z q,r,.z t]=Z (.nx [.z w,.z S,.z q,r,.z t]):=(vI e).t O;simp only[i];exact⟨f,j⟩
  |false=>have i:fB [.z w,.z S,.z q,r,.z t]=Z (.rt (.I δ) [.z w,.z S,.z q,r,.z t]):=(u4 e).t O;simp only[i];exact⟨.z t,.inr O⟩
def Vo(n:Str)(d ds:List L4.D)(l:Str)(i:Bool)(h:∀t∈d,∃b,XA 3 w S q t b):∃b,GB [w,S,q,q? n d ds l i]=Z (.I b):=by
 let r:Sl:=.z (q? n d ds l i);obtain⟨j,e|e⟩:=Ll r d .un h
 .exact⟨γ,uP (ρ:=[.z w,.z S,.z q,r,j]) O ((uK ((wm (ds:=d) (ρ1:=[.z w,.z S,.z q,r,.un]) O).t e)).t O)⟩
 .exact⟨δ,uP (ρ:=[.z w,.z S,.z q,r,j]) O (uU ((wm (ds:=d) (ρ1:=[.z w,.z S,.z q,r,.un]) O).t e))⟩
def z6(k b:Str)(S:L4.D):L4.D:=.du [.du [.str k,.str b],S]
def Gd(T:List Th)(P:List Ky)(o:L4.D):Prop:=∃k e b d,o=z6 k e (sD P (va b d))/\(k="refused" \/ k="told")/\c3 T b
def dnB:FS:=(uO (vc 4 (vh zz "done" bw (ax aa nS)))
 (fh (cT (c2 y8 ay aA)) (uT (vC (ax (vC rG) bK))) uZ))
theorem JY(H:((V++v9).flatMap Vb.ws).Nodup)(G:v∈V++v9)(E:Cm T W v x y)(S:L4.D)(r:Sl):∀(ds:List L4.D) (a:Str->Str) (m:Str->Int) (j:Sl),u? T M dk W P a->(∀d∈ds,Ds T M v.f d)->
  (∃ρ',fl (gN 5) dnB ds [.z (wO T M dk W V R c),.z S,.z (q3 v.n x y),r,.z (sD P (va a m)),j]=Z (.rt (z6 "refused" "That cannot be." S) ρ'))\/∃B Y t5,c3 T B/\fl (gN 5) dnB ds [.z (wO T M dk W V R c),.z S,.z (q3 v.n x y),r,.z (sD P (va a m)),j]=Z (.nx [.z (wO T M dk W V R c),.z S,.z (q3 v.n x y),r,.z (sD P (va B Y)),t5])
 |[],a,m,j,s,_=>.inr ⟨a,m,j,s.i,O⟩
 |d::ds,a,m,j,s,h=>by
  let w:=wO T M dk W V R c;let q:=q3 v.n x y;obtain⟨o,⟨k,A,C,F,rfl,I,N,Q⟩,U⟩:=Vn (R:=R) (c:=c) (m:=m) s H G E (h d bb);let l:L4.D:=.obj k A C;let b:L4.D->aQ:=λz=>[.z w,.z S,.z q,r,.z z,.z l];have e:=vz (g:=zz) (m:="done") (c:=k) (ns:=A) (hh:=F) (xs:=C) (ys:=[w,sD P (va a m),q]) (e:=cV 5) (a:=ax aa nS) (ρ:=b (sD P (va a m))) (ρ1:=b (sD P (va a m))) (ρ2:=b (sD P (va a m))) O I N O Q;unfold fl;rw[show gN 5 l [.z w,.z S,.z q,r,.z (sD P (va a m)),j]=Z (b (sD P (va a m))) from O];cases o with
  |none=>have t:dnB (b (sD P (va a m)))=Z (.rt (z6 "refused" "That cannot be." S) (b .E)):=(uK (ρ':=b .E) ((uY e).t O)).t ((u4 O).t O);simp only[t];exact .inl ⟨_,O⟩
  |some p=>have t:dnB (b (sD P (va a m)))=Z (.nx (b (sD P (va p.1 p.2)))):=(uK (ρ':=b (sD P (va p.1 p.2))) ((uY e).t O)).t ((vI O).t O);simp only[t];exact JY H G E S r ds p.1 p.2 (.z l) ⟨s.g,s.p,U p O⟩ λu X=>h u (ba _ X)
def XC(s:u? T M dk W P a)(F:((V++v9).flatMap Vb.ws).Nodup)(E:v∈V++v9)(B:Cm T W v x y)(n:Str)(u ds:List L4.D)(j:Str)(t:Bool)(hd:∀d∈ds,Ds T M v.f d):∃o,Gd T P o/\Aj [wO T M dk W V R c,sD P (va a m),q3 v.n x y,q? n u ds j t]=Z o:=by
 let w:=wO T M dk W V R c;let S:=sD P (va a m);let q:=q3 v.n x y;let r:=q? n u ds j t;let b:Sl->Sl->aQ:=λx y=>[.z w,.z S,.z q,.z r,x,y];cases t with
 |true=>exact⟨_,⟨"refused", j,a,m,O,.inl O,s.i⟩,uP (ρ:=b .un .un) O (uU ((u4 O).t O))⟩
 |false=>
  rcases JY (R:=R) (c:=c) F E B S (.z (q? n u ds j δ)) ds a m .un s hd with ⟨h,e⟩|⟨l,p,A,C,e⟩
  .exact⟨_,⟨"refused", "That cannot be.", a,m,O,.inl O,s.i⟩,uP (ρ:=h) O ((vg O).t ((uK (ρ':=b (.z S) .un) O).t (uU ((wm (ds:=ds) (ρ1:=b (.z S) .un) O).t e))))⟩
  .exact⟨_,⟨"told", j,l,p,O,.inr O,C⟩,uP (ρ:=b (.z (sD P (va l p))) A) O ((vg O).t ((uK (ρ':=b (.z S) .un) O).t ((uK (ρ':=b (.z (sD P (va l p))) A) ((wm (ds:=ds) (ρ1:=b (.z S) .un) O).t e)).t O)))⟩
def D4{c b:FT}{d ρ1:aQ}(h:c d=Z (γ,ρ1)):wN c b d=b ρ1:=by unfold wN;rw[h]
def Lm{c e:FT}{d b:aQ}(h:c d=Z (δ,b)):wN c e d=Z (δ,b):=by unfold wN;rw[h]
def Yk(h:e ρ=Z (.du b,ρ1)):iT e ρ=Z (b,ρ1):=by unfold iT;rw[h]
def nmP(b:List (Option Str)):aF:=b.filterMap id
def fU(b:List (Option Str))(p:Str->Bool):Option Str:=(nmP b).find? λx=>!p x
def uB:FS:=(fh (wN (cT (c2 wz ay aA)) (cT (c2 (n6 γ) ay aw))) (uT (vC sj)) uZ)
def Yl(o:Option L4.D)(b:aQ):Option tf:=Z (match o with|some d=>.rt d b|none=>.nx b)
def Qr(x:Str)(b:List (Option Str))(p:Str->Bool):fU (Z x::b) p=if p x then fU b p else Z x:=by unfold fU;show (x::nmP b).find? _=_;rw[eK];cases p x<;>rfl
theorem Mu{w q s5:Sl}{S:L4.D}{L:aF}{p:Str->Bool}:∀(d:List (Option Str)) (s:Sl),(∀x∈nmP d,decide (x∈L)=p x)->∃f,fl (gN 4) uB (d.map oS) [w,.z S,q,.z (.bt (L.map D.str)),s,s5]=Yl ((fU d p).map λx=>z6 "unseen" x S) [w,.z S,q,.z (.bt (L.map D.str)),f,s5]
 |[],s,_=>⟨s,O⟩
 |none::d,s,h=>by obtain⟨f,e⟩:=Mu (w:=w) (q:=q) (s5:=s5) (S:=S) (L:=L) (p:=p) d (.z .E) h;exact⟨f,e⟩
 |some x::d,s,h=>by
  let b:aQ:=[w,.z S,q,.z (.bt (L.map D.str)),.z (.str x),s5];have o:=h x bb;have i:wN (cT (c2 wz ay aA)) (cT (c2 (n6 γ) ay aw)) b=Z (!p x,b):=(D4 (ρ1:=b) O).t (vZ (uW (x:=.str x) (y:=.bt (L.map D.str)) O O ((xC γ x L).t (by rw[<-o];rfl))));rw[aJ];unfold fl;rw[show gN 4 (oS (Z x)) [w,.z S,q,.z (.bt (L.map D.str)),s,s5]=Z b from O];rw[Qr];cases l:p x with
  |true=>rw[l]at i;obtain⟨f,e⟩:=Mu (w:=w) (q:=q) (s5:=s5) (S:=S) (L:=L) (p:=p) d (.z (.str x)) λy r=>h y (ba _ r);refine⟨f,?_⟩;have j:uB b=Z (.nx b):=(vI i).t O;simp only[j];exact e
  |false=>rw[l]at i;refine⟨.z (.str x),?_⟩;have j:uB b=Z (.rt (z6 "unseen" x S) b):=(u4 i).t O;simp only[j];rfl
def aB:FS:=(fh (cT (uM GB kE)) (uT (uM Aj kE)) uZ)
theorem NX:∀(rs:List L4.D) (s:Sl),(∀r∈rs,(∃b,GB [w,S,q,r]=Z (.I b))/\∃o,Gd T P o/\Aj [w,S,q,r]=Z o)->(∃o ρ',Gd T P o/\fl (gN 5) aB rs [.z w,.z S,.z q,s3,s4,s]=Z (.rt o ρ'))\/∃p,fl (gN 5) aB rs [.z w,.z S,.z q,s3,s4,s]=Z (.nx [.z w,.z S,.z q,s3,s4,p])
 |[],s,_=>.inr ⟨s,O⟩
 |r::rs,s,h=>by
  obtain⟨⟨b,f⟩,o,j,i⟩:=h r bb;unfold fl;rw[show gN 5 r [.z w,.z S,.z q,s3,s4,s]=Z [.z w,.z S,.z q,s3,s4,.z r] from O];have e:=vZ (uL (a:=ax aa kg) (ρ:=[.z w,.z S,.z q,s3,s4,.z r]) (uJ O (uJ O (uJ O (uJ O O)))) f);cases b with
  |true=>have d:aB [.z w,.z S,.z q,s3,s4,.z r]=Z (.rt o [.z w,.z S,.z q,s3,s4,.z r]):=(u4 e).t (uR (uL (uJ O (uJ O (uJ O (uJ O O)))) i));simp only[d];exact .inl ⟨o,_,j,O⟩
  |false=>have d:aB [.z w,.z S,.z q,s3,s4,.z r]=Z (.nx [.z w,.z S,.z q,s3,s4,.z r]):=(vI e).t O;simp only[d];exact NX rs (.z r) λu l=>h u (ba _ l)
theorem Io(p:Str->Bool):∀b:List (Option Str),(b.filter λo=>match o with|none=>δ|some x=>p x).map oS=((nmP b).filter p).map D.str
 |[]=>rfl
 |none::b=>Io p b
 |some x::b=>by
  show _=((x::nmP b).filter p).map D.str;rw[gL,gL];show dH oS (if p x=γ then _ else _)=dH _ (if p x=γ then _ else _);by_cases d:p x=γ
  .rw[ak d,ak d,aJ,aJ,Io p b];rfl
  .rw[ao d,ao d];exact Io p b
def Vp(s:u? T M dk W P a){d:List (Option Str)}{rs:List L4.D}(hO:d.length<=2)(hq:∃F G,q=.du [.str n,F,G])(X:yI [wO T M dk W V R c,q]=Z .E)(H:wx [wO T M dk W V R c,q]=Z (.du (d.map oS)))(Y:∀x∈nmP d,wQ [wO T M dk W V R c,sD P (va a m),.str x]=Z (.I (p x)))
  (I:xp [wO T M dk W V R c,.str n]=Z (.bt rs)) (h5:∀r∈rs,(∃b,GB [wO T M dk W V R c,sD P (va a m),q,r]=Z (.I b))/\∃o,Gd T P o/\Aj [wO T M dk W V R c,sD P (va a m),q,r]=Z o):∃o,Gd T P o/\Cr [wO T M dk W V R c,sD P (va a m),q]=Z (match fU d p with|some x=>z6 "unseen" x (sD P (va a m))|none=>o):=by
 let w:=wO T M dk W V R c;let S:=sD P (va a m);let L:=(nmP d).filter p;let l:L4.D:=.bt (L.map D.str);let f:aQ:=[.z w,.z S,.z q,.un];let B:aQ:=[.z w,.z S,.z q,.z l];have U:vc 3 (cL (uX 1 [0,1] (iT (uM wx cW)) (gN 0) (cT (uM wQ kz)) aa)) f=Z (.nx B):=by
  refine(uY (vP ((zl oS oS (λo=>match o with|none=>δ|some x=>p x) d (ρ1:=f) (Yk (uL (uJ O (uJ O O)) H)) (by omega) λx A=>⟨[.z (oS x),.z w,.z S],[.z (oS x),.z w,.z S],O,vZ (uL (uJ O (uJ O (uJ O O))) ?_),λ_=>⟨_,O,O⟩,λ_=>O⟩).t (by rw[Io])))).t O;cases x with
  |none=>exact Xx S
  |some x=>exact Y x (iC.2 ⟨_,A,O⟩)
 have hans:∃o,Gd T P o/\EJ [w,S,q,l]=Z (match fU d p with|some x=>z6 "unseen" x S|none=>o):=by
  let Q:aQ:=[.z w,.z S,.z q,.z l,.un,.un];obtain⟨s',e⟩:=Mu (w:=.z w) (q:=.z q) (s5:=.un) (S:=S) (L:=L) (p:=p) d .un λx A=>by rw[dg,bQ,aY];exact⟨λz=>z.2,λz=>⟨A,z⟩⟩
  have h:yx (iT (uM wx cW)) (gN 4) uB Q=_:=(wm (ρ1:=Q) (Yk (uL (uJ O (uJ O O)) H))).t e;have j:Gd T P (z6 "refused" "Nothing comes of it." S):=⟨_,_,a,m,O,.inl O,s.i⟩;cases N:fU d p with
  |some x=>rw[N]at h;exact⟨_,j,uP O (uU h)⟩
  |none=>
   rw[N]at h;obtain⟨F,G,rfl⟩:=hq;rcases NX (T:=T) (P:=P) (s3:=.z l) (s4:=s') rs .un h5 with ⟨o,C,u,t⟩|⟨s2,t⟩
   .exact⟨o,u,uP O ((uK h).t (uU ((wm (HL (vz (m:="rules_to_try") (ns:=ts) (xs:=wA T M dk W V R c) (ys:=[.str n]) O O O O I))).t t)))⟩
   .exact⟨_,j,uP O ((uK h).t ((uK ((wm (HL (vz (m:="rules_to_try") (ns:=ts) (xs:=wA T M dk W V R c) (ys:=[.str n]) O O O O I))).t t)).t O))⟩
 obtain⟨o,u,hans⟩:=hans;exact⟨o,u,uP (ρ:=B) O ((uK (ρ':=f) (wj (uL (uJ O (uJ O O)) X))).t ((uK U).t (uR (uL (uJ O (uJ O (uJ O (uJ O O)))) hans))))⟩
end
section
variable{T:List Th}{M:List Mk}{dk:aF}{W:List Wy}{V:List Vb}{R:List L4.D}{c:L4.D}{P:List Ky}{a:Str->Str}{m:Str->Int}{v:Vb}{x y:Option Str}
def adW(g:e8 T M dk W):("me" : Str)∈p? T:=by obtain⟨t,b,e,k⟩:=NS g;exact au.2 ⟨t,aY.2 ⟨b,by rw[k];rfl⟩,e⟩
def trR(v k:Str)(n:Int)(b d e:Str):List L4.D:=[q? v [noO (kiO "it" k)] [] b γ,q? v [mkO "it" n] [] d γ,q? v [] [puO "it" n] e δ]
def ab2:A21=[q? "take" [kiO "it" "fixed"] [] "That stays." γ,q? "take" [atO "it" "me"] [] "You have that." γ,q? "take" [] [O' "it" "me"] "Taken." δ,q? "drop" [hsO "it"] [O' "it" "here"] "Dropped." δ,q? "drop" [] [] "You lack that." γ,q? "put" [noO (hsO "it")] [] "You lack that." γ,q? "put" [noO (kiO "other" "box")] [] "It holds nothing." γ,q? "put" [mkO "other" 0] [] "It is shut." γ,q? "put" [] [O' "it" "other"] "Done." δ]++(trR "open" "box" 1 "It has no lid." "It is open." "Opened." ++ trR "shut" "box" 0 "It has no lid." "It is shut." "Shut." ++ (trR "light" "lamp" 1 "It burns not." "It is lit." "Lit." ++ trR "douse" "lamp" 0 "It burns not." "It is out." "Doused.")):=by kernel_rfl
def AO(i:v∈v9)(h:∀t∈d,Ts T M v.f 2 t)(hd:∀e∈b,Ds T M v.f e):RuS T M V (q? v.n d b l j):=⟨v,bx _ i,d,b,l,j,O,h,hd⟩
def on1{b:Type}{p:b->Prop}{d:b}(h:p d):∀e∈[d],p e:=λe f=>by rw[bj.1 f];exact h
def T1{b:Type}{p:b->Prop}:∀e∈([]:List b),p e:=λe d=>by cases d
def Qs(b:(⟨n,[],"one", J⟩:Vb)∈v9):∀r∈trR n k z f h i,RuS T M V r:=λr d=>by
 have e:By "one" "it" := .inl ⟨O,by decide⟩;have mt:Mt T M "one" ("it", 1):=.inr ⟨e,by decide⟩;simp only[trR,aL,cA,or_false]at d;rcases d with rfl|rfl|rfl
 .exact AO b (on1 (.no (.kind (.inr (.inr e))))) T1
 .exact AO b (on1 (.mark (q:=("it", 1)) mt)) T1
 .exact AO b T1 (on1 (.put (q:=("it", 1)) mt))
def ab3(g:e8 T M dk W):∀r∈A21,RuS T M V r:=λr hr=>by
 have d:By "one" "it" := .inl ⟨O,by decide⟩;have j:By "two" "it" := .inl ⟨O,by decide⟩;have f:By "two" "other" := .inr ⟨O,O⟩;have l:=adW g;have nme:("it" : Str)="me" -> ∀b:Str,∃t∈T,t.n=b/\t.k=.room:=λz=>aq z (by decide);have h:(⟨"take", [],"one", J⟩:Vb)∈v9:=by simp[v9]
 have i:(⟨"drop", [],"one", J⟩:Vb)∈v9:=by simp[v9]
 have e:(⟨"put", [],"two", Z "in"⟩:Vb)∈v9:=by simp[v9]
 rw[ab2]at hr;rcases aT.1 hr with hr|hr
 .simp only[aL,cA,or_false]at hr;rcases hr with rfl|rfl|rfl|rfl|rfl|rfl|rfl|rfl|rfl
  .exact AO h (on1 (.kind (.inr (.inr d)))) T1
  .exact AO h (on1 (.ats (.inr (.inr d)) (.inl l))) T1
  .exact AO h T1 (on1 (.U? (.inr d) (.inl l) λz=>nme z _))
  .exact AO i (on1 (.has (.inr (.inr d)))) (on1 (.U? (.inr d) (.inr (.inl O)) λz=>nme z _))
  .exact AO i T1 T1
  .exact AO e (on1 (.no (.has (.inr (.inr j))))) T1
  .exact AO e (on1 (.no (.kind (.inr (.inr f))))) T1
  .exact AO e (on1 (.mark (q:=("other", 1)) (.inr ⟨f,by decide⟩))) T1
  .exact AO e T1 (on1 (.U? (.inr j) (.inr (.inr f)) λz=>nme z _))
 .rcases aT.1 hr with hr|hr
  .rcases aT.1 hr with hr|hr
   .exact Qs (by simp[v9]) r hr
   .exact Qs (by simp[v9]) r hr
  .rcases aT.1 hr with hr|hr
   .exact Qs (by simp[v9]) r hr
   .exact Qs (by simp[v9]) r hr
def Vq(h:r∈ll T):r∈p? T:=by obtain⟨u,b,e⟩:=au.1 h;rw[aY]at b;exact au.2 ⟨u,aY.2 ⟨b.1,by rw[bB b.2];rfl⟩,e⟩
def adX(g:e8 T M dk W)(b:Kj T M w):RuS T M V (goO w):=by
 have l:(⟨"go", [],"way", J⟩:Vb)∈v9:=by simp[v9]
 obtain⟨t,i,e,k⟩:=NS g;have o:("me" : Str)∈T.map Th.n:=au.2 ⟨t,i,e⟩;refine AO l (λd hd=>?_) (on1 (.U? (.inl ⟨t,i,e,by rw[k];exact λz=>by cases z⟩) (.inl (Vq b.hg)) λ_=>?_))
 .unfold wtL at hd;rcases aT.1 hd with hd|hd
  .rw[aL,bj]at hd;rcases hd with rfl|rfl
   .exact .ats (.inl o) (.inl (Vq b.hr))
   .exact .word O
  .cases f:w.m with
   |none=>rw[f]at hd;cases hd
   |some k=>rw[f]at hd;rw[bj.1 hd];have:=b.hm k f;rw[<-OP]at this;obtain⟨q,j,rfl⟩:=au.1 this;exact .no (.mark (.inl j))
 .obtain⟨u,h,e⟩:=au.1 b.hg;rw[aY]at h;exact⟨u,h.1,e,bB h.2⟩
def adY(g:e8 T M dk W):∀r∈SH W,RuS T M V r:=λr hr=>by
 have b:(⟨"go", [],"way", J⟩:Vb)∈v9:=by simp[v9]
 have e:(⟨"wait", [],"alone", J⟩:Vb)∈v9:=by simp[v9]
 unfold SH at hr;rcases aT.1 hr with hr|hr
 .rcases aT.1 hr with hr|hr
  .exact ab3 g r hr
  .rcases aT.1 hr with hr|hr
   .obtain⟨w,d,rfl⟩:=au.1 hr;exact adX g (g.wo w d)
   .rw[bj.1 hr];exact AO b T1 T1
 .rw[bj.1 hr];exact AO e T1 T1
def vb_f{L:List Vb}(d:(L.flatMap Vb.ws).Nodup)(i:u∈L)(j:v∈L)(e:u.n=v.n):u.f=v.f:=by have b:=Mj d i;have h:=Mj d j;rw[e,h]at b;injection b with b;injection b with _ _ b;injection b with _ b;injection b with _ b;injection b with b _;injection b with b;exact b.symm
def ab5(h:∀j,gl f dss j=(R++SH W).filter λd=>decide (kv d=j))(n:Str):xp [wO T M dk W V R (.Q f (dss.map .bt)),.str n]=Z (.bt ((R++SH W).filter λd=>decide (kv d=kS n))):=by let b:aQ:=[.z (wO T M dk W V R (.Q f (dss.map .bt))),.z (.str n)];refine Gh (ρ:=b) O (xu ?_);have e:KF (c1 (uS zc "rules_by_verb") aa) ag (cL (vp vB)) b=Z ((xk f (dss.map .bt) (kS n)).getD (.bt []),b):=rfl;rw[Qe,h]at e;show AX _ b=_;unfold AX;rw[e];rfl
def Try(T:List Th)(M:List Mk)(dk:aF)(W:List Wy)(V:List Vb)(R:List L4.D)(c:L4.D):Prop:=∀n:Str,xp [wO T M dk W V R c,.str n]=Z (.bt ((R++SH W).filter λd=>decide (kv d=kS n)))
def O1(g:e8 T M dk W){x:Str}(h:x∈gk T):yY [wO T M dk W V R c,.str x]=Z (.I γ):=by
 obtain⟨t,e,rfl⟩:=au.1 h;rw[aY]at e;let w:=wO T M dk W V R c;let b:aQ:=[.z w,.z (.str t.n),.z (en t)];have f:vc 2 (yr (cT (c1 (v5 (wL "str")) ag)) (vh vq "thing_of" aa bK) aA) [.z w,.z (.str t.n),.un]=Z (.nx b):=by refine(uY (d:=en t) (ρ':=[.z w,.z (.str t.n),.un]) ?_).t O;show vh vq "thing_of" aa bK [.z w,.z (.str t.n),.un]=_;exact vz (m:="thing_of") (ns:=ts) (xs:=wA T M dk W V R c) (ys:=[.str t.n]) O O O O (AN g.z? e.1)
 exact uP (ρ:=b) O ((uK f).t (uR ((vm (ρ1:=b) O).t (vz (m:="is_plainly") (ns:=["name", "words", "kind", "start"]) (xs:=[.str t.n,.du (t.w.map D.str),.str t.k.s,oS t.s]) (ys:=[]) O O O O ((FX t).t (by rw[e.2]))))))
def XD(g:e8 T M dk W)(j:Cm T W v x y):DH [wO T M dk W V R c,.str v.f,oS x,oS y]=Z (.I γ):=by
 rcases j with ⟨e,n,h,rfl,rfl⟩|⟨e,n,h,k,l,rfl,rfl⟩|⟨e,rfl,rfl⟩|⟨e,d,hd,rfl,rfl⟩
 .rw[e];let b:aQ:=[.z (wO T M dk W V R c),.z (.str "one"),.z (.str n),.z .E];exact uP (ρ:=b) O ((vg O).t ((vg O).t ((vg O).t (uR (by show uM yY cW b=_;exact uL (uJ O (uJ O O)) (O1 g h))))))
 .rw[e];let b:aQ:=[.z (wO T M dk W V R c),.z (.str "two"),.z (.str n),.z (.str k)];exact uP (ρ:=b) O (uU ((u4 O).t (uR ((vm (ρ1:=b) (uL (uJ O (uJ O O)) (O1 g h))).t (uL (uJ O (uJ O O)) (O1 g l))))))
 .rw[e];let b:aQ:=[.z (wO T M dk W V R c),.z (.str "alone"),.z .E,.z .E];exact uP (ρ:=b) O ((vg O).t ((vg O).t ((vg O).t (uR O))))
 .rw[e];let b:aQ:=[.z (wO T M dk W V R c),.z (.str "way"),.z (.str d),.z .E];refine uP (ρ:=b) O ((vg O).t ((vg O).t (uU ((u4 O).t (uR ((vm (ρ1:=b) O).t (uW (x:=.str d) (y:=.bt ((R? W).map D.str)) O (vz (m:="way_words") (ns:=ts) (xs:=wA T M dk W V R c) (ys:=[]) O O O O (NN g.w8 λw o=>(g.wo w o).hw)) ((xC δ _ _).t ?_))))))));show Z (D.I (decide (d∈R? W)))=_;rw[aV hd]
def ab6(g:e8 T M dk W)(p:((V++v9).flatMap Vb.ws).Nodup)(o:v∈V++v9)(l:Cm T W v x y):yI [wO T M dk W V R c,q3 v.n x y]=Z .E:=by
 let w:=wO T M dk W V R c;let q:=q3 v.n x y;have j:Cq [w,q]=Z (.I γ):=by let e:aQ:=[.z w,.z q,.un];let d:aQ:=[.z w,.z q,.z (j? v)];have i:vc 2 (vh wb "verb_of" aa ik) e=Z (.nx d):=(uY (vz (m:="verb_of") (ns:=ts) (xs:=wA T M dk W V R c) (ys:=[.str v.n]) O O O O (Qp p o))).t O;refine uP (ρ:=d) O ((vg O).t ((uK i).t (uR ((vm (ρ1:=d) O).t ((vm (ρ1:=d) (uW (x:=.str v.n) (y:=.str v.n) O O (by rw[xx];simp))).t (uL (ds:=[w,.str v.f,oS x,oS y]) (uJ O (uJ O (uJ O (uJ O O)))) (XD g l)))))))
 exact Bh (ρ:=[.z w,.z q]) O ((vI (xV (b:=γ) (vZ (uL (uJ O (uJ O O)) j)))).t O)
def Ym(h:Cm T W v x y):∀z∈nmP (thO v x y),z∈gk T:=λz b=>by
 unfold thO at b;rcases h with ⟨e,n,f,rfl,rfl⟩|⟨e,n,f,k,i,rfl,rfl⟩|⟨e,rfl,rfl⟩|⟨e,d,hd,rfl,rfl⟩
 .rw[e,ao (by decide),show nmP [Z n,J]=[n] from O,bj]at b;rw[b];exact f
 .rw[e,ao (by decide),show nmP [Z n,Z k]=[n,k] from O,aL,bj]at b;rcases b with rfl|rfl
  .exact f
  .exact i
 .rw[e,ao (by decide)]at b;cases b
 .rw[e,ak O]at b;cases b
def NY(s:u? T M dk W P a)(d:((V++v9).flatMap Vb.ws).Nodup)(C:Try T M dk W V R c)(hR:∀r∈R,RuS T M V r)(b:v∈V++v9)(f:Cm T W v x y)(w:∀z∈gk T,wQ [wO T M dk W V R c,sD P (va a m),.str z]=Z (.I (p z))):
  ∃o,Gd T P o/\Cr [wO T M dk W V R c,sD P (va a m),q3 v.n x y]=Z (match fU (thO v x y) p with|some z=>z6 "unseen" z (sD P (va a m))|none=>o):=by
 refine Vp s (by unfold thO;split<;>exact aO 2) ⟨_,_,O⟩ (ab6 s.g d b f) (Lk d b x y) (λz F=>w z (Ym f z F)) (C v.n) λr A=>?_;obtain⟨i,j⟩:=aY.1 A;have B:RuS T M V r:=by
  rcases aT.1 i with h|h
  .exact hR r h
  .exact adY s.g r h
 obtain⟨u,E,I,G,N,H,rfl,l,q⟩:=B;have e:u.n=v.n:=Ma (bB j);rw[vb_f d E b e]at l q;exact⟨Vo _ _ _ _ _ λt h=>RR s d b f (l t h) 3 (by decide),XC s d b f _ _ _ _ _ q⟩
def adZ(l:∀v∈V++v9,v.f∈o?)(p:q∈cmA (gk T) (R? W) ((V++v9).map nf)):∃v∈V++v9,∃x y,q=q3 v.n x y/\Cm T W v x y:=by
 obtain⟨n,o,p⟩:=dR.1 p;obtain⟨v,r,rfl⟩:=au.1 o;obtain⟨z,b,rfl⟩:=au.1 p;refine⟨v,r,?_⟩;have l:=l v r;unfold obF at b;show ∃x y,p3 v.n z=q3 v.n x y/\Cm T W v x y;by_cases e:v.f="alone"
 .rw[ak (show (nf v).2="alone" from e)]at b;rw[bj.1 b];exact⟨J,J,O,.inr (.inr (.inl ⟨e,O,O⟩))⟩
 .rw[ao (show ¬(nf v).2="alone" from e)]at b;by_cases i:v.f="way"
  .rw[ak (show (nf v).2="way" from i)]at b;obtain⟨d,hd,rfl⟩:=au.1 b;exact⟨Z d,J,O,.inr (.inr (.inr ⟨i,d,hd,O,O⟩))⟩
  .rw[ao (show ¬(nf v).2="way" from i)]at b;by_cases j:v.f="one"
   .rw[ak (show (nf v).2="one" from j)]at b;obtain⟨d,hd,rfl⟩:=au.1 b;exact⟨Z d,J,O,.inl ⟨j,d,hd,O,O⟩⟩
   .rw[ao (show ¬(nf v).2="one" from j)]at b;obtain⟨n,o,b⟩:=dR.1 b;obtain⟨k,u,rfl⟩:=au.1 b;have t:v.f="two" := by
     simp only[o?,aL,cA,or_false]at l;rcases l with h|h|h|h
     .exact aq h j
     .exact h
     .exact aq h e
     .exact aq h i
    exact⟨Z n,Z k,O,.inr (.inl ⟨t,n,o,k,u,O,O⟩)⟩
end
def eq_self(a:J7 γ d d=J)(b:rh d=Z x)(c:Ph x x=γ)(e:lb x<=20):e? γ d d=Z (.I δ):=by unfold e?;rw[a];simp only;unfold Ol;rw[b];simp only;rw[c,MP,aV e];rfl
theorem Qt(a:Str->Str)(m:Str->Int):∀P:List Ky,∃l,zr (P.map λk=>.du [kD k,va a m k])=Z l/\wK l<=2
 |[]=>⟨[],O,by decide⟩
 |k::P=>by
  obtain⟨l,e,h⟩:=Qt a m P;obtain⟨z,c,d⟩:∃z,rh (va a m k)=Z z/\lb z=0:=by
   unfold va;split
   .exact⟨.str _,O,O⟩
   .exact⟨.int _,O,O⟩
  have b:rh (.du [kD k,va a m k])=Z (.du [.du [.str k.1,.str k.2],z]):=by
   unfold rh;have:zr [kD k,va a m k]=Z [.du [.str k.1,.str k.2],z]:=by unfold zr;rw[show rh (kD k)=Z (.du [.str k.1,.str k.2]) from O];unfold zr;rw[c];rfl
   rw[this]
  refine⟨_::l,by rw[aJ];unfold zr;rw[b,e],?_⟩;rw[wK,lb,wK,wK,wK,d];have:lb (.du [.str k.1,.str k.2])=1:=by rw[lb,wK,wK,wK];rfl
  rw[this];omega
def RU(k b:Str)(P:List Ky)(a:Str->Str)(m:Str->Int):e? γ (z6 k b (sD P (va a m))) (z6 k b (sD P (va a m)))=Z (.I δ):=by
 obtain⟨l,e,h⟩:=Qt a m P;have c:rh (sD P (va a m))=Z (.du l):=by unfold sD rh;rw[e]
 refine eq_self (x:=.du [.du [.str k,.str b],.du l]) O ?_ O ?_
 .unfold z6 rh;have:zr [.du [.str k,.str b],sD P (va a m)]=Z [.du [.str k,.str b],.du l]:=by unfold zr;rw[show rh (.du [.str k,.str b])=Z (.du [.str k,.str b]) from O];unfold zr;rw[c];rfl
  rw[this]
 .have:lb (.du [.str k,.str b])=1:=by rw[lb,wK,wK,wK];rfl
  rw[lb,wK,wK,wK,this,lb];omega
def V'(N:aF)(p:Str->Bool):L4.D:=.Q (N.map kS) (N.map λz=>D.I (p z))
def unD:Option Str->L4.D
 |some z=>.du [.str "unseen", .str z]
 |none=>.E
def duB:FS:=(fh (wN (cT (c2 wz aw aA)) (wg (cT (c2 BF ag aw)))) (uT (vC (ax ia dN))) uZ)
theorem Mx{N:aF}(i:N.Nodup):∀(b:List (Option Str)) (s:Sl),(∀z∈nmP b,z∈N)->∃c,fl (gN 3) duB (b.map oS) [s0,.z (V' N p),s2,s]=Yl ((fU b p).map λz=>unD (Z z)) [s0,.z (V' N p),s2,c]
 |[],s,_=>⟨s,O⟩
 |none::b,s,h=>by obtain⟨c,e⟩:=Mx (s0:=s0) (s2:=s2) (p:=p) i b (.z .E) h;exact⟨c,e⟩
 |some x::b,s,h=>by
  let a:aQ:=[s0,.z (V' N p),s2,.z (.str x)];have l:xk (N.map kS) (N.map λz=>D.I (p z)) (kS x)=Z (.I (p x)):=Di (jG.2 (i.imp λh e=>h (Ma e))) (by rw[jO];exact au.2 ⟨x,h x bb,O⟩);have d:wN (cT (c2 wz aw aA)) (wg (cT (c2 BF ag aw))) a=Z (!p x,a):=(D4 (ρ1:=a) O).t (xV (vZ (uW (x:=V' N p) (y:=.str x) O O l)));rw[aJ];unfold fl;rw[show gN 3 (oS (Z x)) [s0,.z (V' N p),s2,s]=Z a from O];rw[Qr];cases j:p x with
  |true=>rw[j]at d;obtain⟨c,e⟩:=Mx (s0:=s0) (s2:=s2) (p:=p) i b (.z (.str x)) λy m=>h y (ba _ m);refine⟨c,?_⟩;have f:duB a=Z (.nx a):=(vI d).t O;simp only[f];exact e
  |false=>rw[j]at d;refine⟨.z (.str x),?_⟩;have f:duB a=Z (.rt (unD (Z x)) a):=(u4 d).t O;simp only[f];rfl
section
variable{T:List Th}{M:List Mk}{dk:aF}{W:List Wy}{V:List Vb}{R:List L4.D}{c:L4.D}{P:List Ky}{a:Str->Str}{m:Str->Int}{v:Vb}{x y:Option Str}
def Yn(g:e8 T M dk W):(gk T).Nodup:=(jA.map Th.n).nodup g.z?
def ad0(h:v.f="way" \/ v.f="alone")(b:Cm T W v x y):fU (thO v x y) p=J:=by
 unfold thO;rcases h with h|h
 .rw[ak h];rfl
 .rcases b with ⟨e,_⟩|⟨e,_⟩|⟨_,rfl,rfl⟩|⟨e,_⟩
  .rw[e]at h;exact aq h (by decide)
  .rw[e]at h;exact aq h (by decide)
  .rw[ao (show ¬v.f="way" from by rw[h];decide)];rfl
  .rw[e]at h;exact aq h (by decide)
def ab7(g:e8 T M dk W)(A:((V++v9).flatMap Vb.ws).Nodup)(lV:V.length<=6)(i:v∈V++v9)(w:Cm T W v x y)(p:Str->Bool):AK [VD V,V' (gk T) p,q3 v.n x y]=Z (unD (fU (thO v x y) p)):=by
 let L:aF:="go" ::(V.filter λu=>decide (u.f∈(["way", "alone"]:aF))).map Vb.n;let q:=q3 v.n x y;let b:aQ:=[.z (VD V),.z (V' (gk T) p),.z q,.un];have hgo:(⟨"go", [],"way", J⟩:Vb)∈V++v9:=bx _ (by simp[v9]);have C:cL (uX 1 [] (iL aa) (gN 0) (cT (c2 (n6 δ) (c1 (uS xQ "form") aa) (cL (vp nP)))) (c1 (uS vd "name") aa)) b=Z (.bt (((V.filter λu=>decide (u.f∈(["way", "alone"]:aF))).map Vb.n).map D.str),b):=(vP (zl j? (λu=>.str u.n) (λu=>decide (u.f∈(["way", "alone"]:aF))) V (ρ1:=b) O (by omega) λu _=>⟨[.z (j? u)],[.z (j? u)],O,vZ (uW (x:=.str u.f) (y:=.bt ((["way", "alone"]:aF).map D.str)) O O (xC δ _ _)),λ_=>⟨_,O,O⟩,λ_=>O⟩)).t (by rw[aZ];rfl);have H:(V.filter λu=>decide (u.f∈(["way", "alone"]:aF))).length<=6:=bD (cu _ _) lV;have j:cT (c2 (n6 δ) (c2 f3 aj aP) (cL (xq (cL (vp (a1 ig))) (cL (uX 1 [] (iL aa) (gN 0) (cT (c2 (n6 δ) (c1 (uS xQ "form") aa) (cL (vp nP)))) (c1 (uS vd "name") aa)))))) b=Z (decide (v.n∈L),b):=vZ (uW (x:=.str v.n) (y:=.bt (L.map D.str)) O (vP (w6 (xs:=[.str "go"]) (ys:=((V.filter λu=>decide (u.f∈(["way", "alone"]:aF))).map Vb.n).map D.str) O C (by rw[ah,ah];show 1+_<=1000;omega))) (xC δ _ _));by_cases h:v.n∈L
 .have o:v.f="way" \/ v.f="alone" := by
   rcases aL.1 h with h|h
   .exact .inl (vb_f A i hgo h)
   .obtain⟨u,r,e⟩:=au.1 h;rw[aY]at r;have d:=bB r.2;rw[vb_f A (bF _ r.1) i e]at d;rw[aL,bj]at d;exact d
  rw[aV h]at j;rw[ad0 o w];exact uP (ρ:=b) O (uU ((u4 j).t O))
 .rw[aX h]at j;have E:¬v.f="way" := λz=>h (by
   rcases aT.1 i with i|i
   .exact ba _ (au.2 ⟨v,aY.2 ⟨i,aV (by rw[z];decide)⟩,O⟩)
   .have:=aS.1 (show (v9.all λv=>!decide (v.f="way")||decide (v.n="go"))=γ by kernel_rfl) v i;rw[aV z,qG,qF]at this;rw[bB this];exact bb)
  have B:thO v x y=[x,y]:=ao E;obtain⟨I,e⟩:=Mx (s0:=.z (VD V)) (s2:=.z q) (p:=p) (Yn g) [x,y] .un λz F=>Ym w z (by rw[B];exact F);have l:yx (iT (LV aj (Z 1) J)) (gN 3) duB b=_:=(wm (ρ1:=b) (ds:=[x,y].map oS) O).t e;rw[B];cases o:fU [x,y] p with
  |some z=>rw[o]at l;exact uP O ((vg j).t (uU l))
  |none=>rw[o]at l;exact uP O ((vg j).t ((uK l).t O))
def riB:FS:=(uO (EY (uM Cr su) (gT j4 2))
 (uO (vc 10 (uM AK (ax ag nR)))
 (uO (fh (wN (cT (c2 wz de aA)) (cT (c2 (e? γ) (vC nN) (vC nU)))) (uT bI) uZ)
 (fh (wN (cT (c2 y8 de aA)) (cT (c2 (e? δ) (c2 f3 dt aP) ia))) (uT bI) uZ))))
def ab8(i:f l=Z (d,b))(j:h d b=Z e):EY f h l=Z (.nx e):=by unfold EY;rw[i];simp only[j]
def rR(w V N S A:L4.D)(d e q f h b:Sl):aQ:=[.z w,.z V,.z N,.z S,.z A,d,e,q,f,h,b]
def ad1(s:u? T M dk W P a)(G:((V++v9).flatMap Vb.ws).Nodup)(lV:V.length<=6)(ht:Try T M dk W V R c)(hR:∀r∈R,RuS T M V r)(F:v∈V++v9)(C:Cm T W v x y)(hp:∀z∈gk T,wQ [wO T M dk W V R c,sD P (va a m),.str z]=Z (.I (p z)))(N A:L4.D){K:Sl}(hK:K=.dk ((gk T).map kS) ((gk T).map λz=>D.I (p z))\/K=.z (V' (gk T) p))(t h i b:Sl):
  ∃t8 t9 u,riB (rR (wO T M dk W V R c) (VD V) N (sD P (va a m)) A K t (.z (q3 v.n x y)) h i b)=Z (.nx (rR (wO T M dk W V R c) (VD V) N (sD P (va a m)) A (.z (V' (gk T) p)) t (.z (q3 v.n x y)) t8 t9 u)):=by
 let w:=wO T M dk W V R c;let S:=sD P (va a m);let q:=q3 v.n x y;let f:Sl->Sl->Sl->aQ:=λh i b=>rR w (VD V) N S A K t (.z q) h i b;let e:Sl->Sl->Sl->aQ:=λh i b=>rR w (VD V) N S A (.z (V' (gk T) p)) t (.z q) h i b;have I:∀ans lat b:Sl,ax ag nR (f ans lat b)=Z ([VD V,V' (gk T) p,q],e ans lat b):=λans lat b=>by rcases hK with rfl|rfl<;>rfl
 obtain⟨o,⟨k,tx,H,m',rfl,hk,hi⟩,j⟩:=NY s G ht hR F C hp;have l:=ab7 s.g G lV F C p;have fin:∀(ans lat d:L4.D),Cr [w,S,q]=Z (.du [ans,lat])->AK [VD V,V' (gk T) p,q]=Z d->wN (cT (c2 wz de aA)) (cT (c2 (e? γ) (vC nN) (vC nU))) (e (.z ans) (.z lat) (.z d))=Z (δ,e (.z ans) (.z lat) (.z d))->wN (cT (c2 y8 de aA)) (cT (c2 (e? δ) (c2 f3 dt aP) ia)) (e (.z ans) (.z lat) (.z d))=Z (δ,e (.z ans) (.z lat) (.z d))->riB (f h i b)=Z (.nx (e (.z ans) (.z lat) (.z d))):=λans lat d Q U X Y=>(uK (ρ':=f (.z ans) (.z lat) b) (ab8 (uL (uJ O (uJ O (uJ O O))) Q) O)).t ((uK (ρ':=e (.z ans) (.z lat) (.z d)) ((uY (uL (ds:=[VD V,V' (gk T) p,q]) (I _ _ _) U)).t O)).t ((vg X).t ((vI Y).t O)))
 cases E:fU (thO v x y) p with
 |some z=>rw[E]at j l;exact⟨_,_,_,fin (.du [.str "unseen", .str z]) S (.du [.str "unseen", .str z]) j l ((D4 O).t (vZ (uW (x:=z6 "unseen" z S) (y:=z6 "unseen" z S) O O (RU _ _ _ _ _)))) (Lm O)⟩
 |none=>
  rw[E]at j l;refine⟨_,_,_,fin (.du [.str k,.str tx]) (sD P (va H m')) .E j l (Lm O) ((D4 O).t (vZ (uW (x:=.str k) (y:=.str "unseen") O O ?_)))⟩;rcases hk with rfl|rfl
  .rw[xx];rfl
  .rw[xx];rfl
theorem Qu(s:u? T M dk W P a)(B:((V++v9).flatMap Vb.ws).Nodup)(lV:V.length<=6)(w:Try T M dk W V R c)(hR:∀r∈R,RuS T M V r)(t:∀z∈gk T,wQ [wO T M dk W V R c,sD P (va a m),.str z]=Z (.I (p z)))(N A:L4.D)(i:Sl):∀(j:List L4.D) (K l d f b:Sl),(K=.dk ((gk T).map kS) ((gk T).map λz=>D.I (p z))\/K=.z (V' (gk T) p))->(∀q∈j,∃v∈V++v9,∃x y,q=q3 v.n x y/\Cm T W v x y)->
  ∃ρ',fl (gN 7) riB j (rR (wO T M dk W V R c) (VD V) N (sD P (va a m)) A K i l d f b)=Z (.nx ρ')
 |[],K,l,d,f,b,_,_=>⟨_,O⟩
 |q::j,K,l,d,f,b,hK,h=>by obtain⟨v,G,x,y,rfl,E⟩:=h q bb;obtain⟨H,I,o,e⟩:=ad1 s B lV w hR G E t N A hK i d f b;obtain⟨ρ',C⟩:=Qu s B lV w hR t N A i j (.z (V' (gk T) p)) (.z (q3 v.n x y)) H I o (.inr O) λu F=>h u (ba _ F);refine⟨ρ',?_⟩;unfold fl;rw[show gN 7 (q3 v.n x y) (rR (wO T M dk W V R c) (VD V) N (sD P (va a m)) A K i l d f b)=Z (rR (wO T M dk W V R c) (VD V) N (sD P (va a m)) A K i (.z (q3 v.n x y)) d f b) from O];simp only[e];exact C
def Fh(s:u? T M dk W P a):∃p:Str->Bool,∀x∈gk T,wQ [wO T M dk W V R c,sD P (va a m),.str x]=Z (.I (p x)):=by
 have h:∀x:Str,∃b:Bool,x∈gk T->wQ [wO T M dk W V R c,sD P (va a m),.str x]=Z (.I b):=λx=>by
  by_cases d:x∈gk T
  .obtain⟨t,f,rfl⟩:=au.1 d;obtain⟨b,e⟩:=Qo (V:=V) (R:=R) (c:=c) (m:=m) s (aY.1 f).1;exact⟨b,λ_=>e⟩
  .exact⟨δ,λz=>aq z d⟩
 exact⟨λx=>(h x).choose,λx=>(h x).choose_spec⟩
def Vr(s:u? T M dk W P a)(nd:((V++v9).flatMap Vb.ws).Nodup)(lV:V.length<=6)(o:Try T M dk W V R c)(hR:∀r∈R,RuS T M V r)(b:List L4.D)(l:∀q∈b,∃v∈V++v9,∃x y,q=q3 v.n x y/\Cm T W v x y):zk [wO T M dk W V R c,VD V,.bt ((gk T).map D.str),sD P (va a m),.bt b]=Z (.I γ):=by
 obtain⟨p,d⟩:=Fh (V:=V) (R:=R) (c:=c) (m:=m) s;let w:=wO T M dk W V R c;let S:=sD P (va a m);let N:L4.D:=.bt ((gk T).map D.str);let A:L4.D:=.bt b;have F:(gk T).length<=7:=by unfold gk;rw[ah];exact s.g.p7
 have ks:((gk T).attach.map λz=>kS z.1)=(gk T).map kS:=by rw[show (λz:{z // z∈gk T}=>kS z.1)=kS∘mS from O,<- aZ,kG]
 have ss:((gk T).attach.map λz=>D.str z.1)=(gk T).map D.str:=by rw[show (λz:{z // z∈gk T}=>D.str z.1)=D.str∘mS from O,<- aZ,kG]
 have bs:((gk T).attach.map λz=>D.I (p z.1))=(gk T).map λz=>D.I (p z):=by rw[show (λz:{z // z∈gk T}=>D.I (p z.1))=(λz=>D.I (p z))∘mS from O,<- aZ,kG]
 obtain⟨u,e⟩:=Al (α:={z // z∈gk T}) (g:=gN 6) (i:=5) (fk:=cV 6) (fv:=uM wQ rY) (λz=>.str z.1) (λz=>z.1) (λz=>.I (p z.1)) (λks ds s=>rR w (VD V) N S A (.dk ks ds) s .un .un .un .un)
  (λz ks ds s=>⟨rR w (VD V) N S A (.dk ks ds) (.z (.str z.1)) .un .un .un .un,O,uL (uJ O (uJ O (uJ O O))) (d z.1 z.2),O,O,λt f=>⟨_,O⟩⟩) (gk T).attach [] [] .un (by rw[bZ,ks];exact jG.2 ((Yn s.g).imp λh e=>h (Ma e))) (by rw[List.length_attach];simp;omega) O
 rw[ss,bZ,bZ,ks,bs]at e;obtain⟨ρ',j⟩:=Qu s nd lV o hR d N A u b _ .un .un .un .un (.inl O) l;exact uP O ((uK (ρ':=rR w (VD V) N S A (.dk [] []) .un .un .un .un .un) O).t ((uK ((wm (ds:=(gk T).map D.str) (ρ1:=rR w (VD V) N S A (.dk [] []) .un .un .un .un .un) O).t e)).t ((uK ((wm (ds:=b) O).t j)).t O)))
end
def My(ns:List Int)(k:Nat):∃c,xG [.R (ns.map D.int),.int k]=Z (.int c):=by
 let a:aQ:=[.z (.R (ns.map D.int)),.z (.int k)];have b:cT (c2 HQ ag (c1 wU aa)) a=Z (decide ((k:Int)<((ns.map D.int).length:Nat)),a):=rfl;rw[ah]at b;by_cases h:k<ns.length
 .rw[aV (by omega)]at b;refine⟨ns[k],uP (ρ:=a) O (uU ((u4 b).t (uR (uW (x:=.R (ns.map D.int)) (y:=.int k) O O ?_))))⟩;exact DN (by rw[bA,bh h];rfl)
 .rw[aX (by omega)]at b;exact⟨0,uP (ρ:=a) O ((uK ((vI b).t O)).t O)⟩
def XE{a:List L4.D}(o:0<a.length)(i:Int):∃q∈a,∀{e c:FE} {b:aQ},e b=Z (.bt a,b)->c b=Z (.int i,b)->c2 f3 e (c2 xU c (c1 wU e)) b=Z (q,b):=by
 let j:Int:=i % (a.length:Int);have m:0<=j:=iN _ (by omega);have p:j<a.length:=iE _ (by omega);obtain⟨n,h⟩:∃n:Nat,j=(n:Nat):=⟨j.toNat,(o4 m).symm⟩;have f:n<a.length:=by omega
 refine⟨a[n],fz f,λ{e c b} d l=>uW (x:=.bt a) (y:=.int j) d (uW (x:=.int i) (y:=.int a.length) l (vO d O) ?_) ?_⟩
 .show (if decide (0<(a.length:Int))=γ then Z (D.int (i % (a.length:Int)))else J)=_;rw[ak (aV (by omega))]
 .rw[h];exact DN (bh f)
def ab9(c:f ρ=Z (.int i,ρ1))(d:b ρ1=Z (.int j,a))(e:(-1000000<=i/\i<=1000000)/\-1000000<=j/\j<=1000000):iR2 f b ρ=Z (B2 i (j - i).toNat,a):=by unfold iR2;simp only[c,d];rw[ak e]
def sm_i(b:-1000<=a)(c:a<=1000):Ap a=γ:=by unfold Ap;rw[aW,bQ,bQ];omega
def lB:FS:=(uO (vc 14 (cL (uX 1 [10,12,13] (I' (cC (.int 12))) (gN 0) vN (c2 f3 ag (c2 xU (c2 wR aj (c2 xB (c2 xB (cC (.int 37)) aa) aw)) (c1 wU ag))))))
 (uO (fh (wg (cT (uM zk ng))) (uT bI) uZ)
 (vc 11 (c2 f3 (uM Cr rL) aM))))
section
variable{T:List Th}{M:List Mk}{dk:aF}{W:List Wy}{V:List Vb}{R:List L4.D}{c:L4.D}{P:List Ky}{a:Str->Str}{m:Str->Int}
def lS(ns:List Int)(s1 s2 s3 s4 s5 s7:Sl)(T:List Th)(V:List Vb)(w:L4.D)(cm:List L4.D)(st:L4.D)(t:Int)(k b:Sl):aQ:=[.z (.R (ns.map D.int)),s1,s2,s3,s4,s5,.z (VD V),s7,.z w,.z (.bt ((gk T).map D.str)),.z (.bt cm),.z st,.z (.int t),k,b]
def ad2(s:u? T M dk W P a)(U:((V++v9).flatMap Vb.ws).Nodup)(lV:V.length<=6)(E:∀v∈V++v9,v.f∈o?)(Q:Try T M dk W V R c)(hR:∀r∈R,RuS T M V r)(hc:l=cmA (gk T) (R? W) ((V++v9).map nf))(h0:0<l.length)(l0:l.length<=900)(t:Int)(k:Nat)(d:Sl):
  ∃B H I,u? T M dk W P B/\lB (lS ns s1 s2 s3 s4 s5 s7 T V (wO T M dk W V R c) l (sD P (va a m)) t (.z (.int k)) d)=Z (.nx (lS ns s1 s2 s3 s4 s5 s7 T V (wO T M dk W V R c) l (sD P (va B H)) t (.z (.int k)) I)):=by
 let w:=wO T M dk W V R c;let S:=sD P (va a m);let e:L4.D->Sl->aQ:=λst d=>lS ns s1 s2 s3 s4 s5 s7 T V w l st t (.z (.int k)) d;have pk:=XE h0;let h:Nat->L4.D:=λj=>(pk (t+37 * (j:Int) * (k:Int))).choose;have hh:∀j,h j∈l:=λj=>(pk (t+37 * (j:Int) * (k:Int))).choose_spec.1;have X:uX 1 [10,12,13] (I' (cC (.int 12))) (gN 0) vN (c2 f3 ag (c2 xU (c2 wR aj (c2 xB (c2 xB (cC (.int 37)) aa) aw)) (c1 wU ag))) (e S d)=Z ((aU 12).map h,e S d):=by refine xH (λj:Nat=>D.int (j:Nat)) h (aU 12) (ρ1:=e S d) (Qf O (by decide)) (by decide) λj N=>⟨[.z (.int (j:Nat)),.z (.bt l),.z (.int t),.z (.int k)],[.z (.int (j:Nat)),.z (.bt l),.z (.int t),.z (.int k)],O,?_,O⟩;have N:=bL.1 N;exact(pk (t+37 * (j:Int) * (k:Int))).choose_spec.2 O (uW (x:=.int t) (y:=.int (37 * (j:Int) * (k:Int))) O (uW (x:=.int (37 * (j:Int))) (y:=.int k) (uW (x:=.int 37) (y:=.int (j:Nat)) O O (yf (.inl (by decide)))) O (yf (.inl (sm_i (by omega) (by omega))))) O)
 let A:L4.D:=.bt ((aU 12).map h);have F:∀q∈l,∃v∈V++v9,∃x y,q=q3 v.n x y/\Cm T W v x y:=λq F=>adZ E (by rw[<-hc];exact F);have Y:wg (cT (uM zk ng)) (e S (.z A))=Z (δ,e S (.z A)):=xV (b:=γ) (vZ (uL (uJ O (uJ O (uJ O (uJ O (uJ O O))))) (Vr s U lV Q hR _ λq hqq=>by
  obtain⟨j,_,rfl⟩:=au.1 hqq;exact F _ (hh j))))
 obtain⟨z,ez⟩:=My ns k;obtain⟨q,hqm,eq⟩:=pk (z+11 * (k:Int));have e3:c2 f3 de (c2 xU (c2 wR (uM xG (ax aa (a1 (cV 13)))) (c2 xB (cC (.int 11)) (cV 13))) (c1 wU de)) (e S (.z A))=Z (q,e S (.z A)):=eq O (uW (x:=.int z) (y:=.int (11 * (k:Int))) (uL (uJ O (uJ O O)) ez) (uW (x:=.int 11) (y:=.int k) O O (yf (.inl (by decide)))) O);obtain⟨v,hv,x,y,rfl,hcm⟩:=F q hqm;obtain⟨p,hp⟩:=Fh (V:=V) (R:=R) (c:=c) (m:=m) s;obtain⟨o,⟨kk,tx,B,H,rfl,hk,hi⟩,C⟩:=NY s U Q hR hv hcm hp;have fin:∀(G ty:Str) (i:Str->Str) (u:Str->Int),Cr [w,S,q3 v.n x y]=Z (z6 G ty (sD P (va i u)))->lB (e S d)=Z (.nx (e (sD P (va i u)) (.z A))):=λG ty i u h1=>(uK (ρ':=e S (.z A)) ((uY (vP X)).t O)).t ((vg Y).t ((uY (uW (x:=z6 G ty (sD P (va i u))) (y:=.int 1) (uL (uJ O (uJ O (uJ e3 O))) h1) O O)).t O))
 cases E:fU (thO v x y) p with
 |some z=>rw[E]at C;exact⟨a,m,_,s,fin _ _ _ _ C⟩
 |none=>rw[E]at C;exact⟨B,H,_,⟨s.g,s.p,hi⟩,fin _ _ _ _ C⟩
theorem Qv(u:((V++v9).flatMap Vb.ws).Nodup)(lV:V.length<=6)(o:∀v∈V++v9,v.f∈o?)(p:Try T M dk W V R c)(hR:∀r∈R,RuS T M V r)(j:cm=cmA (gk T) (R? W) ((V++v9).map nf))(i:0<cm.length)(q:cm.length<=900)(t:Int):∀(l:List Nat) (a:Str->Str) (m:Str->Int) (d b:Sl),u? T M dk W P a->
  ∃ρ',fl (gN 13) lB (l.map λk:Nat=>D.int (k:Nat)) (lS ns s1 s2 s3 s4 s5 s7 T V (wO T M dk W V R c) cm (sD P (va a m)) t d b)=Z (.nx ρ')
 |[],a,m,d,b,_=>⟨_,O⟩
 |k::l,a,m,d,b,s=>by obtain⟨w,y,h,z,e⟩:=ad2 (m:=m) s u lV o p hR (ns:=ns) (s1:=s1) (s2:=s2) (s3:=s3) (s4:=s4) (s5:=s5) (s7:=s7) j i q t k b;obtain⟨ρ',x⟩:=Qv u lV o p hR (ns:=ns) (s1:=s1) (s2:=s2) (s3:=s3) (s4:=s4) (s5:=s5) (s7:=s7) j i q t l w y (.z (.int k)) h z;refine⟨ρ',?_⟩;rw[aJ];unfold fl;rw[show gN 13 (.int k) (lS ns s1 s2 s3 s4 s5 s7 T V (wO T M dk W V R c) cm (sD P (va a m)) t d b)=Z (lS ns s1 s2 s3 s4 s5 s7 T V (wO T M dk W V R c) cm (sD P (va a m)) t (.z (.int k)) b) from O];simp only[e];exact x
end
def aca(ns:List Int)(hl:ns.length<=63):X7 [.R (ns.map D.int)]=Z (.I γ):=by
 obtain⟨u,ex⟩:=My ns 0;obtain⟨T,M,o,W,t,n,R,es',g,I,C,lR,ok,xm⟩:=Xr (es:=[.int u]) (.inl ⟨u,O⟩);have z:∀v∈vL t n,v∈v6:=λv hv=>Mh hv;obtain⟨ks,dss,xw,hg⟩:=U0 g I C (λr q=>(ok r q).1) lR;let c:L4.D:=.Q ks (dss.map .bt);let V:=vL t n;have lV:V.length<=6:=JJ t n;have nd:((V++v9).flatMap Vb.ws).Nodup:=P7 I C;let w:=wO T M o W V R c;let h:List L4.D:=cmA (gk T) (R? W) ((V++v9).map nf);have xc:Cs [w]=Z h:=NP g z lV;have lN:(gk T).length<=7:=by unfold gk;rw[ah];exact g.p7
 have lc:h.length<=900:=by have h1:=U3 lN (OV W) ((V++v9).map nf);rw[ah,aE]at h1;have h2:v9.length=9:=rfl;show (cmA _ _ _).length<=900;omega
 have c0:0<h.length:=by
  refine jw (a:=q3 "wait" J J) (dR.2 ⟨("wait", "alone"),?_,?_⟩)
  .exact au.2 ⟨⟨"wait", [],"alone", J⟩,bx _ (by simp[v9]),O⟩
  .unfold cmV obF;rw[ak O];exact au.2 ⟨(.E,.E),bj.2 O,O⟩
 obtain⟨P,m,pP,xs⟩:=Vc (V:=V) (R:=R) (c:=c) g;have st:u? T M o W P (at0 T):=⟨g,pP,inv0 g⟩;obtain⟨x1,p⟩:=My ns 1;let S:Sl:=.z (.R (ns.map D.int));let DK:L4.D:=.bt (o.map D.str);let Q:L4.D:=.bt [TD T,MD M,DK,WD W,VD V,.bt R];let A:=Sl.z (TD T);let B:=Sl.z (MD M);let E:=Sl.z DK;let F:=Sl.z (WD W);let G:=Sl.z (VD V);let H:=Sl.z (D.bt R);let X:=Sl.z w;let N:=Sl.z (D.bt ((gk T).map D.str));let Y:=Sl.z (D.bt h);let U:Sl:=.un;let l:aQ:=lS ns (.z Q) A B E F H T V w h (sD P (va (at0 T) m)) x1 U U;obtain⟨k,em,hk⟩:∃k:Nat,c2 Y? b0 (c2 Z? (cC (.int 13)) (c1 wU aa)) l=Z (.int k,l)/\k<=13:=by have e:c2 Y? b0 (c2 Z? (cC (.int 13)) (c1 wU aa)) l=Z (.int (if (if ((ns.map D.int).length:Int)<13 then ((ns.map D.int).length:Int)else 13) > 2 then (if ((ns.map D.int).length:Int)<13 then ((ns.map D.int).length:Int)else 13)else 2),l):=rfl;refine⟨(if (if ((ns.map D.int).length:Int)<13 then ((ns.map D.int).length:Int)else 13) > 2 then (if ((ns.map D.int).length:Int)<13 then ((ns.map D.int).length:Int)else 13)else 2).toNat,?_,by split<;>split<;>omega⟩;rw[e,o4 (by split<;>split<;>omega)]
 obtain⟨b,ew⟩:=Qv (P:=P) (M:=M) (dk:=o) (W:=W) nd lV (U4 z) (λn=>ab5 hg n) (λr q=>(ok r q).2) (ns:=ns) (s1:=.z Q) (s2:=A) (s3:=B) (s4:=E) (s5:=F) (s7:=H) (cm:=h) O c0 lc x1 ((aU ((k:Int) - 1).toNat).map (1 + ·)) (at0 T) m U U st
 refine uP (ρ:=b) O ?_;unfold P4;refine(uK (ρ':=[S,.z Q,U,U,U,U,U,U,U,U,U,U,U,U,U]) ((uY (i:=1) (d:=Q) (ρ':=[S,U,U,U,U,U,U,U,U,U,U,U,U,U,U]) ?_).t O)).t ?_
 .show F? Bc (a1 eh) (vp nG) [S,U,U,U,U,U,U,U,U,U,U,U,U,U,U]=_;unfold F?;have ea:a1 eh [S,U,U,U,U,U,U,U,U,U,U,U,U,U,U]=Z ([.int 8],[S,U,U,U,U,U,U,U,U,U,U,U,U,U,U]):=rfl;have el:vp nG [S,U,U,U,U,U,U,U,U,U,U,U,U,U,U]=Z ([.int u],[S,U,U,U,U,U,U,U,U,U,U,U,U,U,U]):=To (uJ (uL (ds:=[.R (ns.map D.int),.int 0]) O ex) O) (kO O);simp only[ea,el,xm];rfl
 refine(uK (ρ':=[S,.z Q,A,B,E,F,G,H,U,U,U,U,U,U,U]) O).t ?_;refine(uK (ρ':=[S,.z Q,A,B,E,F,G,H,X,U,U,U,U,U,U]) ((uY (i:=8) (xy (c:=14) (g:=λj=>zi (j++[])) (ds:=[TD T,MD M,DK,WD W,VD V,.bt R]) (ρ1:=[S,.z Q,A,B,E,F,G,H,U,U,U,U,U,U,U]) O xw)).t O)).t ?_;refine(uK (ρ':=[S,.z Q,A,B,E,F,G,H,X,N,U,U,U,U,U]) ((uY (vP ((zl en (λt=>.str t.n) (λt=>t.k.pl) T (ρ1:=[S,.z Q,A,B,E,F,G,H,X,U,U,U,U,U,U]) O (by have:=g.len;omega) λt _=>⟨[.z (en t)],[.z (en t)],O,?_,λ_=>⟨_,O,O⟩,λ_=>O⟩).t (by show _=Z (((T.filter λt=>t.k.pl).map Th.n).map D.str,_);rw[aZ];rfl)))).t O)).t ?_
 .refine vZ (uW (x:=.str t.k.s) (y:=.bt ((["room", "you"]:aF).map D.str)) O O ((xC γ _ _).t ?_));cases t.k<;>rfl
 refine(uK (ρ':=[S,.z Q,A,B,E,F,G,H,X,N,Y,U,U,U,U]) ((uY (vP (uL (ds:=[w]) (ρ1:=[S,.z Q,A,B,E,F,G,H,X,N,U,U,U,U,U]) O xc))).t O)).t ?_;refine(uK (ρ':=[S,.z Q,A,B,E,F,G,H,X,N,Y,.z (sD P (va (at0 T) m)),U,U,U]) ((uY (uL (ds:=[w]) (ρ1:=[S,.z Q,A,B,E,F,G,H,X,N,Y,U,U,U,U]) O xs)).t O)).t ?_;refine(uK (ρ':=l) ((uY (uL (ds:=[.R (ns.map D.int),.int 1]) (ρ1:=[S,.z Q,A,B,E,F,G,H,X,N,Y,.z (sD P (va (at0 T) m)),U,U,U]) O p)).t O)).t ?_;refine(uK ((wm (ds:=((aU ((k:Int) - 1).toNat).map (1 + ·)).map λk:Nat=>D.int (k:Nat)) (ρ1:=l) ?_).t ew)).t O
 refine(ab9 (i:=1) O em (by omega)).t ?_;unfold B2;rw[aZ];congr 2
end K37x
namespace K37x
open PySem L2 L3 L4
open PySem.W (nsIn)
structure Fx(K:av)(C0 C1 C2 C3 C4 C5 C6 C7 C8 C9 C10 C11 C12 C13 C14 C15:Addr):Prop where
 a0:nsIn K bf "Thing" = Z (Z (.ref C0))
 a1:nsIn K bf "Mark" = Z (Z (.ref C1))
 a2:nsIn K bf "Verb" = Z (Z (.ref C2))
 a3:nsIn K bf "At" = Z (Z (.ref C3))
 a4:nsIn K bf "Has" = Z (Z (.ref C4))
 a5:nsIn K bf "Seen" = Z (Z (.ref C5))
 a6:nsIn K bf "Marked" = Z (Z (.ref C6))
 a7:nsIn K bf "Kind" = Z (Z (.ref C7))
 a8:nsIn K bf "Word" = Z (Z (.ref C8))
 a9:nsIn K bf "Not" = Z (Z (.ref C9))
 a10:nsIn K bf "Both" = Z (Z (.ref C10))
 a11:nsIn K bf "Move" = Z (Z (.ref C11))
 a12:nsIn K bf "Put" = Z (Z (.ref C12))
 a13:nsIn K bf "Rule" = Z (Z (.ref C13))
 a14:nsIn K bf "World" = Z (Z (.ref C14))
 a15:nsIn K bf "Lit" = Z (Z (.ref C15))
 k0:CF K C0 ["kind", "name", "start", "words"]
 k1:CF K C1 ["most", "name", "start"]
 k2:CF K C2 ["form", "joining", "name", "others"]
 k3:CF K C3 ["place", "term"]
 k4:CF K C4 ["term"]
 k5:CF K C5 ["term"]
 k6:CF K C6 ["term", "value"]
 k7:CF K C7 ["kind", "term"]
 k8:CF K C8 ["word"]
 k9:CF K C9 ["inner"]
 A?:CF K C10 ["one", "other"]
 H4:CF K C11 ["place", "term"]
 E?:CF K C12 ["term", "value"]
 z0:CF K C13 ["deeds", "refuses", "tests", "text", "verb"]
 mu:CF K C14 ["copied_rules", "kept_dark", "kept_marks", "kept_things", "kept_verbs", "kept_ways", "mosts_by_name", "rules_by_verb", "shared_rules", "shared_verbs", "things_by_name", "verbs_by_word", "your_name", "kept_rules"]
 L0:CF K C15 []
 i_At:xl K [C0,C1,C2,C3,C4,C5,C6,C7,C8,C9,C10,C11,C12,C13,C14,C15] C3 3=γ
 i_Both:xl K [C0,C1,C2,C3,C4,C5,C6,C7,C8,C9,C10,C11,C12,C13,C14,C15] C10 10=γ
 i_Has:xl K [C0,C1,C2,C3,C4,C5,C6,C7,C8,C9,C10,C11,C12,C13,C14,C15] C4 4=γ
 i_Kind:xl K [C0,C1,C2,C3,C4,C5,C6,C7,C8,C9,C10,C11,C12,C13,C14,C15] C7 7=γ
 i_Lit:xl K [C0,C1,C2,C3,C4,C5,C6,C7,C8,C9,C10,C11,C12,C13,C14,C15] C15 15=γ
 i_Mark:xl K [C0,C1,C2,C3,C4,C5,C6,C7,C8,C9,C10,C11,C12,C13,C14,C15] C1 1=γ
 i_Marked:xl K [C0,C1,C2,C3,C4,C5,C6,C7,C8,C9,C10,C11,C12,C13,C14,C15] C6 6=γ
 i_Move:xl K [C0,C1,C2,C3,C4,C5,C6,C7,C8,C9,C10,C11,C12,C13,C14,C15] C11 11=γ
 i_Not:xl K [C0,C1,C2,C3,C4,C5,C6,C7,C8,C9,C10,C11,C12,C13,C14,C15] C9 9=γ
 i_Put:xl K [C0,C1,C2,C3,C4,C5,C6,C7,C8,C9,C10,C11,C12,C13,C14,C15] C12 12=γ
 i_Rule:xl K [C0,C1,C2,C3,C4,C5,C6,C7,C8,C9,C10,C11,C12,C13,C14,C15] C13 13=γ
 i_Seen:xl K [C0,C1,C2,C3,C4,C5,C6,C7,C8,C9,C10,C11,C12,C13,C14,C15] C5 5=γ
 i_Thing:xl K [C0,C1,C2,C3,C4,C5,C6,C7,C8,C9,C10,C11,C12,C13,C14,C15] C0 0=γ
 i_Verb:xl K [C0,C1,C2,C3,C4,C5,C6,C7,C8,C9,C10,C11,C12,C13,C14,C15] C2 2=γ
 i_Word:xl K [C0,C1,C2,C3,C4,C5,C6,C7,C8,C9,C10,C11,C12,C13,C14,C15] C8 8=γ
 n_Lit:cP K (.ref C15) "__init__" = Z (Z (.builtin "object.__init__"))
 nd:decide ([C0,C1,C2,C3,C4,C5,C6,C7,C8,C9,C10,C11,C12,C13,C14,C15]:List Addr).Nodup=γ
 e:((["all", "any", "bool", "int", "isinstance", "len", "list", "max", "min", "range", "set", "sorted", "str", "tuple"]:aF).all λx=>match nsIn K bf x with|some J=>γ|_=>δ)=γ
 g0:GX K "CANNOT_BE" "That cannot be."
 g1:GS K "FORMS" ["alone", "one", "two", "way"]
 g2:GS K "KINDS" ["room", "plain", "fixed", "box", "lamp", "you"]
 g3:GS K "KINDS_APART" ["room", "you"]
 g4:GS K "KINDS_THAT_HOLD" ["room", "box", "you"]
 g5:GS K "KINDS_WITH_MARK" ["box", "lamp"]
 g6:GC K "MOST_BESIDE" 7
 g7:GC K "MOST_BY_COMMAND" 3
 g8:GC K "MOST_DEEDS" 4
 g9:GC K "MOST_DEEP" 4
 g10:GC K "MOST_IN_NAME" 8
 g11:GC K "MOST_IN_WORD" 12
 g12:GC K "MOST_MARKS" 4
 g13:GC K "MOST_OF_MARK" 3
 g14:GC K "MOST_ROOMS" 5
 g15:GC K "MOST_RULES" 20
 g16:GC K "MOST_SIGNS" 60
 g17:GC K "MOST_TESTS" 5
 g18:GC K "MOST_VERBS" 6
 g19:GC K "MOST_WAYS" 10
 g20:GC K "MOST_WORDS" 4
 g21:GX K "NOTHING_COMES" "Nothing comes of it."
 g22:GS K "NO_NAMES" ["it", "other", "here", "the", "a", "undo", "restart"]
 g23:GS K "NO_WORDS" ["the", "a"]
 g24:GS K "NO_WORDS_OF_ROWS" ["the", "a", "undo", "restart"]
 q25:GD K "is_small_letters" (top 6)
 q26:GD K "is_name" (top 7)
 q27:GD K "is_word" (top 8)
 q28:GD K "is_one_of" (top 10)
 q29:GD K "is_whole" (top 11)
 q30:GD K "is_list_up_to" (top 12)
 q31:GD K "own_list" (top 85)
 q32:GJ K C0 "Thing.__init__" (dr (top 75) 0) [V.E]
 q33:GM K C1 "__init__" "Mark.__init__" (dr (top 76) 0)
 q34:GJ K C2 "Verb.__init__" (dr (top 77) 0) [V.E,(V.str "one"),V.E]
 q35:GM K C3 "__init__" "At.__init__" (dr (top 32) 0)
 q36:GM K C4 "__init__" "Has.__init__" (dr (top 33) 0)
 q37:GM K C5 "__init__" "Seen.__init__" (dr (top 34) 0)
 q38:GM K C6 "__init__" "Marked.__init__" (dr (top 35) 0)
 q39:GM K C7 "__init__" "Kind.__init__" (dr (top 36) 0)
 q40:GM K C8 "__init__" "Word.__init__" (dr (top 37) 0)
 q41:GM K C9 "__init__" "Not.__init__" (dr (top 39) 0)
 q42:GM K C10 "__init__" "Both.__init__" (dr (top 40) 0)
 q43:GM K C11 "__init__" "Move.__init__" (dr (top 65) 0)
 q44:GM K C12 "__init__" "Put.__init__" (dr (top 66) 0)
 q45:GJ K C13 "Rule.__init__" (dr (top 84) 0) [(V.I δ)]
 q46:GM K C0 "can_hold" "Thing.can_hold" (dr (top 75) 1)
 q47:GM K C0 "has_mark" "Thing.has_mark" (dr (top 75) 2)
 q48:GM K C0 "is_plainly" "Thing.is_plainly" (dr (top 75) 3)
 q49:GD K "refuse_unless" (top 114)
 q50:GD K "count_of" (top 117)
 q51:GD K "plain_ones" (top 118)
 q52:GD K "is_mark" (top 120)
 q53:GD K "check_things" (top 116)
 q54:GD K "check_marks" (top 119)
 q55:GD K "are_unlike" (top 122)
 q56:GD K "check_names" (top 121)
 q57:GD K "mark_names" (top 123)
 q58:GD K "is_start" (top 125)
 q59:GD K "comes_to_room" (top 126)
 q60:GD K "check_starts" (top 124)
 q61:GD K "are_words" (top 128)
 q62:GD K "has_all" (top 130)
 q63:GD K "is_told_apart" (top 129)
 q64:GD K "check_words_of_things" (top 127)
 q65:GD K "check_dark" (top 131)
 q66:GD K "is_way" (top 133)
 q67:GD K "check_ways" (top 132)
 q68:GD K "is_verb" (top 135)
 q69:GD K "check_verbs" (top 134)
 q70:GD K "are_apart" (top 137)
 q71:GD K "check_vocabulary" (top 136)
 q72:GD K "check_parts" (top 115)
 q73:GD K "does" (top 141)
 q74:GD K "refuses" (top 142)
 q75:GD K "hand_rules" (top 143)
 q76:GD K "put_rules" (top 144)
 q77:GD K "lid_rules" (top 145)
 q78:GD K "flame_rules" (top 146)
 q79:GD K "way_tests" (top 148)
 q80:GD K "go_rules" (top 147)
 q81:GD K "wait_rules" (top 149)
 q82:GD K "common_rules" (top 140)
 q83:GD K "common_verbs" (top 139)
 q84:GD K "by_name" (top 153)
 q85:GD K "mosts_by_name" (top 154)
 q86:GD K "verbs_by_word" (top 155)
 q87:GD K "by_verb" (top 156)
 q88:GM K C14 "of_kind" "World.of_kind" (dr (top 152) 3)
 q89:GM K C14 "all_verbs" "World.all_verbs" (dr (top 152) 13)
 q90:GD K "is_same_text" (top 9)
 q91:GD K "copy_of" (top 86)
 q92:GM K C14 "thing_of" "World.thing_of" (dr (top 152) 2)
 q93:GM K C14 "most_of" "World.most_of" (dr (top 152) 6)
 q94:GM K C14 "verb_of" "World.verb_of" (dr (top 152) 14)
 q95:GM K C14 "you" "World.you" (dr (top 152) 4)
 q96:GD K "is_by_command" (top 97)
 q97:GD K "is_here" (top 98)
 q98:GD K "named" (top 99)
 q99:GD K "is_of_kind" (top 100)
 q100:GD K "is_term" (top 101)
 q101:GD K "is_place" (top 102)
 q102:GD K "is_moved" (top 103)
 q103:GD K "is_mark_value" (top 104)
 q104:GD K "is_move" (top 96)
 q105:GD K "is_said" (top 89)
 q106:GD K "is_verb_name" (top 88)
 q107:GD K "does_or_refuses" (top 90)
 q108:GD K "is_plain_test" (top 94)
 q109:GD K "is_test" (top 93)
 q110:GD K "is_deed" (top 95)
 q111:GD K "are_tests" (top 91)
 q112:GD K "are_deeds" (top 92)
 q113:GD K "is_rule" (top 87)
 q114:GM K C14 "__init__" "World.__init__" (dr (top 152) 0)
 q115:GM K C14 "is_dark" "World.is_dark" (dr (top 152) 5)
 q116:GM K C14 "own_marks" "World.own_marks" (dr (top 152) 7)
 q117:GM K C14 "names" "World.names" (dr (top 152) 1)
 q118:GM K C14 "way_words" "World.way_words" (dr (top 152) 12)
 q119:GM K C14 "rules_to_try" "World.rules_to_try" (dr (top 152) 16)
 q120:GM K C14 "parts" "World.parts" (dr (top 152) 18)
 q121:GD K "own_starts" (top 15)
 q122:GD K "first_value" (top 16)
 q123:GD K "first_stand" (top 14)
 q124:GD K "value_of" (top 17)
 q125:GD K "at_of" (top 18)
 q126:GD K "mark_of" (top 19)
 q127:GD K "with_part" (top 20)
 q128:GD K "holders_of" (top 22)
 q129:GD K "room_of" (top 23)
 q130:GD K "has" (top 26)
 q131:GD K "is_shut" (top 25)
 q132:GD K "in_open" (top 24)
 q133:GD K "burns_in" (top 28)
 q134:GD K "is_lit" (top 27)
 q135:GD K "is_seen" (top 29)
 q136:GD K "is_of_way" (top 41)
 q137:GD K "things_of" (top 42)
 q138:GD K "meant" (top 43)
 q139:GD K "at_parts" (top 44)
 q140:GD K "mark_parts" (top 45)
 q141:GD K "can_go" (top 67)
 q142:GD K "can_show" (top 68)
 q143:GM K C3 "holds" "At.holds" (dr (top 32) 1)
 q144:GM K C4 "holds" "Has.holds" (dr (top 33) 1)
 q145:GM K C5 "holds" "Seen.holds" (dr (top 34) 1)
 q146:GM K C6 "holds" "Marked.holds" (dr (top 35) 1)
 q147:GM K C7 "holds" "Kind.holds" (dr (top 36) 1)
 q148:GM K C8 "holds" "Word.holds" (dr (top 37) 1)
 q149:GM K C15 "holds" "Lit.holds" (dr (top 38) 0)
 q150:GM K C9 "holds" "Not.holds" (dr (top 39) 1)
 q151:GM K C10 "holds" "Both.holds" (dr (top 40) 1)
 q152:GM K C11 "done" "Move.done" (dr (top 65) 1)
 q153:GM K C12 "done" "Put.done" (dr (top 66) 1)
 q154:GD K "is_object" (top 58)
 q155:GD K "fits_form" (top 57)
 q156:GD K "is_command" (top 56)
 q157:GD K "check_command" (top 55)
 q158:GD K "fits" (top 61)
 q159:GD K "outcome" (top 62)
 q160:GD K "answered" (top 60)
 q161:GD K "step" (top 59)
 q162:GD K "objects_of" (top 54)
 q163:GD K "commands" (top 53)
 q164:GD K "_law_cell_at" (top 158)
 q165:GD K "_law_digit" (top 159)
 q166:GD K "_law_named" (top 161)
 q167:GD K "_law_things" (top 160)
 q168:GD K "_law_marks" (top 162)
 q169:GD K "_law_ways" (top 163)
 q170:GD K "_law_verbs" (top 164)
 q171:GD K "_law_term" (top 165)
 q172:GD K "_law_mark_term" (top 167)
 q173:GD K "_law_marked" (top 168)
 q174:GD K "_law_test" (top 166)
 q175:GD K "_law_deed" (top 169)
 q176:GD K "_law_rules" (top 170)
 q177:GD K "_law_made" (top 171)
 q178:GD K "_law_due" (top 172)
 q179:GD K "_law_right" (top 173)
 q180:GD K "law" (top 174)
class Yx(B:Bz):Prop where
 y:Yw B.P B.w B.mg B.b? B.G
 f:Fx B.G.K (B.G.ca 0) (B.G.ca 1) (B.G.ca 2) (B.G.ca 3) (B.G.ca 4) (B.G.ca 5) (B.G.ca 6) (B.G.ca 7) (B.G.ca 8) (B.G.ca 9) (B.G.ca 10) (B.G.ca 11) (B.G.ca 12) (B.G.ca 13) (B.G.ca 14) (B.G.ca 15)
section
variable{B:Bz}[Y:Yx B]
instance:Yb B:=⟨Y.y⟩
instance:Nb B "all" := ⟨Y.y.n Y.f.e 0 O⟩
instance:Nb B "any" := ⟨Y.y.n Y.f.e 1 O⟩
instance:Nb B "bool" := ⟨Y.y.n Y.f.e 2 O⟩
instance:Nb B "int" := ⟨Y.y.n Y.f.e 3 O⟩
instance:Nb B "isinstance" := ⟨Y.y.n Y.f.e 4 O⟩
instance:Nb B "len" := ⟨Y.y.n Y.f.e 5 O⟩
instance:Nb B "list" := ⟨Y.y.n Y.f.e 6 O⟩
instance:Nb B "max" := ⟨Y.y.n Y.f.e 7 O⟩
instance:Nb B "min" := ⟨Y.y.n Y.f.e 8 O⟩
instance:Nb B "range" := ⟨Y.y.n Y.f.e 9 O⟩
instance:Nb B "set" := ⟨Y.y.n Y.f.e 10 O⟩
instance:Nb B "sorted" := ⟨Y.y.n Y.f.e 11 O⟩
instance:Nb B "str" := ⟨Y.y.n Y.f.e 12 O⟩
instance:Nb B "tuple" := ⟨Y.y.n Y.f.e 13 O⟩
instance:Co B "CANNOT_BE" G2:=⟨Y.y.cx Y.f.g0⟩
instance:Co B "FORMS" PZ:=⟨Y.y.cs Y.f.g1⟩
instance:Co B "KINDS" B9:=⟨Y.y.cs Y.f.g2⟩
instance:Co B "KINDS_APART" Ec:=⟨Y.y.cs Y.f.g3⟩
instance:Co B "KINDS_THAT_HOLD" A1:=⟨Y.y.cs Y.f.g4⟩
instance:Co B "KINDS_WITH_MARK" A2:=⟨Y.y.cs Y.f.g5⟩
instance:Co B "MOST_BESIDE" Ed:=⟨Y.y.ci Y.f.g6⟩
instance:Co B "MOST_BY_COMMAND" A3:=⟨Y.y.ci Y.f.g7⟩
instance:Co B "MOST_DEEDS" Fl:=⟨Y.y.ci Y.f.g8⟩
instance:Co B "MOST_DEEP" G3:=⟨Y.y.ci Y.f.g9⟩
instance:Co B "MOST_IN_NAME" Dm:=⟨Y.y.ci Y.f.g10⟩
instance:Co B "MOST_IN_WORD" Dn:=⟨Y.y.ci Y.f.g11⟩
instance:Co B "MOST_MARKS" z8:=⟨Y.y.ci Y.f.g12⟩
instance:Co B "MOST_OF_MARK" Do:=⟨Y.y.ci Y.f.g13⟩
instance:Co B "MOST_ROOMS" Fn:=⟨Y.y.ci Y.f.g14⟩
instance:Co B "MOST_RULES" Fq:=⟨Y.y.ci Y.f.g15⟩
instance:Co B "MOST_SIGNS" Fm:=⟨Y.y.ci Y.f.g16⟩
instance:Co B "MOST_TESTS" Fk:=⟨Y.y.ci Y.f.g17⟩
instance:Co B "MOST_VERBS" Fo:=⟨Y.y.ci Y.f.g18⟩
instance:Co B "MOST_WAYS" Dp:=⟨Y.y.ci Y.f.g19⟩
instance:Co B "MOST_WORDS" Fp:=⟨Y.y.ci Y.f.g20⟩
instance:Co B "NOTHING_COMES" CH:=⟨Y.y.cx Y.f.g21⟩
instance:Co B "NO_NAMES" Jk:=⟨Y.y.cs Y.f.g22⟩
instance:Co B "NO_WORDS" Jl:=⟨Y.y.cs Y.f.g23⟩
instance:Co B "NO_WORDS_OF_ROWS" Aw:=⟨Y.y.cs Y.f.g24⟩
instance:Ff B BG "copied_rules" := ⟨yh (Y.f.mu.at 0 O)⟩
instance:Ff B BH "deeds" := ⟨yh (Y.f.z0.at 0 O)⟩
instance:Ff B xQ "form" := ⟨yh (Y.f.k2.at 0 O)⟩
instance:Ff B Gm "inner" := ⟨yh (Y.f.k9.at 0 O)⟩
instance:Ff B xn "joining" := ⟨yh (Y.f.k2.at 1 O)⟩
instance:Ff B Eb "kept_dark" := ⟨yh (Y.f.mu.at 1 O)⟩
instance:Ff B As "kept_marks" := ⟨yh (Y.f.mu.at 2 O)⟩
instance:Ff B xf "kept_things" := ⟨yh (Y.f.mu.at 3 O)⟩
instance:Ff B Dl "kept_verbs" := ⟨yh (Y.f.mu.at 4 O)⟩
instance:Ff B Bi "kept_ways" := ⟨yh (Y.f.mu.at 5 O)⟩
instance:Ff B vJ "kind" := ⟨orQ (yh (Y.f.k0.at 0 O)) (Y.f.k7.at 0 O)⟩
instance:Ff B Au "most" := ⟨yh (Y.f.k1.at 0 O)⟩
instance:Ff B AZ "mosts_by_name" := ⟨yh (Y.f.mu.at 6 O)⟩
instance:Ff B vd "name" := ⟨orQ (orQ (yh (Y.f.k0.at 1 O)) (Y.f.k1.at 1 O)) (Y.f.k2.at 2 O)⟩
instance:Ff B Ik "one" := ⟨yh (Y.f.A?.at 0 O)⟩
instance:Ff B DU "other" := ⟨yh (Y.f.A?.at 1 O)⟩
instance:Ff B yc "others" := ⟨yh (Y.f.k2.at 3 O)⟩
instance:Ff B DV "place" := ⟨orQ (yh (Y.f.k3.at 0 O)) (Y.f.H4.at 0 O)⟩
instance:Ff B zH "refuses" := ⟨yh (Y.f.z0.at 1 O)⟩
instance:Ff B zc "rules_by_verb" := ⟨yh (Y.f.mu.at 7 O)⟩
instance:Ff B BI "shared_rules" := ⟨yh (Y.f.mu.at 8 O)⟩
instance:Ff B BJ "shared_verbs" := ⟨yh (Y.f.mu.at 9 O)⟩
instance:Ff B wD "start" := ⟨orQ (yh (Y.f.k0.at 2 O)) (Y.f.k1.at 2 O)⟩
instance:Ff B BK "term" := ⟨orQ (orQ (orQ (orQ (orQ (orQ (yh (Y.f.k3.at 1 O)) (Y.f.k4.at 0 O)) (Y.f.k5.at 0 O)) (Y.f.k6.at 0 O)) (Y.f.k7.at 1 O)) (Y.f.H4.at 1 O)) (Y.f.E?.at 0 O)⟩
instance:Ff B DW "tests" := ⟨yh (Y.f.z0.at 2 O)⟩
instance:Ff B Fj "text" := ⟨yh (Y.f.z0.at 3 O)⟩
instance:Ff B Av "things_by_name" := ⟨yh (Y.f.mu.at 10 O)⟩
instance:Ff B DX "value" := ⟨orQ (yh (Y.f.k6.at 1 O)) (Y.f.E?.at 1 O)⟩
instance:Ff B zd "verb" := ⟨yh (Y.f.z0.at 4 O)⟩
instance:Ff B A0 "verbs_by_word" := ⟨yh (Y.f.mu.at 11 O)⟩
instance:Ff B Jj "word" := ⟨yh (Y.f.k8.at 0 O)⟩
instance:Ff B xT "words" := ⟨yh (Y.f.k0.at 3 O)⟩
instance:Ff B Bj "your_name" := ⟨yh (Y.f.mu.at 12 O)⟩
instance:Af B 0 ["kind", "name", "start", "words"]:=⟨Y.f.k0⟩
instance:Af B 1 ["most", "name", "start"]:=⟨Y.f.k1⟩
instance:Af B 2 ["form", "joining", "name", "others"]:=⟨Y.f.k2⟩
instance:Af B 3 ["place", "term"]:=⟨Y.f.k3⟩
instance:Af B 4 ["term"]:=⟨Y.f.k4⟩
instance:Af B 5 ["term"]:=⟨Y.f.k5⟩
instance:Af B 6 ["term", "value"]:=⟨Y.f.k6⟩
instance:Af B 7 ["kind", "term"]:=⟨Y.f.k7⟩
instance:Af B 8 ["word"]:=⟨Y.f.k8⟩
instance:Af B 9 ["inner"]:=⟨Y.f.k9⟩
instance:Af B 10 ["one", "other"]:=⟨Y.f.A?⟩
instance:Af B 11 ["place", "term"]:=⟨Y.f.H4⟩
instance:Af B 12 ["term", "value"]:=⟨Y.f.E?⟩
instance:Af B 13 ["deeds", "refuses", "tests", "text", "verb"]:=⟨Y.f.z0⟩
instance:Af B 14 ["copied_rules", "kept_dark", "kept_marks", "kept_things", "kept_verbs", "kept_ways", "mosts_by_name", "rules_by_verb", "shared_rules", "shared_verbs", "things_by_name", "verbs_by_word", "your_name", "kept_rules"]:=⟨Y.f.mu⟩
instance:Ic B "At" t_At:=⟨3,wC Y.f.i_At O (Dk 16 _) (B8.at ⟨Y.f.k0.ci,Y.f.k1.ci,Y.f.k2.ci,Y.f.k3.ci,Y.f.k4.ci,Y.f.k5.ci,Y.f.k6.ci,Y.f.k7.ci,Y.f.k8.ci,Y.f.k9.ci,Y.f.A?.ci,Y.f.H4.ci,Y.f.E?.ci,Y.f.z0.ci,Y.f.mu.ci,Y.f.L0.ci,trivial⟩),Y.y.g Y.f.a3⟩
instance:Ic B "Both" OI:=⟨10,wC Y.f.i_Both O (Dk 16 _) (B8.at ⟨Y.f.k0.ci,Y.f.k1.ci,Y.f.k2.ci,Y.f.k3.ci,Y.f.k4.ci,Y.f.k5.ci,Y.f.k6.ci,Y.f.k7.ci,Y.f.k8.ci,Y.f.k9.ci,Y.f.A?.ci,Y.f.H4.ci,Y.f.E?.ci,Y.f.z0.ci,Y.f.mu.ci,Y.f.L0.ci,trivial⟩),Y.y.g Y.f.a10⟩
instance:Ic B "Has" X3:=⟨4,wC Y.f.i_Has O (Dk 16 _) (B8.at ⟨Y.f.k0.ci,Y.f.k1.ci,Y.f.k2.ci,Y.f.k3.ci,Y.f.k4.ci,Y.f.k5.ci,Y.f.k6.ci,Y.f.k7.ci,Y.f.k8.ci,Y.f.k9.ci,Y.f.A?.ci,Y.f.H4.ci,Y.f.E?.ci,Y.f.z0.ci,Y.f.mu.ci,Y.f.L0.ci,trivial⟩),Y.y.g Y.f.a4⟩
instance:Ic B "Kind" Ul:=⟨7,wC Y.f.i_Kind O (Dk 16 _) (B8.at ⟨Y.f.k0.ci,Y.f.k1.ci,Y.f.k2.ci,Y.f.k3.ci,Y.f.k4.ci,Y.f.k5.ci,Y.f.k6.ci,Y.f.k7.ci,Y.f.k8.ci,Y.f.k9.ci,Y.f.A?.ci,Y.f.H4.ci,Y.f.E?.ci,Y.f.z0.ci,Y.f.mu.ci,Y.f.L0.ci,trivial⟩),Y.y.g Y.f.a7⟩
instance:Ic B "Lit" X4:=⟨15,wC Y.f.i_Lit O (Dk 16 _) (B8.at ⟨Y.f.k0.ci,Y.f.k1.ci,Y.f.k2.ci,Y.f.k3.ci,Y.f.k4.ci,Y.f.k5.ci,Y.f.k6.ci,Y.f.k7.ci,Y.f.k8.ci,Y.f.k9.ci,Y.f.A?.ci,Y.f.H4.ci,Y.f.E?.ci,Y.f.z0.ci,Y.f.mu.ci,Y.f.L0.ci,trivial⟩),Y.y.g Y.f.a15⟩
instance:Ic B "Mark" Um:=⟨1,wC Y.f.i_Mark O (Dk 16 _) (B8.at ⟨Y.f.k0.ci,Y.f.k1.ci,Y.f.k2.ci,Y.f.k3.ci,Y.f.k4.ci,Y.f.k5.ci,Y.f.k6.ci,Y.f.k7.ci,Y.f.k8.ci,Y.f.k9.ci,Y.f.A?.ci,Y.f.H4.ci,Y.f.E?.ci,Y.f.z0.ci,Y.f.mu.ci,Y.f.L0.ci,trivial⟩),Y.y.g Y.f.a1⟩
instance:Ic B "Marked" NA:=⟨6,wC Y.f.i_Marked O (Dk 16 _) (B8.at ⟨Y.f.k0.ci,Y.f.k1.ci,Y.f.k2.ci,Y.f.k3.ci,Y.f.k4.ci,Y.f.k5.ci,Y.f.k6.ci,Y.f.k7.ci,Y.f.k8.ci,Y.f.k9.ci,Y.f.A?.ci,Y.f.H4.ci,Y.f.E?.ci,Y.f.z0.ci,Y.f.mu.ci,Y.f.L0.ci,trivial⟩),Y.y.g Y.f.a6⟩
instance:Ic B "Move" Uo:=⟨11,wC Y.f.i_Move O (Dk 16 _) (B8.at ⟨Y.f.k0.ci,Y.f.k1.ci,Y.f.k2.ci,Y.f.k3.ci,Y.f.k4.ci,Y.f.k5.ci,Y.f.k6.ci,Y.f.k7.ci,Y.f.k8.ci,Y.f.k9.ci,Y.f.A?.ci,Y.f.H4.ci,Y.f.E?.ci,Y.f.z0.ci,Y.f.mu.ci,Y.f.L0.ci,trivial⟩),Y.y.g Y.f.a11⟩
instance:Ic B "Not" Up:=⟨9,wC Y.f.i_Not O (Dk 16 _) (B8.at ⟨Y.f.k0.ci,Y.f.k1.ci,Y.f.k2.ci,Y.f.k3.ci,Y.f.k4.ci,Y.f.k5.ci,Y.f.k6.ci,Y.f.k7.ci,Y.f.k8.ci,Y.f.k9.ci,Y.f.A?.ci,Y.f.H4.ci,Y.f.E?.ci,Y.f.z0.ci,Y.f.mu.ci,Y.f.L0.ci,trivial⟩),Y.y.g Y.f.a9⟩
instance:Ic B "Put" X5:=⟨12,wC Y.f.i_Put O (Dk 16 _) (B8.at ⟨Y.f.k0.ci,Y.f.k1.ci,Y.f.k2.ci,Y.f.k3.ci,Y.f.k4.ci,Y.f.k5.ci,Y.f.k6.ci,Y.f.k7.ci,Y.f.k8.ci,Y.f.k9.ci,Y.f.A?.ci,Y.f.H4.ci,Y.f.E?.ci,Y.f.z0.ci,Y.f.mu.ci,Y.f.L0.ci,trivial⟩),Y.y.g Y.f.a12⟩
instance:Ic B "Rule" Uq:=⟨13,wC Y.f.i_Rule O (Dk 16 _) (B8.at ⟨Y.f.k0.ci,Y.f.k1.ci,Y.f.k2.ci,Y.f.k3.ci,Y.f.k4.ci,Y.f.k5.ci,Y.f.k6.ci,Y.f.k7.ci,Y.f.k8.ci,Y.f.k9.ci,Y.f.A?.ci,Y.f.H4.ci,Y.f.E?.ci,Y.f.z0.ci,Y.f.mu.ci,Y.f.L0.ci,trivial⟩),Y.y.g Y.f.a13⟩
instance:Ic B "Seen" Ur:=⟨5,wC Y.f.i_Seen O (Dk 16 _) (B8.at ⟨Y.f.k0.ci,Y.f.k1.ci,Y.f.k2.ci,Y.f.k3.ci,Y.f.k4.ci,Y.f.k5.ci,Y.f.k6.ci,Y.f.k7.ci,Y.f.k8.ci,Y.f.k9.ci,Y.f.A?.ci,Y.f.H4.ci,Y.f.E?.ci,Y.f.z0.ci,Y.f.mu.ci,Y.f.L0.ci,trivial⟩),Y.y.g Y.f.a5⟩
instance:Ic B "Thing" PY:=⟨0,wC Y.f.i_Thing O (Dk 16 _) (B8.at ⟨Y.f.k0.ci,Y.f.k1.ci,Y.f.k2.ci,Y.f.k3.ci,Y.f.k4.ci,Y.f.k5.ci,Y.f.k6.ci,Y.f.k7.ci,Y.f.k8.ci,Y.f.k9.ci,Y.f.A?.ci,Y.f.H4.ci,Y.f.E?.ci,Y.f.z0.ci,Y.f.mu.ci,Y.f.L0.ci,trivial⟩),Y.y.g Y.f.a0⟩
instance:Ic B "Verb" Us:=⟨2,wC Y.f.i_Verb O (Dk 16 _) (B8.at ⟨Y.f.k0.ci,Y.f.k1.ci,Y.f.k2.ci,Y.f.k3.ci,Y.f.k4.ci,Y.f.k5.ci,Y.f.k6.ci,Y.f.k7.ci,Y.f.k8.ci,Y.f.k9.ci,Y.f.A?.ci,Y.f.H4.ci,Y.f.E?.ci,Y.f.z0.ci,Y.f.mu.ci,Y.f.L0.ci,trivial⟩),Y.y.g Y.f.a2⟩
instance:Ic B "Word" Ut:=⟨8,wC Y.f.i_Word O (Dk 16 _) (B8.at ⟨Y.f.k0.ci,Y.f.k1.ci,Y.f.k2.ci,Y.f.k3.ci,Y.f.k4.ci,Y.f.k5.ci,Y.f.k6.ci,Y.f.k7.ci,Y.f.k8.ci,Y.f.k9.ci,Y.f.A?.ci,Y.f.H4.ci,Y.f.E?.ci,Y.f.z0.ci,Y.f.mu.ci,Y.f.L0.ci,trivial⟩),Y.y.g Y.f.a8⟩
instance:K0f B "Lit" 15:=⟨⟨Y.f.L0.mks,Y.f.n_Lit,Y.f.L0.kp⟩,Y.y.g Y.f.a15⟩
instance:Ij B 16:=⟨injR Y.f.nd⟩
theorem eqL{A:Type}{l:List A}{n:Nat}(h:l.length=n):l.length=n:=h
theorem eqE{e:PySem.Expr}{v:PySem.Env}{r:PySem.Sem PySem.Value}(h:PySem.eval e v=r):PySem.eval e v=r:=h
local macro_rules|`(tactic|trivial)=>do let x:=("adw adi adh adj adk PN ado aaw aa1 adl aau aa6 aa0 aaf aag aa2 aa4 aaX aaz aaS aaC aa7 aam aan aao aap aaj aa5 adp aa8 zr_rpN aak aay zr_mqI aba abc aa3 abn aax aav aat aae zr_i2I aaH aaI adm abe aar aas aaq adq ads aaM aah aai aaN aal abk abl abm abb abd abf adn aaA aaB abg abh aaO aaD aaE abt aaP aaQ aaR abi abj Xa W9 Xb zr_gtuL aaT aaU aaV aaG zr_r2I aaJ zr_xeI aaK abD aaL W8 aa9 abA zr_srI zr_mxI zr_mnI abz zr_wxI aaF abp zr_xsI abq abr W7 abo".splitOn " ").toArray.map fun s=>Lean.mkIdent (.mkSimple s);`(tactic|repeat' first|(with_reducible intro _)|((with_reducible first|apply eqL|apply eqE);rfl)|kernel_rfl|((with_reducible first|apply aaY|apply aaZ);rotate_left 7;rfl)|(with_reducible first $[|apply $x]*)|exact ql)
instance:Df B 1 "is_small_letters" (fu B.G yN):=f? O Y.f.q25 O (by unfold Ax;trivial)
instance:Df B 2 "is_name" (fu B.G yi):=f? O Y.f.q26 O (by unfold KP;trivial)
instance:Df B 2 "is_word" (fu B.G yj):=f? O Y.f.q27 O (by unfold KQ;trivial)
instance:Df B 1 "is_one_of" (fu B.G vQ):=f? O Y.f.q28 O (by unfold G4;trivial)
instance:Df B 1 "is_whole" (fu B.G Ay):=f? O Y.f.q29 O (by unfold Jm;trivial)
instance:Df B 1 "is_list_up_to" (fu B.G vY):=f? O Y.f.q30 O (by unfold CJ;trivial)
instance:Df B 1 "own_list" (fu B.G Ew):=f? O Y.f.q31 O (by unfold Jn;trivial)
def Eo:π B (S' (dr (top 75) 0)) "Thing.__init__" (dr (top 75) 0) (vV (dr (top 75) 0)) 0 Ca:=by
 unfold Ca;refine PN ?_ ?_
 all_goals trivial
instance:Kf B 1 "Thing" 0 yk [D.E]:=gJ4 (dds:=[D.E]) Y.f.k0 Y.f.a0 O Y.f.q32 O O Eo 0
instance:Kf B 1 "Thing" 0 yk []:=gJ4 (dds:=[D.E]) Y.f.k0 Y.f.a0 O Y.f.q32 O O Eo 1
instance:Kf B 1 "Mark" 1 Dr []:=gI4 Y.f.k1 Y.f.a1 O Y.f.q33 O O (by unfold G5;trivial)
def Ad:π B (S' (dr (top 77) 0)) "Verb.__init__" (dr (top 77) 0) (vV (dr (top 77) 0)) 0 Dt:=by
 unfold Dt;refine PN ?_ ?_
 all_goals trivial
instance:Kf B 1 "Verb" 2 v8 [D.E,(D.str "one"),D.E]:=gJ4 (dds:=[D.E,(D.str "one"),D.E]) Y.f.k2 Y.f.a2 O Y.f.q34 O O Ad 0
instance:Kf B 1 "Verb" 2 v8 [(D.str "one"),D.E]:=gJ4 (dds:=[D.E,(D.str "one"),D.E]) Y.f.k2 Y.f.a2 O Y.f.q34 O O Ad 1
instance:Kf B 1 "Verb" 2 v8 [D.E]:=gJ4 (dds:=[D.E,(D.str "one"),D.E]) Y.f.k2 Y.f.a2 O Y.f.q34 O O Ad 2
instance:Kf B 1 "Verb" 2 v8 []:=gJ4 (dds:=[D.E,(D.str "one"),D.E]) Y.f.k2 Y.f.a2 O Y.f.q34 O O Ad 3
instance:Kf B 1 "At" 3 DY []:=gI4 Y.f.k3 Y.f.a3 O Y.f.q35 O O (by unfold KR;trivial)
instance:Kf B 1 "Has" 4 Cb []:=gI4 Y.f.k4 Y.f.a4 O Y.f.q36 O O (by unfold Jo;trivial)
instance:Kf B 1 "Seen" 5 G7 []:=gI4 Y.f.k5 Y.f.a5 O Y.f.q37 O O (by unfold G6;trivial)
instance:Kf B 1 "Marked" 6 wV []:=gI4 Y.f.k6 Y.f.a6 O Y.f.q38 O O (by unfold Ee;trivial)
instance:Kf B 1 "Kind" 7 xI []:=gI4 Y.f.k7 Y.f.a7 O Y.f.q39 O O (by unfold G8;trivial)
instance:Kf B 1 "Word" 8 Du []:=gI4 Y.f.k8 Y.f.a8 O Y.f.q40 O O (by unfold G9;trivial)
instance:Kf B 1 "Not" 9 xK []:=gI4 Y.f.k9 Y.f.a9 O Y.f.q41 O O (by unfold Jp;trivial)
instance:Kf B 1 "Both" 10 Hf []:=gI4 Y.f.A? Y.f.a10 O Y.f.q42 O O (by unfold He;trivial)
instance:Kf B 1 "Move" 11 yd []:=gI4 Y.f.H4 Y.f.a11 O Y.f.q43 O O (by unfold Hg;trivial)
instance:Kf B 1 "Put" 12 yO []:=gI4 Y.f.E? Y.f.a12 O Y.f.q44 O O (by unfold Jq;trivial)
instance:Kf B 2 "Rule" 13 yT []:=gJ4 (dds:=[(D.I δ)]) Y.f.z0 Y.f.a13 O Y.f.q45 O O (by unfold Hh;trivial) 1
instance:Mf B 9 "can_hold" wa:=⟨λc h e=>by
 unfold wa at e;split at e
 .cases e;exact rp (k:=8) Y.f.k0 O Y.f.q46 O (by unfold BL;trivial)
 .cases e⟩
instance:Mf B 9 "has_mark" xD:=⟨λc h e=>by
 unfold xD at e;split at e
 .cases e;exact rp (k:=8) Y.f.k0 O Y.f.q47 O (by unfold BM;trivial)
 .cases e⟩
instance:Mf B 9 "is_plainly" v3:=⟨λc h e=>by
 unfold v3 at e;split at e
 .cases e;exact rp (k:=8) Y.f.k0 O Y.f.q48 O (by unfold AA;trivial)
 .cases e⟩
instance:Df B 1 "refuse_unless" (fu B.G u5):=f? O Y.f.q49 O (by unfold CK;trivial)
instance:Df B 1 "count_of" (fu B.G Cc):=f? O Y.f.q50 O (by unfold Jr;trivial)
instance:Df B 10 "plain_ones" (ub B.G ym):=T3 O Y.f.q51 O (by unfold Fs;trivial)
instance:Df B 2 "is_mark" (fu B.G Gq):=f? O Y.f.q52 O (by unfold Gp;trivial)
instance:Df B 11 "check_things" (fu B.G AC):=f? O Y.f.q53 O (by unfold AB;trivial)
instance:Df B 3 "check_marks" (fu B.G Bl):=f? O Y.f.q54 O (by unfold Bk;trivial)
instance:Df B 1 "are_unlike" (fu B.G xM):=f? O Y.f.q55 O (by unfold Ft;trivial)
instance:Df B 3 "check_names" (fu B.G Bn):=f? O Y.f.q56 O (by unfold Bm;trivial)
instance:Df B 10 "mark_names" (ub B.G yn):=T3 O Y.f.q57 O (by unfold Fu;trivial)
instance:Df B 10 "is_start" (fu B.G Ey):=f? O Y.f.q58 O (by unfold Ex;trivial)
instance:Df B 1 "comes_to_room" (fu B.G zT):=f? O Y.f.q59 O (by unfold CL;trivial)
instance:Df B 11 "check_starts" (fu B.G AE):=gF5 ["things", "starts", "thing"] O Y.f.q60 O (by unfold AD;trivial)
instance:Df B 3 "are_words" (fu B.G A4):=f? O Y.f.q61 O (by unfold Hk;trivial)
instance:Df B 1 "has_all" (fu B.G BO):=f? O Y.f.q62 O (by unfold KU;trivial)
instance:Df B 2 "is_told_apart" (fu B.G zV):=f? O Y.f.q63 O (by unfold zU;trivial)
instance:Df B 11 "check_words_of_things" (fu B.G xF):=f? O Y.f.q64 O (by unfold xE;trivial)
instance:Df B 2 "check_dark" (fu B.G Ce):=f? O Y.f.q65 O (by unfold Cd;trivial)
instance:Df B 3 "is_way" (fu B.G Jt):=f? O Y.f.q66 O (by unfold Js;trivial)
instance:Df B 4 "check_ways" (fu B.G Cg):=f? O Y.f.q67 O (by unfold Cf;trivial)
instance:Df B 3 "is_verb" (fu B.G KY):=f? O Y.f.q68 O (by unfold KW;trivial)
instance:Df B 4 "check_verbs" (fu B.G yA):=f? O Y.f.q69 O (by unfold Ef;trivial)
instance:Df B 1 "are_apart" (fu B.G zI):=f? O Y.f.q70 O (by unfold Hl;trivial)
instance:Df B 11 "check_vocabulary" (fu B.G xN):=f? O Y.f.q71 O (by unfold yQ;trivial)
instance:Df B 12 "check_parts" (fu B.G Bp):=f? O Y.f.q72 O (by unfold Bo;trivial)
instance:Df B 4 "does" (fu B.G AF):=f? O Y.f.q73 O (by unfold Uu;trivial)
instance:Df B 4 "refuses" (fu B.G wt):=f? O Y.f.q74 O (by unfold KZ;trivial)
instance:Df B 5 "hand_rules" (ub B.G Ci):=T3 O Y.f.q75 O (by unfold Fv;trivial)
instance:Df B 5 "put_rules" (ub B.G Dv):=T3 O Y.f.q76 O (by unfold Hm;trivial)
instance:Df B 5 "lid_rules" (ub B.G Dx):=T3 O Y.f.q77 O (by unfold Hn;trivial)
instance:Df B 5 "flame_rules" (ub B.G Bq):=T3 O Y.f.q78 O (by unfold Eg;trivial)
instance:Df B 3 "way_tests" (ub B.G Dy):=T3 O Y.f.q79 O (by unfold Ho;trivial)
instance:Df B 5 "go_rules" (ub B.G EB):=T3 O Y.f.q80 O (by unfold EA;trivial)
instance:Df B 5 "wait_rules" (ub B.G Fy):=T3 O Y.f.q81 O (by unfold Fw;trivial)
instance:Df B 6 "common_rules" (ub B.G AG):=T3 O Y.f.q82 O (by unfold DA;trivial)
instance:Df B 3 "common_verbs" (ub B.G ze):=T3 O Y.f.q83 O (by unfold DB;trivial)
instance:Df B 1 "by_name" (fu B.G Gs):=f? O Y.f.q84 O (by unfold Gr;trivial)
instance:Df B 10 "mosts_by_name" (fu B.G zX):=f? O Y.f.q85 O (by unfold zW;trivial)
instance:Df B 1 "verbs_by_word" (fu B.G yF):=f? O Y.f.q86 O (by unfold CM;trivial)
instance:Df B 1 "by_verb" (fu B.G K1):=f? O Y.f.q87 O (by unfold K0;refine⟨Ro (stW (by kernel_rfl) ML O) (R9 ql O (M4 (MQ B.G.K (Oh (S3 (by kernel_rfl))))) (pgI (by kernel_rfl)) (Lr (O2 (SE B.G.K jH lg ph F6 (TN (S3 (by kernel_rfl)) (SR (Oh (S3 (by kernel_rfl))) (Ff.p (B:=B))) (Sj zP) ⟨O,O,O,O⟩) (xi (S3 (by kernel_rfl)) zP))))) (NZ (PE.ghost (S3 (by kernel_rfl))))⟩)
instance:Mf B 9 "of_kind" yB:=⟨λc h e=>by
 unfold yB at e;split at e
 .cases e;exact rp (k:=8) Y.f.mu O Y.f.q88 O (by unfold CN;trivial)
 .cases e⟩
instance:Mf B 9 "all_verbs" xR:=⟨λc h e=>by
 unfold xR at e;split at e
 .cases e;exact rp (k:=8) Y.f.mu O Y.f.q89 O (by unfold A5;trivial)
 .cases e⟩
instance:Df B 1 "is_same_text" (fu B.G zf):=f? O Y.f.q90 O (by unfold DC;trivial)
instance:Df B 4 "copy_of" (fu B.G Gu):=f? O Y.f.q91 O (by unfold K2;trivial)
instance:Mf B 9 "thing_of" vq:=⟨λc h e=>by
 unfold vq at e;split at e
 .cases e;exact rp (k:=8) Y.f.mu O Y.f.q92 O (by unfold BP;trivial)
 .cases e⟩
instance:Mf B 9 "most_of" wW:=⟨λc h e=>by
 unfold wW at e;split at e
 .cases e;exact rp (k:=8) Y.f.mu O Y.f.q93 O (by unfold CO;trivial)
 .cases e⟩
instance:Mf B 9 "verb_of" wb:=⟨λc h e=>by
 unfold wb at e;split at e
 .cases e;exact rp (k:=8) Y.f.mu O Y.f.q94 O (by unfold CP;trivial)
 .cases e⟩
instance:Mf B 9 "you" Ah:=⟨λc h e=>by
 unfold Ah at e;split at e
 .cases e;exact rp (k:=8) Y.f.mu O Y.f.q95 O (by unfold Hr;trivial)
 .cases e⟩
instance:Df B 2 "is_by_command" (fu B.G wc):=f? O Y.f.q96 O (by unfold CQ;trivial)
instance:Df B 2 "is_here" (fu B.G zw):=f? O Y.f.q97 O (by unfold K4;trivial)
instance:Df B 10 "named" (fu B.G z9):=f? O Y.f.q98 O (by unfold P1;trivial)
instance:Df B 11 "is_of_kind" (fu B.G Aa):=f? O Y.f.q99 O (by unfold FB;trivial)
instance:Df B 11 "is_term" (fu B.G BQ):=f? O Y.f.q100 O (by unfold K5;trivial)
instance:Df B 11 "is_place" (fu B.G Cj):=f? O Y.f.q101 O (by unfold EC;trivial)
instance:Df B 12 "is_moved" (fu B.G EE):=f? O Y.f.q102 O (by unfold ED;trivial)
instance:Df B 10 "is_mark_value" (fu B.G yH):=f? O Y.f.q103 O (by unfold yG;trivial)
instance:Df B 13 "is_move" (fu B.G Gw):=f? O Y.f.q104 O (by unfold Gv;trivial)
instance:Df B 1 "is_said" (fu B.G BR):=f? O Y.f.q105 O (by unfold K6;trivial)
instance:Df B 10 "is_verb_name" (fu B.G AH):=f? O Y.f.q106 O (by unfold DD;trivial)
instance:Df B 1 "does_or_refuses" (fu B.G zg):=f? O Y.f.q107 O (by unfold A6;trivial)
instance:Df B 12 "is_plain_test" (fu B.G zZ):=f? O Y.f.q108 O (by unfold wu;trivial)
instance:Df B 1 "is_test" (fu B.G (yV 0)):=f? (k:=0) O Y.f.q109 O (by trivial)
instance:Df B 13 "is_test" (fu B.G (yV 1)):=f? (k:=12) O Y.f.q109 O (by unfold yU;trivial)
instance:Df B 14 "is_test" (fu B.G (yV 2)):=f? (k:=13) O Y.f.q109 O (by unfold yU;trivial)
instance:Df B 15 "is_test" (fu B.G (yV 3)):=f? (k:=14) O Y.f.q109 O (by unfold yU;trivial)
instance:Df B 16 "is_test" (fu B.G (yV 4)):=f? (k:=15) O Y.f.q109 O (by unfold yU;trivial)
instance:Df B 14 "is_deed" (fu B.G Gx):=f? O Y.f.q110 O (by unfold DZ;trivial)
instance:Df B 18 "are_tests" (fu B.G DE):=f? O Y.f.q111 O (by unfold Ht;trivial)
instance:Df B 15 "are_deeds" (fu B.G DF):=f? O Y.f.q112 O (by unfold Hu;trivial)
instance:Df B 19 "is_rule" (fu B.G GA):=f? O Y.f.q113 O (by unfold Gy;trivial)
instance:Kf B 20 "World" 14 zi []:=gI4 Y.f.mu Y.f.a14 O Y.f.q114 O O (by unfold zh;trivial)
instance:Mf B 9 "is_dark" zC:=⟨λc h e=>by
 unfold zC at e;split at e
 .cases e;exact rp (k:=8) Y.f.mu O Y.f.q115 O (by unfold CS;trivial)
 .cases e⟩
instance:Mf B 9 "own_marks" z4:=⟨λc h e=>by
 unfold z4 at e;split at e
 .cases e;exact rp (k:=8) Y.f.mu O Y.f.q116 O (by unfold A7;trivial)
 .cases e⟩
instance:Mf B 9 "names" yW:=⟨λc h e=>by
 unfold yW at e;split at e
 .cases e;exact rp (k:=8) Y.f.mu O Y.f.q117 O (by unfold Eh;trivial)
 .cases e⟩
instance:Mf B 9 "way_words" xS:=⟨λc h e=>by
 unfold xS at e;split at e
 .cases e;exact rp (k:=8) Y.f.mu O Y.f.q118 O (by unfold A8;trivial)
 .cases e⟩
instance:Mf B 9 "rules_to_try" yR:=⟨λc h e=>by
 unfold yR at e;split at e
 .cases e;exact rp (k:=8) Y.f.mu O Y.f.q119 O (by unfold zJ;trivial)
 .cases e⟩
instance:Mf B 12 "parts" A9:=⟨λc h e=>by
 unfold A9 at e;split at e
 .cases e;exact rp (k:=11) Y.f.mu O Y.f.q120 O (by unfold Ei;trivial)
 .cases e⟩
instance:Df B 10 "own_starts" (fu B.G Ck):=f? O Y.f.q121 O (by unfold FD;trivial)
instance:Df B 10 "first_value" (fu B.G yC):=f? O Y.f.q122 O (by unfold Ek;trivial)
instance:Df B 13 "first_stand" (fu B.G Bs):=f? O Y.f.q123 O (by unfold El;trivial)
instance:Df B 1 "value_of" (fu B.G Cn):=f? O Y.f.q124 O (by unfold Ju;trivial)
instance:Df B 2 "at_of" (fu B.G zD):=f? O Y.f.q125 O (by unfold P2;trivial)
instance:Df B 2 "mark_of" (fu B.G yX):=f? O Y.f.q126 O (by unfold K7;trivial)
instance:Df B 1 "with_part" (fu B.G Ba):=f? O Y.f.q127 O (by unfold Hv;trivial)
instance:Df B 3 "holders_of" (ub B.G yp):=T3 O Y.f.q128 O (by unfold FH;trivial)
instance:Df B 10 "room_of" (fu B.G Ai):=f? O Y.f.q129 O (by unfold K8;trivial)
instance:Df B 10 "has" (fu B.G Uv):=f? O Y.f.q130 O (by unfold X6;trivial)
instance:Df B 10 "is_shut" (fu B.G zx):=f? O Y.f.q131 O (by unfold K9;trivial)
instance:Df B 11 "in_open" (fu B.G zy):=f? O Y.f.q132 O (by unfold La;trivial)
instance:Df B 12 "burns_in" (fu B.G AI):=f? O Y.f.q133 O (by unfold Jv;trivial)
instance:Df B 13 "is_lit" (fu B.G FI):=f? O Y.f.q134 O (by unfold NC;trivial)
instance:Df B 14 "is_seen" (fu B.G wQ):=f? O Y.f.q135 O (by unfold Lb;trivial)
instance:Df B 10 "is_of_way" (fu B.G zK):=f? O Y.f.q136 O (by unfold Hw;trivial)
instance:Df B 11 "things_of" (fu B.G wx):=f? O Y.f.q137 O (by unfold Hy;trivial)
instance:Df B 12 "meant" (fu B.G wy):=f? O Y.f.q138 O (by unfold P3;trivial)
instance:Df B 10 "at_parts" (fu B.G EF):=f? O Y.f.q139 O (by unfold Jw;trivial)
instance:Df B 10 "mark_parts" (fu B.G Ab):=f? O Y.f.q140 O (by unfold FJ;trivial)
instance:Df B 11 "can_go" (fu B.G FK):=f? O Y.f.q141 O (by unfold ND;trivial)
instance:Df B 11 "can_show" (fu B.G EG):=f? O Y.f.q142 O (by unfold Jx;trivial)
instance:Mf B 16 "holds" (vv 0):=⟨λc h e=>by
 unfold vv Cp at e;split at e
 .cases e;exact rp (k:=15) Y.f.k3 O Y.f.q143 O (by unfold Jy;trivial)
 .cases e;exact rp (k:=15) Y.f.k4 O Y.f.q144 O (by unfold Hz;trivial)
 .cases e;exact rp (k:=15) Y.f.k5 O Y.f.q145 O (by unfold FL;trivial)
 .cases e;exact rp (k:=15) Y.f.k6 O Y.f.q146 O (by unfold DG;trivial)
 .cases e;exact rp (k:=15) Y.f.k7 O Y.f.q147 O (by unfold FN;trivial)
 .cases e;exact rp (k:=15) Y.f.k8 O Y.f.q148 O (by unfold FQ;trivial)
 .cases e;exact rp (k:=15) Y.f.L0 O Y.f.q149 O (by unfold HB;trivial)
 .cases e⟩
instance:Mf B 17 "holds" (vv 1):=⟨λc h e=>by
 unfold vv at e;split at e
 .cases e;exact rp (k:=16) Y.f.k9 O Y.f.q150 O (by unfold zL;trivial)
 .cases e;exact rp (k:=16) Y.f.A? O Y.f.q151 O (by unfold yt;trivial)
 .exact(Mf.p (B:=B) (g:=vv 0) c h e).mono O⟩
instance:Mf B 18 "holds" (vv 2):=⟨λc h e=>by
 unfold vv at e;split at e
 .cases e;exact rp (k:=17) Y.f.k9 O Y.f.q150 O (by unfold zL;trivial)
 .cases e;exact rp (k:=17) Y.f.A? O Y.f.q151 O (by unfold yt;trivial)
 .exact(Mf.p (B:=B) (g:=vv 0) c h e).mono O⟩
instance:Mf B 19 "holds" (vv 3):=⟨λc h e=>by
 unfold vv at e;split at e
 .cases e;exact rp (k:=18) Y.f.k9 O Y.f.q150 O (by unfold zL;trivial)
 .cases e;exact rp (k:=18) Y.f.A? O Y.f.q151 O (by unfold yt;trivial)
 .exact(Mf.p (B:=B) (g:=vv 0) c h e).mono O⟩
instance:Mf B 14 "done" zz:=⟨λc h e=>by
 unfold zz at e;split at e
 .cases e;exact rp (k:=13) Y.f.H4 O Y.f.q152 O (by unfold HE;trivial)
 .cases e;exact rp (k:=13) Y.f.E? O Y.f.q153 O (by unfold Jz;trivial)
 .cases e⟩
instance:Df B 10 "is_object" (fu B.G yY):=f? O Y.f.q154 O (by unfold HF;trivial)
instance:Df B 11 "fits_form" (fu B.G DH):=f? O Y.f.q155 O (by unfold HG;trivial)
instance:Df B 12 "is_command" (fu B.G Cq):=f? O Y.f.q156 O (by unfold FU;trivial)
instance:Df B 13 "check_command" (fu B.G yI):=f? O Y.f.q157 O (by unfold CT;trivial)
instance:Df B 20 "fits" (fu B.G GB):=f? O Y.f.q158 O (by unfold Uw;trivial)
instance:Df B 15 "outcome" (fu B.G Aj):=f? O Y.f.q159 O (by unfold Lc;trivial)
instance:Df B 21 "answered" (fu B.G EJ):=f? O Y.f.q160 O (by unfold JA;trivial)
instance:Df B 22 "step" (fu B.G Cr):=f? O Y.f.q161 O (by unfold Ux;trivial)
instance:Df B 10 "objects_of" (ub B.G xO):=T3 O Y.f.q162 O (by unfold yu;trivial)
instance:Df B 11 "commands" (ub B.G Cs):=T3 O Y.f.q163 O (by unfold EK;trivial)
instance:Df B 1 "_law_cell_at" (fu B.G xG):=f? O Y.f.q164 O (by unfold DI;trivial)
instance:Df B 1 "_law_digit" (u7 B.G uN):=gM4 O Y.f.q165 O O (by unfold Ac;trivial)
instance:Df B 1 "_law_named" (ub B.G vx):=T3 O Y.f.q166 O (by unfold FV;trivial)
instance:Df B 3 "_law_things" (u7 B.G Bu):=gM5 ["_law_state", "_law_rooms", "_law_things_here", "_law_holders", "_law_pool", "_law_turn", "_law_k", "_law_name", "_law_words", "_law_kind"] O Y.f.q167 O O (by unfold Bt;trivial)
instance:Df B 3 "_law_marks" (u7 B.G Cu):=gM4 O Y.f.q168 O O (by unfold Ct;trivial)
instance:Df B 2 "_law_ways" (u7 B.G DL):=gM5 ["_law_state", "_law_things_here", "_law_marks_here", "_law_rooms", "_law_doors", "_law_ways_here", "_law_k", "_law_room", "_law_word", "_law_goal", "_law_mark"] O Y.f.q169 O O (by unfold DJ;trivial)
instance:Df B 3 "_law_verbs" (u7 B.G Cw):=gM4 O Y.f.q170 O O (by unfold Cv;trivial)
instance:Df B 2 "_law_term" (u7 B.G wX):=gM4 O Y.f.q171 O O (by unfold ye;trivial)
instance:Df B 2 "_law_mark_term" (u7 B.G wH):=gM4 O Y.f.q172 O O (by unfold wG;trivial)
instance:Df B 3 "_law_marked" (u7 B.G Bv):=gM4 O Y.f.q173 O O (by unfold zE;trivial)
instance:Df B 1 "_law_test" (u7 B.G (wM 0)):=gM4 (k:=0) O Y.f.q174 O O (by trivial)
instance:Df B 4 "_law_test" (u7 B.G (wM 1)):=gM4 (k:=3) O Y.f.q174 O O (by unfold vX;trivial)
instance:Df B 5 "_law_test" (u7 B.G (wM 2)):=gM4 (k:=4) O Y.f.q174 O O (by unfold vX;trivial)
instance:Df B 6 "_law_test" (u7 B.G (wM 3)):=gM4 (k:=5) O Y.f.q174 O O (by unfold vX;trivial)
instance:Df B 3 "_law_deed" (u7 B.G yZ):=gM4 O Y.f.q175 O O (by unfold zM;trivial)
instance:Df B 8 "_law_rules" (u7 B.G CA):=gM5 ["_law_state", "_law_things_here", "_law_marks_here", "_law_verbs_here", "_law_most", "_law_forms", "_law_rules_here", "_law_k", "_law_verb", "_law_form", "_law_tests", "_law_refuses", "_law_deeds"] O Y.f.q176 O O (by unfold Cy;trivial)
instance:Df B 9 "_law_made" (u7 B.G Bc):=gM4 O Y.f.q177 O O (by unfold DM;trivial)
instance:Df B 1 "_law_due" (fu B.G AK):=f? O Y.f.q178 O (by unfold JB;trivial)
instance:Df B 23 "_law_right" (fu B.G zk):=f? O Y.f.q179 O (by unfold FW;trivial)
def Vs:π B (S' (top 174)) "law" (top 174) (vV (top 174)) 23 P4:=by
 unfold P4;refine PN ?_ ?_
 all_goals trivial
end
end K37x
namespace K37x
open PySem L2 L3 L4
def Qw(K:av):Sp:=λd H Q _=>∃(a:Addr) (b:List Int),d=[.ref a]/\gd K H a (b.map V.int)/\b.length<=63/\∀c,Q (.I γ) c
theorem Ln{G:Bg}{H:Hp}:∀a:List Int,uQ G H (a.map D.int) (a.map V.int)
 |[]=>vM
 |n::a=>vR (xt n) (Ln a)
def XF{G:Bg}:∀c H Q E,Qw G.K c H Q E->fu G X7 c H Q E:=λc H Q E h=>by obtain⟨a,b,rfl,i,f,k⟩:=h;refine⟨H,[.R (b.map D.int)],.I γ,ve.refl _,vR (by unfold L4.cb;exact⟨a,_,O,i,Ln b⟩) vM,aca b f,λv e d _ _ _ _ r=>?_⟩;unfold L4.cb at r;subst r;exact k d
section
variable{K:av}{x m q:Str}{st:Stmt}{f C:Addr}{oc:ab}{od:Option Addr}{kV doc pm:ab}{an:Option Addr}{cdv ct:ab}{osl:Array (Option ab)}
def Vt(d:K.lookup f=Z ⟨oc,od,.func (eV x q (y4 st) (vV st) (vt st) .none kV doc pm an cdv ct),osl⟩)(b:hU K cdv q=γ)(c:d9 K (.ref f)=γ):∃a,Fun K x q st f a:=⟨_,⟨_,_,_,_,_,_,_,_,_,O,d,b⟩,c⟩
def gd_mk(h:i7 K bf x=Z (Z (.ref f)))(c:K.lookup f=Z ⟨oc,od,.func (eV x x (y4 st) (vV st) (vt st) .none kV doc pm an cdv ct),osl⟩)(a:hU K cdv x=γ)(b:d9 K (.ref f)=γ):GD K x st:=⟨f,(Vt c a b).imp λ_ F=>⟨h,F⟩⟩
def gm_mk(h:cP K (.ref C) m=Z (Z (.ref f)))(b:j2 K (.ref f)=γ)(d:K.lookup f=Z ⟨oc,od,.func (eV m q (y4 st) (vV st) (vt st) .none kV doc pm an cdv ct),osl⟩)(a:hU K cdv q=γ)(c:d9 K (.ref f)=γ):GM K C m q st:=⟨f,(Vt d a c).imp λ_ F=>⟨h,b,F⟩⟩
end
theorem all_mk{l:hX}{w:az}{K:av}{h:Heap}{p:Str->Option ab}{M:Addr}(X:K.In h)(I:h.Ns bf p)(hfa:p "law" = Z (.ref M)){q r t u x y z A C E b d i j m o:Addr}(F:Fx K q r t u x y z A C E b d i j m o):
  ∃H:bV,(∀(s:ae) (v:ab),hZ s H ⟨[v],[]⟩ [("_law_script", v)])/\∀b?:Heap,K.In b?->b?.Ns bf p->zm l.prog w K p b? H? 24 M H ["_law_script"] (Qw K):=by
 have ro:∃B:Bg,B.K=K/\B.ca 0=q/\B.ca 1=r/\B.ca 2=t/\B.ca 3=u/\B.ca 4=x/\B.ca 5=y/\B.ca 6=z/\B.ca 7=A/\B.ca 8=C/\B.ca 9=E/\B.ca 10=b/\B.ca 11=d/\B.ca 12=i/\B.ca 13=j/\B.ca 14=m/\B.ca 15=o:=⟨⟨K,λc=>[q,r,t,u,x,y,z,A,C,E,b,d,i,j,m,o].getD c 0⟩,O,O,O,O,O,O,O,O,O,O,O,O,O,O,O,O,O⟩;obtain⟨B,rfl,rfl,rfl,rfl,rfl,rfl,rfl,rfl,rfl,rfl,rfl,rfl,rfl,rfl,rfl,rfl,rfl⟩:=ro;have AT:∀b?,Yx ⟨l.prog,w,p,b?,B⟩:=λb?=>⟨⟨h,X,I⟩,F⟩;obtain⟨f,H,a,FF⟩:=F.q180;have e:=hfa.symm.t (i6 X I a);cases e;obtain⟨T,U,kV,doc,W,P,cdv,Q,osl,rfl,R,hcd⟩:=FF.ex;exact⟨_,λs v=>.of_eq O,λb? _ _=>(Te O O O FF (xo (N:=S' (top 174)) (ps:=["_law_script"]) (np:=1) (n:=15) (by kernel_rfl)).1 ((@Vs _ (AT b?)).ok O _)).imp (XF (G:=B))⟩
def walk{l:hX}{q:aH}{loose:aF}{XP:(Str->Option ab)->Heap->Prop}{YP:az->Heap->Prop}{d:DefRec}{K:Params->av}(j:l.most=Z 63)(hdf:d.params.defaults=[])
  (hY:∀(w:az) (h:Heap),YP w h->(K w.params).In h)
  (F:∀(w:az) (b:Str->Option ab) (c:Addr) (h:Heap),(K w.params).In h->h.Ns bf b->b d.name=Z (.ref c)->
   ∃e:bV,(∀(s:ae) (u:ab),hZ s e ⟨[u],[]⟩ [("_law_script", u)])/\∀b?:Heap,(K w.params).In b?->b?.Ns bf b->zm l.prog w (K w.params) b b? H? 24 c e ["_law_script"] (Qw (K w.params))):
  W.WalkO q loose XP YP l.row.toRowW d [] (λf o=>mY f o):=
 L2.VZ (n:=63) (k:=24) (x:="_law_script") (CX:=λ_=>H?) (sp:=λw=>Qw (K w.params)) j (by decide) hdf ⟨O,by decide,by decide⟩ hY F (λ_ _ a m i _ hS=>⟨a,m,O,hS,i,λ_=>O⟩) λ_ _ _ _ _ z=>z
end K37x
set_option maxHeartbeats 0
open PySem PySem.W PyProof.Rows
theorem PySem.Challenge.cw_tellworld_k37_unseen_things_holds : PySem.Challenge.rw_tellworld_k37_unseen_things.Holds := by
 refine hd ?_
 k_fill
 refine K37x.walk (l:=PySem.Challenge.rw_tellworld_k37_unseen_things) rfl rfl (λw h Y=>Y) ?F
 case F=>
  intro w mg fa h KX G hmg;refine' K37x.all_mk KX G hmg ?Q
  case Q=>
   constructor
   all_goals as_aux_lemma=>first
   |k_is
   |kernel_rfl
   |exact⟨⟨⟨by k_is,by k_is,by k_is,by k_is⟩,by k_is,by k_is,by k_is,by k_is⟩,by k_is,by k_is,by kernel_rfl⟩
   |exact⟨_,by k_is⟩
   |exact K37x.gd_mk (by k_is) (by k_is) (by k_is) (by k_is)
   |exact K37x.gm_mk (by k_is) (by k_is) (by k_is) (by k_is) (by k_is)
   |exact⟨_,_,_,_,by k_is,by k_is,by rfl,by rfl,by simp,by repeat' first|exact .nil|exact .cons rfl .nil|refine .cons rfl ?_⟩
   |exact⟨_,_,_,_,[_],_,by k_is,by k_is,⟨⟨_,_,_,_,_,_,_,_,_,rfl,by k_is,by k_is⟩,by k_is⟩,by k_is,by rfl,.cons (by first|rfl|exact⟨_,rfl⟩) .nil⟩
   |exact⟨_,_,_,_,[_,_,_],_,by k_is,by k_is,⟨⟨_,_,_,_,_,_,_,_,_,rfl,by k_is,by k_is⟩,by k_is⟩,by k_is,by rfl,.cons (by first|rfl|exact⟨_,rfl⟩) (.cons (by first|rfl|exact⟨_,rfl⟩) (.cons (by first|rfl|exact⟨_,rfl⟩) .nil))⟩
end
