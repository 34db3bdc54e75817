import PyProof.Rows.All
import Open.Pieces
import OpenK.KLine
import PySem.Challenge.RW_tellworld_k38_whole_one_answer
import PyProof.EqAt
import PyProof.EqKinds
import PyProof.TupleCall
import PyProof.StrWalks
import PyProof.ConsumeWalk
import PyProof.NeKinds
import PyProof.Rows.SetFrom
import KE.KIsAll
import PyProof.WalksMore
import PyProof.TupleKey
import PyProof.DictWalks
import PyProof.Rows.ZipGen
import KE.KDictLaws
import PyProof.DictItems
import KE.KSortTup
import PyProof.TupleOfSeq
import PyProof.Rows.SortStr
import PyProof.Rows.StrInSeq3
import PyProof.TupleIter
import KE.KDictOf
import PyProof.CollectWalk
import PyProof.Rows.SeqMore
set_option genSizeOf false
local macro_rules (kind:=Lean.Parser.Command.declaration)|s=>do
 if s.getPos?.isNone||s[1][1][0].getId.getRoot== `PySem then Lean.Macro.throwUnsupported
 let s:=s.rewriteBottomUp (·.setInfo .none)
 if s[1].getKind∈[``Lean.Parser.Command.definition,``Lean.Parser.Command.abbrev,``Lean.Parser.Command.instance]&&s[0][4].isNone then
  return s.setArg 0 (s[0].setArg 4 (Lean.mkNullNode #[Lean.Syntax.node .none ``Lean.Parser.Command.noncomputable #[Lean.mkAtom "noncomputable"]]))
 return s
set_option compiler.extract_closed false
noncomputable section
open Option renaming some->Z,none->J
open Bool renaming true->γ,false->δ
def O{b:Sort _}{a:b}:a=a:=rfl
open List renaming length_map->ag,length_append->aC,mem_map->au,getElem?_eq_getElem->bh,mem_cons_of_mem->ba,length_cons->aM,mem_cons_self->aX,all_eq_true->aQ,map_cons->aI,mem_append->aV,size_toArray->bg,mem_singleton->bp,mem_filter->aW,mem_cons->aO,mem_append_right->bA,mem_append_left->bJ,map_map->bc,getElem?_map->bB,map_append->bz,getElem?_eq_some_iff->cg,range->aZ,mem_of_getElem?->cj,length_filter_le->cu,getD_eq_getElem?_getD->cY,mem_range->bN,append_assoc->bX,append_nil->bS,length_singleton->cF,getElem?_set->b0,length_take->bY,nodup_append->cn,mem_map_of_mem->cG,replicate->bU,length_replicate->cZ,length_range->cH,not_mem_nil->cA,nil_append->cw,getElem?_append_right->fR,getElem?_append_left->fS,filterMap_cons->eD,nodup_cons->dA,find?_cons->dB,mem_flatMap->dP,getElem?_drop->fj,zip_cons_cons->fo,flatMap_cons->fz,replicate_succ->fT,length_set->eJ,getElem?_eq_none->gL,getElem_mem->fA,length_drop->fC,lookup_cons->fD,any_eq_true->fE,length->dh,length_nil->fF,mergeSort_perm->gO,zipWith_cons_cons->ix,take_of_length_le->iy,lookup->dE,filter_cons->fY,drop_eq_getElem_cons->jo,flatten_cons->gR,mem_of_mem_take->iC,getElem?_replicate->js,length_eq_zero_iff->jt,pairwise_mergeSort->ju,getElem?_set_self->jw,mem_filterMap->iF,map_nil->fK,length_pos_of_mem->jx,all_cons->f9,any_cons->gb,getElem?_toArray->jy,take_sublist->iI,perm_append_singleton->kF,zipWith->gn,map->dH,foldl_cons->iN,length_zip->iO,filter_cons_of_pos->kJ,contains_iff_mem->kK,map_take->iR,getElem?_set_ne->kM,mem_iff_getElem->kN,map_id->hJ,of_mem_zip->jL,length_zipWith->kQ,getElem_of_mem->kR,filter_sublist->kT,map_eq_nil_iff->kU,map_congr_left->kW,ext_getElem?->la,take_add_one->lh,length_erase_of_mem->nZ,getElem_inj->lq,filter_cons_of_neg->oe,cons_append->lE,drop_eq_nil_of_le->oj,filter_eq_nil_iff->oq,zip_append->lQ,filterMap_append->oE,nodup_nil->l5,mem_of_mem_drop->oJ,mem_erase_of_ne->oK,length_eraseIdx->oM,getElem?_range->oT,filter_eq_self->oU,length_pos_iff->oV,map_drop->mi,zip_map'->mm,contains_cons->o8,find?_eq_none->pe,map_filterMap->pf,any_eq_false->pj,foldl_append->pA,pairwise_map->pB,nodup_range->pX,find?_some->qc,foldl->mV,drop_zero->qw,drop_nil->qC,all_map->qJ,map_id'->qP,rec->rq
open PySem renaming wpAny_bind->af,Value->ab,wpAny_pure->ar,Shared->ae,wpAny->ah,starEach->aA,mainGlobals->bf,sizeLine->aG,Program->aH,wpAny_holding->bP,Around->aJ,World->az,compareOp->bw,sizeLine_eq->bQ,Spec->uK,wpAny_setState_of->dg,SetTable->bC,wpAny_truthy_bool->dw,wpAny_Call_Name_kw->dN,wpAny_mono->b8,assignEach->b9,wpAny_newObj_type->dO,codeAny_builtin->dQ,FuncData->bV,backTo->bD,strKind->dU,wpAny_pyIter_list->fV,bootBuiltins->dW,wpAny_call_entry->fX,wpAny_passesOwn->f6,binaryOp->cJ,keywordEach->dY,sysModules->dF,attributeBase->fJ,codeAny->cy,mem_of_lookup->iE,letOwnedTupleGo->gV,wpAny_specialOf->gW,behindInMarks->f7,swapsWith->dG,plainId_quiet->gh,foldedSetIterable->iH,ofAClassStatement->iJ,wpAny_setField->gY,filterMap_getElem?_range->kI,tupleKind_room_in1->jD,codeAny_mono->hE,NameKind->d8,call_meetsIn->hG,wpAny_Call_method->jF,wpAny_storeSet_of->jJ,Builtin->dJ,wpAny_execs_nil->jK,isSubtype_type->jN,wpAny_rule->hX,Scope->cK,wpAny_standAt->jO,GenState->gu,wpAny_callSpecial?_slot->n8,wpAny_forIn_list->lu,wpAny_askSetting->ly,Paired->hZ,wpAny_pyNext_list_item->og,wpAny_typeOf->jQ,Keyword->fM,call_meets->iZ,wpAny_updateSeq->lX,wpAny_isTrue_Compare1->ou,wpAny_pyNext_list_end->ox,wpAny_eqIsQuiet_tuple->oA,builtinLookup_eq_fast->oF,carriedByValue->lZ,wpAny_seqItems->l3,codeAny_call_builtin->oI,typeIs_none->jU,wpAny_newList->mh,wpAny_pyIter_tuple->o4,wpAny_call->jW,IsPart->fN,Within->mw,BindsTo->ic,seqIndex_neg->mH,slot_list_getitem->px,wpAny_pyIter_slot->pG,fits_of_scanBound->pH,wpAny_setEpoch_of->pI,wpAny_pyHash_str->pL,wpAny_execs_cons->pM,PassesOwn->jX,Result->gv,noFill_tuple_add->pO,wpAny_isInstance->pY,wpAny_field->mM,seqIndex_of->mN,codeAny_of_tree->p8,typeLookup_type->qe,wpAny_Name->mR,typeIs_int->mT,PlainAttrs->mU,meets_dict_get->qm,call->mW,wpAny_runValue->qo,boot_len->qp,wpAny_newTuple->qq,entryFor_alias->qv,KeyKind->qx,intBits_le_64->qy,seq_tuple_add->qz,evalPart_none->qA,call_list_seq->qB,signature?_of->qE
open PySem.Heap renaming get?_push_of_some->aK,get?_push_size->bx,lt_size->aR,size_push->dc,get?_update_self->fi,get?_update_other->gH,SameBut->dD,ExtBut->q9
open Bool renaming and_eq_true->aY,false_ne_true->bu,eq_iff_iff->c9,false_eq_true->eG,not_eq_true'->fw,eq_false_iff->jH,or_eq_false_iff->kO,or_eq_true->jM,noConfusion->lD,not_eq_true->pW,and_false->ql,true_and->qF,not_not->qO,rec->m5
open Nat renaming le_refl->aN,ne_of_lt->bb,lt_of_lt_of_le->cv,le_trans->bG,zero_le->cp,lt_succ_self->dy,lt_succ_of_lt->eI,lt_irrefl->eK,le_of_ble_eq_true->iA,le_add_right->gU,ble_eq->eO,ne_of_gt->gm,lt_of_le_of_lt->jE,le_succ->gp,mod_lt->gq,le_of_lt->iU,min_self->iV,ble->eT,add_right_comm->oX,zero_add->mr,succ_pos->mI,le_of_lt_succ->pC,le_of_succ_le->pK,min_le_right->pS,le_of_not_lt->pU,min_eq_left->qg,beq->i4,le_of_eq->qH,sub_self->qI,pow_succ->qM
open Array renaming length_toList->bM,getD_eq_getD_getElem?->gB,getElem?_toList->iz,getElem?_eq_getElem->jq,getElem?_eq_some_iff->nU,perm_iff_toList_perm->nV,toList_push->lj,size_eq_one_iff->oG,forIn_toList->o9,replicate->qd,size_map->qu,toList->qG,map->rj
open PySem.W renaming Frag->av,kia_one->cO,emptyDict->dX,findIn->cP,kitOne->di,instObj->eQ,keepIn->dZ,kitx_list->iX,kitx_dict->jS,fnOf->eU,codeIn->ia,OpenLaw->ib,plainGet_of->l8,callWith_K0->ma,plainGet->jV,kitx_tuple->mx,callWith_K->mG,cellsFrom_some->pN,methodObj->mJ,hasDictIn->mK,methodCall_KW->p6,mg_of->i7,lookIn->jY,looks_findIn->qj,kas_sort->jZ,makes_of->mX,takerIn->mY,makesIn->mZ,kas_ask->j1,nsIn->i8,plainOver->qS,make_core->qT,specialIn->qU,kitx_none->qV,kitx_bool->qW,isFn->j2
open Int renaming eq_ofNat_of_zero_le->cE,toNat_natCast->gQ,emod_lt_of_pos->iG,emod_nonneg->iP,toNat_of_nonneg->oW
open PyProof.Rows.F renaming plain_set_update_loop->dM,entry_set_update_loop->gG
open Option.some renaming inj->cI,injEq->uD
open PySem.Heap.SameBut renaming update->dv,refl->uG
open PySem.SetTable.layClean renaming free->eB
open PySem.Around renaming under_plainId->eC,under->mC
open Prod renaming snd->bI,fst->cQ
open PySem.SetTable renaming bits->cM,below->dR,grown->dS,runEnd->fH,Probe->fI,insertAt->gS,turns->gX,fits->iQ,advance->lC,insertAt_perm->oo,laid->mj,fill->ml,layClean->pE,has->qL
open PySem.Calls renaming spliced_cons->eE,spliced_nil->fW,callWith_builtin->iw,evalArgs_plain->iB,Name_function_global->nS,call_function_entry->nW
open PySem.Builtin.List renaming listTooLong->gE,listExtendWith->nQ,listLengthHint->nR,listSameRef->n4
open PySem.Obj renaming data_mapFields->fq,mapSeq->cN,mapFields->gj,isFreed_of_fields->jz,putSet->hU,cls_mapFields->lp
open Classical renaming propDecidable->iu,byContradiction->nX
open False renaming elim->de
open PySem.F renaming slot_dict_get->fG,called_set->fL,slot_NoneType_hash->jB,entry_dict_get->iM,slot_list_extend->jC,plainAttrs_dict->jG,plainAttrs_list->jI,sub_list_frozenset->kP,slot_list_append->kY,args_dict_get_2->lg,slot_dict_setdefault->om,type_dict_get->lI,args_list_extend_2->oH,sub_list_set->l4,entry_list_extend->oR,args_tuple_add_2->o6,type_list_append->pb,type_list_extend->pd,entry_tuple_add->pq,args_dict_get_3->pz,plain_list_iadd->pJ,slot_tuple_add->pQ,slot_int_rmul->pZ,plain_set_new->p9,slot_set_iter->qf
open PyProof.Rows renaming slot_tuple_getitem->jm,StrsAre->jA,AllBare->eS,subscriptTail_builtinR->oh,boot_isinstance->lY,listUpdate_at->mf,seqEpoch_at->mO,boot_sorted->mQ,get?_update_seq->qa,entry_list_sort->qb,IntsAre->i6,slicePart_none->qk,Subscript_->mS,slot_list_sort->qr,args_list_sort->qt,IsTup->gw,lt_str->uw
open PySem.Builtin.Slice renaming slicePlaces->jn,sliceAdjust->kG,sliceApplied->nT,slicePartIndex->sF,sliceFields->sV
open Option renaming map_some->fZ,bind_eq_some_iff->jv,getD_none->pT,getD_some->pV,map->rb
open PySem.Builtin.Tuple renaming tupleExact->jr,tupleItemsOf->sH
open PySem.SetTable.probe renaming go->iK
open PySem.Value renaming isStrOf->gZ,isInt->qR
open List.Perm renaming eq_of_pairwise->kH
open Ne renaming symm->dj
open Nat.succ renaming inj->iW
open LawfulBEq renaming eq_of_beq->gr
open PySem.SeqAt.EqAt renaming str_str->kX,of_refs->kZ,same->lG,none_int->oN,none_str->oO,int_none->oP,str_none->oQ,int_str->oY,str_int->oZ,tuple_none->tQ,tuple_bool->tR,tuple_list->tS,list_tuple->tT,none_tuple->tU,bool_tuple->tV,none_bool->tW,bool_none->tX,bool_bool->tY,tuple_int->tZ,tuple_str->ua,list_none->uc,list_bool->ud,none_list->ue,bool_list->uf,int_tuple->ug,str_tuple->uh,bool_int->ui,bool_str->uj,int_bool->uk,str_bool->um,list_int->uo,list_str->uq,int_list->ur,str_list->uu,int_int->uy
open PySem.AutoSeq1 renaming wpAny_loadPart'->nY
open PySem.SeqAt renaming eq_list_lengthsAt->oa,EqAt->iY,notIn_listAt->o7
open PySem.Str renaming ofString->jP
open PySem.Walks renaming list->i3
open Sum.inr renaming inj->jR
open PySem.Moved renaming trans->jT
open PySem.Paired renaming length->l7,snoc->qY
open PySem.Shared renaming TypeIs->md
open PySem.Heap.IsList renaming extBut->ph
open PySem.Code renaming isFrame->mF,frames->qX
open PySem.SetTable.below renaming go->pF
open PySem.Builtin.Frozenset renaming updateFrom->sG,newClass->sJ,sizeOf->tL,slot0->tP
open PySem.PassesOwn renaming never->qh
open PySem.SeqAt.RcNeAt renaming lists_lengths->sI,tuples->uv,lists->uz
open PySem.EqNone renaming eq_none_none->sL,eq_none_bool->sM,eq_bool_none->sN,ne_none_none->sQ,ne_none_bool->sR,ne_bool_none->sS,eq_none_int->sW,eq_none_str->sX,eq_int_none->sY,eq_str_none->tu,ne_none_int->tD,ne_none_str->tE,ne_int_none->tG,ne_str_none->tI
open PySem.EqMixed renaming eq_bool_str->sO,eq_str_bool->sP,ne_bool_str->sT,ne_str_bool->sU,eq_int_str->sZ,eq_str_int->tw,ne_int_str->tH,ne_str_int->tJ
open PySem.SeqAt.RcAt renaming lists_lengths->tK,tuples->uE,lists->uI
open PySem.Pv renaming boot_tuple->qD,boot_list->qK,boot_set->qZ,boot_int->q8
open PySem.Builtin.Range renaming rangeSize->tN
open PyProof.Rows.IsTup renaming new->m3
open PySem.pickOrder renaming go->qN
open Prod.mk renaming inj->qQ
open PySem.Heap.IsSliceOf renaming new->ux
open PySem.W.WShape renaming has->ra
open List.Sublist renaming nodup->uA,refl->uH
open PySem.Within renaming cons->uC
open PySem.Txt renaming mul->m6
open List.Pairwise renaming map->uF
open PySem.Heap.DictOf renaming new->uJ
def aT:=@decide_eq_false
def aj:=@if_pos
def ao:=@if_neg
def aU:=@decide_eq_true
def aq:=@absurd
def bF:=@of_decide_eq_true
def bT:=@decide_eq_true_eq
def bH:=@congrArg
def Eq.t:=@Eq.trans
def Iff.t:=@Iff.trans
def List.Perm.t:=@List.Perm.trans
def PySem.Heap.SameBut.t:=@PySem.Heap.SameBut.trans
def PySem.Moved.t:=@PySem.Moved.trans
abbrev cD:=List (PySem.Addr×PySem.Obj)
abbrev aE:=List PySem.Str
set_option Elab.async false
set_option linter.all false
namespace L5
open PySem PySem.W
noncomputable def pick(l:List Obj):Nat->List Addr->List Obj:=
 @rq Obj (λ_=>Nat->List Addr->List Obj) (λ_ _=>[])
  (λo _ b i as=>@rq Addr (λ_=>List Obj) [] (λa r _=>@m5 (λ_=>List Obj) (b (Nat.succ i) as) (o::b (Nat.succ i) r) (i4 a i)) as) l
def Sh(i:Nat)(as:List Addr):pick [] i as=[]:=rfl
def VP(o:Obj)(l:List Obj)(i:Nat)(r:List Addr):pick (o::l) i (i::r)=o::pick l (i+1) r:=by show @m5 (λ_=>List Obj) _ _ (i4 i i)=_;rw[Nat.beq_refl];rfl
def VQ(o:Obj)(l:List Obj)(i a:Nat)(r:List Addr)(h:a≠i):pick (o::l) i (a::r)=pick l (i+1) (a::r):=by
 show @m5 (λ_=>List Obj) _ _ (i4 a i)=_;have:i4 a i=δ:=by
  cases q:i4 a i with
  |false=>rfl
  |true=>exact aq (Nat.eq_of_beq_eq_true q) h
 rw[this];rfl
theorem LC:∀(l:List Obj) (i:Nat) (as:List Addr),(pick l i as).length=as.length->∀j (c:j<as.length),∃b,as[j]=i+b/\l[b]?=(pick l i as)[j]?
 |[],i,as,h,j,c=>by rw[Sh]at h;simp at h;omega
 |o::l,i,[],h,j,c=>by simp at c
 |o::l,i,a::r,h,j,c=>by
  by_cases q:a=i
  .subst q;rw[VP]at h ⊢;cases j with
   |zero=>exact⟨0,O,O⟩
   |succ j=>obtain⟨b,d,e⟩:=LC l (a+1) r (by simpa using h) j (by simpa using c);exact⟨b+1,by rw[List.getElem_cons_succ,d];exact oX a 1 b,by simpa using e⟩
  .rw[VQ _ _ _ _ _ q]at h ⊢;obtain⟨b,d,e⟩:=LC l (i+1) (a::r) h j c;exact⟨b+1,by rw[d];exact oX i 1 b,by simpa using e⟩
def live(o:Obj):Bool:=match o with|⟨_,_,.freed,_⟩=>δ|_=>γ
def VR{h:Heap}{as:List Addr}{K:Frag}(e:as=K.map (·.1))(x:(pick h.objs.toList 0 as,K.all λp=>live p.2)=(K.map (·.2),γ)):K.In h:=by
 obtain⟨i,r⟩:=qQ x;refine Frag.in_of e (la λj=>?_);rw[bB,bB];by_cases a:j<as.length
 .have q:(pick h.objs.toList 0 as).length=as.length:=by rw[i,e,ag,ag]
  obtain⟨b,l,m⟩:=LC _ _ _ q j a;have f:j<K.length:=by rw[e,ag]at a;exact a
  rw[bh a,bh f,fZ,fZ,l,mr];have o:h.objs[b]?=Z (K[j].2):=by rw[<-iz,m,i,bB,bh f];rfl
  have lv:live K[j].2=γ:=aQ.1 r _ (fA f);refine bH Z ?_;unfold Heap.get?;rw[o];revert lv;cases K[j].2 with
  |mk c d data t=>cases data<;>intro lv<;>first|rfl|cases lv
 .rw[gL (by omega),gL (by rw[e,ag]at a;omega)];rfl
noncomputable def acz(K:Params->Frag) (as:List Addr) (e:∀P,as=(K P).map (·.1)):Hook:=
 ⟨List Obj×Bool,λs=>(pick s.heap.objs.toList 0 as,γ),λw=>((K w.params).map (·.2),(K w.params).all λp=>live p.2),InK K,λw s x=>VR (e w.params) (by
  obtain⟨a,b⟩:=qQ x;rw[a,<- b]),InK.keeps⟩
end L5
section
open PySem PySem.W PyProof.Rows
local macro_rules|`(tactic|o_head ($f:ident $k $as $e))=>`(tactic|o_head ((L5.acz $k $as (fun _=>by kernel_rfl)):W.Hook))
local macro_rules|`(command|#where)=>do
 let mut r:=#[]
 for n in [43:1716] do
  let x:=Lean.mkIdent (.mkSimple s!"tw{((Lean.Name.mkSimple "hd").str s!"o_{n}").hash}")
  r:=r.push ((<-`(command|noncomputable def $x:ident:=0)).raw.rewriteBottomUp (·.setInfo .none))
 return Lean.mkNullNode r
noncomputable section
namespace PySem.W.Fast
def tw6626513304341453376:=0
def tw16619731068620839264:=0
def tw914978868357787137:=0
def tw5969007393038138051:=0
def tw5206261509915126563:=0
def tw10908583292746523781:=0
def tw4666538515292985638:=0
def tw4938231688903256454:=0
def tw11982224910624744456:=0
def tw5434082077207275784:=0
def tw10374632558016547081:=0
def tw2065747725244365547:=0
def tw938635154573522699:=0
def tw5065591819665991627:=0
def tw891441721716939596:=0
def tw8726500145642417389:=0
def tw15571160114819135117:=0
def tw5607698405151115213:=0
def tw6300683209687049262:=0
def tw7774113678449685934:=0
def tw11502723521405224942:=0
def tw6005516259926072527:=0
def tw12926932280828267440:=0
def tw11018145951921344529:=0
def tw8043027943769002162:=0
def tw14761691873820075506:=0
def tw13359257691425115219:=0
def tw861502493610598483:=0
def tw13547367650686939507:=0
def tw11284616107681220019:=0
def tw2259873961697373779:=0
def tw4549447344703680948:=0
def tw9942562575998753845:=0
def tw16729077633258034165:=0
def tw2495115493620250326:=0
def tw14180241730563858807:=0
def tw17643660023018599961:=0
def tw16403141144237380013:=0
def tw15273569614581184496:=0
def tw2756987226419365412:=0
def tw1761937444574219286:=0
def tw16176342278227838379:=0
def tw8840479841563251239:=0
def tw3760211714889780888:=0
def tw15575547313140297934:=0
def tw13347621489011750686:=0
def tw8997383693586321770:=0
def tw10738824910133788610:=0
def tw7889140689732048356:=0
def tw372232169308100972:=0
def tw14510449987592229812:=0
#where
end PySem.W.Fast
end
def zvp:=PySem.Challenge.pw_tellworld_k38_whole_one_answer
noncomputable def zvq:=PySem.W.view zvp [175]
local macro_rules|`(tactic|refine $t)=>do
 if t.raw[0].getId != ``PySem.W.holds_open||t.raw[1][0][3].getId.eraseMacroScopes== `zvq then Lean.Macro.throwUnsupported
 let n:=fun (i:Nat) (x:Lean.Term) (a:Array Lean.Syntax)=>a.set! i (a[i]!.setArg 3 x)
 `(tactic|refine $(Lean.TSyntax.mk (t.raw.setArg 1 (Lean.mkNullNode (n 0 (<-`(zvq)) (n 1 (<-`(zvp.boundNames)) (n 2 (<-`(fun s=>PySem.W.xlAt zvq [] s&&PySem.W.recOk [] s)) (n 3 (<-`(PySem.W.XL zvq [])) t.raw[1].getArgs))))))))
set_option maxRecDepth 100000 in
set_option maxHeartbeats 0 in
open_top hd for PySem.Challenge.rw_tellworld_k38_whole_one_answer
end
set_option maxRecDepth 100000
namespace L2
open PySem PySem.Spec PyProof.Rows
abbrev fh:=Sum Int Str
def Iy:fh->ab->Bool
 |.inl k,v=>qR k v
 |.inr x,v=>gZ x v
def keyH(w:az):fh->Int
 |.inl k=>hashInt k
 |.inr x=>hashStr w x
def wj:∀{k:fh} {v:ab},Iy k v=γ->(∃i t,k=Sum.inl i/\v=Value.int i t)\/(∃x t,k=Sum.inr x/\v=Value.str x t)
 |.inl i,v,h=>by obtain⟨t,e⟩:=Value.isInt_shape (k:=i) (v:=v) h;exact .inl ⟨i,t,O,e⟩
 |.inr x,v,h=>by obtain⟨t,e⟩:=Value.isStrOf_shape (x:=x) (v:=v) h;exact .inr ⟨x,t,O,e⟩
def QN(i:Int)(t:Tok):Iy (.inl i) (.int i t)=γ:=by simp[Iy,qR]
def QO(x:Str)(t:Tok):Iy (.inr x) (.str x t)=γ:=by simp[Iy,gZ]
def YJ(a b:Int):decide ((Sum.inl a:fh)=Sum.inl b)=(a==b):=by
 by_cases e:a=b
 .subst e;simp
 .have h:¬(Sum.inl a:fh)=Sum.inl b:=λq=>e (Sum.inl.inj q);rw[aT h];exact(beq_eq_false_iff_ne.2 e).symm
def YK(a b:Str):decide ((Sum.inr a:fh)=Sum.inr b)=decide (a=b):=by
 by_cases e:a=b
 .subst e;simp
 .have h:¬(Sum.inr a:fh)=Sum.inr b:=λq=>e (jR q);rw[aT h,aT e]
def YL(a:Int)(b:Str):decide ((Sum.inl a:fh)=Sum.inr b)=δ:=aT (λq=>nomatch q)
def YM(a:Str)(b:Int):decide ((Sum.inr a:fh)=Sum.inl b)=δ:=aT (λq=>nomatch q)
def vF(prog:aH)(w:az):qx prog w fh where
 is:=Iy
 hash:=keyH w
 inj:=λv a b ha hb=>by
  rcases wj ha with ⟨i,t,rfl,rfl⟩|⟨x,t,rfl,rfl⟩
  .rcases wj hb with ⟨j,u,rfl,e⟩|⟨y,u,rfl,e⟩
   .injection e with c _;rw[c]
   .exact nomatch e
  .rcases wj hb with ⟨j,u,rfl,e⟩|⟨y,u,rfl,e⟩
   .exact nomatch e
   .injection e with c _;rw[c]
 byValue:=λk v h=>by rcases wj h with ⟨i,t,rfl,rfl⟩|⟨x,t,rfl,rfl⟩<;>rfl
 pyHash:=λd h=>by
  rcases wj d with ⟨i,t,rfl,rfl⟩|⟨x,t,rfl,rfl⟩
  .exact wpAny_pyHash_int h
  .exact pL h
 eqBool:=λf d h=>by
  rcases wj f with ⟨i,t,rfl,rfl⟩|⟨x,t,rfl,rfl⟩
  .rcases wj d with ⟨j,u,rfl,rfl⟩|⟨y,u,rfl,rfl⟩
   .rw[YJ]at h;exact wpAny_eqBool_int h
   .rw[YL]at h;exact oY i t y u _ _ _ _ h
  .rcases wj d with ⟨j,u,rfl,rfl⟩|⟨y,u,rfl,rfl⟩
   .rw[YM]at h;exact oZ x t j u _ _ _ _ h
   .rw[YK]at h;exact wpAny_eqBool_str h
 «strs»:=λk x t v h=>by
  rcases wj h with ⟨i,u,rfl,e⟩|⟨y,u,rfl,e⟩
  .exact nomatch e
  .injection e with c _;subst c;cases v<;>rfl
def MM(prog:aH)(w:az)(i:Int)(t:Tok):(vF prog w).is (.inl i) (.int i t)=γ:=QN i t
def MN(prog:aH)(w:az)(x:Str)(t:Tok):(vF prog w).is (.inr x) (.str x t)=γ:=QO x t
inductive V where
 |E|I (b:Bool)|int (i:Int)|str (x:Str)|U (b:Array UInt8)|flt (b:UInt64)|ref (a:Addr)|ty (n:String)
 deriving DecidableEq
abbrev bL:=List V
def e8:V->ab->Prop
 |.E,u=>u=Value.none
 |.I b,u=>u=Value.bool b
 |.int i,u=>∃t,u=Value.int i t
 |.str x,u=>∃t,u=Value.str x t
 |.U b,u=>∃t,u=Value.bytes b t
 |.flt b,u=>∃t,u=Value.float b t
 |.ref a,u=>u=Value.ref a
 |.ty n,u=>u=Value.type n
abbrev er:bL->List ab->Prop:=hZ e8
theorem er.length(r:er xs a):xs.length=a.length:=l7 r
theorem er.get:∀{b:bL} {a:List ab} {i:Nat} {x:V},er b a->b[i]?=Z x->∃u,a[i]?=Z u/\e8 x u
 |_,_,_,_,.nil,e=>by simp at e
 |_,_,0,_,.cons r _,e=>by simp at e;subst e;exact⟨_,O,r⟩
 |_,_,i+1,x,.cons _ t,e=>by obtain⟨u,c,d⟩:=er.get (i:=i) (x:=x) t (by simpa using e);exact⟨u,by simpa using c,d⟩
theorem er.set(r:e8 x u):∀{b:bL} {a:List ab} (i:Nat),er b a->er (b.set i x) (a.set i u)
 |_,_,_,.nil=>.nil
 |_,_,0,.cons _ t=>.cons r t
 |_,_,i+1,.cons q t=>.cons q (er.set r i t)
theorem er.append:∀{b c:bL} {a ws:List ab},er b a->er c ws->er (b++c) (a++ws)
 |_,_,_,_,.nil,s=>s
 |_,_,_,_,.cons r t,s=>.cons r (er.append t s)
theorem er.take:∀{xs:bL} {a:List ab} (n:Nat),er xs a->er (xs.take n) (a.take n)
 |_,_,0,_=>.nil
 |_,_,_+1,.nil=>.nil
 |_,_,n+1,.cons r t=>.cons r (er.take n t)
theorem er.drop:∀{xs:bL} {a:List ab} (n:Nat),er xs a->er (xs.drop n) (a.drop n)
 |_,_,0,r=>r
 |_,_,_+1,.nil=>.nil
 |_,_,n+1,.cons _ t=>er.drop n t
def Da:Option V->Option ab->Prop
 |some v,Z u=>e8 v u
 |none,J=>True
 |_,_=>False
def KV{a:Type}:List (a×V)->List (a×ab)->Prop:=hZ λ(p:a×V) (q:a×ab)=>p.1=q.1/\e8 p.2 q.2
def kV:fh->V
 |.inl i=>.int i
 |.inr x=>.str x
inductive HO where
 |bt (xs:bL)
 |d? (xs:bL)
 |dK (kvs:List (fh×V))|dT (kvs:List (List fh×V))
 |set (S:Int->Bool) (n:Nat)
 |nr (C dx:Addr) (fs:List (Str×V))
 |jj (x:Addr)
 |xd (fs:List (Str×V))
 |met (f x:Addr)
 |rng (lo hi:Int)
 |o? (o:Obj) (u:HO)
 |tbl (ps:Array ab)
 |ext (φ:Heap->Prop)
abbrev Hp:=Addr->Option HO
def fl(H:Hp)(a:Addr)(o:HO):Hp:=λb=>if b=a then Z o else H b
def ve:fl H a o a=Z o:=by unfold fl;rw[aj O]
def vt(h:b≠a):fl H a o b=H b:=by unfold fl;rw[ao h]
def acB{H:Hp}{a b:Addr}{o u:HO}(h:H a=Z o)(c:H b=Z u)(d:o≠u):a≠b:=by intro e;subst e;rw[h]at c;exact d (cI c)
def yc{H:Hp}{a b:Addr}{o:HO}(h:H a=Z o)(c:H b=J):a≠b:=by intro e;subst e;rw[h]at c;cases c
section
variable(P:aH)(w:az)
def wL(H:Hp)(h:Heap)(a:Addr):HO->Prop
 |.bt c=>c.length<=aG/\∃(b:List ab) (n:Nat),er c b/\h.get? a=Z { cls:=.type "list", data:=.seq b.toArray n }
 |.d? c=>c.length<=aG/\∃b:List ab,er c b/\gw h a b.toArray
 |.dK kvs=>kvs.length<=aG/\(a==dF)=δ/\∃m,KV kvs m/\h.DictOf (vF P w) a m
 |.dT kvs=>kvs.length<=aG/\(a==dF)=δ/\∃c:List (List fh×Addr×ab),
   hZ (λ(p:List fh×V) (q:List fh×Addr×ab)=>p.1=q.1/\H q.2.1=Z (.d? (p.1.map kV))/\e8 p.2 q.2.2) kvs c/\
   ∃o i r,h.get? a=Z o/\o.ExactDict/\o.data=.dict i r/\i.toList=c.map (entryOfKey (tupleKind (vF P w)))/\(c.map (·.1)).Nodup
 |.set S n=>h.SetOf (intKind P w) a S n
 |.nr C d fs=>H d=Z (.jj a)/\fs.length<=1000/\d≠a/\h.get? a=Z (eQ C d)/\
   ∃mA,h.Ns1 d mA/\(∀f,Da (fs.lookup f) (mA f))/\mw mA (fs.map (·.1))
 |.jj _=>∃o,h.get? a=Z o
 |.xd fs=>∃mA,h.Ns1 a mA/\∀f,Da (fs.lookup f) (mA f)
 |.rng lo y=>∃t u v,h.get? a=Z { cls:=.type "range", data:=.fields #[.int lo t,.int y u,.int 1 v] }
 |.o? o u=>h.get? a=Z o/\wL H h a u
 |.tbl z=>h.get? a=Z { cls:=.none,data:=.fields z }
 |.met f x=>h.get? a=Z (mJ (.ref f) (.ref x))
 |.ext e=>e h/\(∃o,h.get? a=Z o)/\∀j l:Heap,e j->(∀o,j.get? a=Z o->l.get? a=Z o)->e l
def rr(H:Hp)(h:Heap):Prop:=∀a o,H a=Z o->wL P w H h a o
end
section
variable{P:aH}{w:az}{H H':Hp}{h h':Heap}{a:Addr}{o:HO}
theorem wL.lt(x:wL P w H h a o):a<h.objs.size:=by
 cases o with
 |bt b=>obtain⟨_,_,_,_,e⟩:=x;exact aR e
 |d? b=>obtain⟨_,_,_,p⟩:=x;exact p.lt
 |dK kvs=>obtain⟨_,_,_,_,o,_,_,e,_⟩:=x;exact aR e
 |dT kvs=>obtain⟨_,_,_,_,o,_,_,e,_⟩:=x;exact aR e
 |set S n=>obtain⟨o,_,_,_,e,_⟩:=x;exact aR e
 |nr C c fs=>obtain⟨_,_,_,e,_⟩:=x;exact aR e
 |jj y=>obtain⟨_,e⟩:=x;exact aR e
 |xd fs=>obtain⟨_,⟨_,_,_,e,_⟩,_⟩:=x;exact aR e
 |rng lo d=>obtain⟨_,_,_,e⟩:=x;exact aR e
 |o? i u=>obtain⟨e,_⟩:=x;exact aR e
 |tbl j=>exact aR (show h.get? a=Z _ from x)
 |met f y=>exact aR (show h.get? a=Z _ from x)
 |ext l=>obtain⟨_,⟨_,e⟩,_⟩:=x;exact aR e
theorem Paired.mapP{e i:Type}{F G:e->i->Prop}:∀{c:List e} {d:List i},hZ F c d->(∀a b,F a b->G a b)->hZ G c d
 |_,_,.nil,_=>.nil
 |_,_,.cons r t,f=>.cons (f _ _ r) (Paired.mapP t f)
def wL.stay(x:wL P w H h a o)(k:∀b u,(b=a\/H b=Z (.jj a))->h.get? b=Z u->h'.get? b=Z u)
  (G:∀b,H b=Z (.jj a)->H' b=Z (.jj a)) (I:∀b A,H b=Z (.d? A)->H' b=Z (.d? A)):wL P w H' h' a o:=by
 induction o with
 |bt A=>obtain⟨z,m,n,r,e⟩:=x;exact⟨z,m,n,r,k _ _ (.inl O) e⟩
 |d? A=>obtain⟨z,m,r,i,e,c⟩:=x;exact⟨z,m,r,i,k _ _ (.inl O) e,c⟩
 |dK kvs=>obtain⟨z,y,Q,r,i,l,j,e,c⟩:=x;exact⟨z,y,Q,r,i,l,j,k _ _ (.inl O) e,c⟩
 |dT kvs=>obtain⟨z,y,A,r,i,l,j,e,c⟩:=x;exact⟨z,y,A,Paired.mapP r λp q z=>⟨z.1,I _ _ z.2.1,z.2.2⟩,i,l,j,k _ _ (.inl O) e,c⟩
 |set S n=>obtain⟨i,l,j,t,e,c⟩:=x;exact⟨i,l,j,t,k _ _ (.inl O) e,c⟩
 |nr C R fs=>obtain⟨d,z,N,e,mA,⟨B,l,j,F,c⟩,r⟩:=x;exact⟨G _ d,z,N,k _ _ (.inl O) e,mA,⟨B,l,j,k _ _ (.inr d) F,c⟩,r⟩
 |jj y=>obtain⟨i,e⟩:=x;exact⟨i,k _ _ (.inl O) e⟩
 |xd fs=>obtain⟨mA,⟨B,l,j,e,c⟩,r⟩:=x;exact⟨mA,⟨B,l,j,k _ _ (.inl O) e,c⟩,r⟩
 |rng lo T=>obtain⟨t,u,v,e⟩:=x;exact⟨t,u,v,k _ _ (.inl O) e⟩
 |o? i u M=>obtain⟨e,q⟩:=x;exact⟨k _ _ (.inl O) e,M q⟩
 |tbl E=>have e:h.get? a=Z { cls:=.none,data:=.fields E }:=x;show h'.get? a=Z { cls:=.none,data:=.fields E };exact k a _ (.inl O) e
 |met f y=>have e:h.get? a=Z (mJ (.ref f) (.ref y)):=x;show h'.get? a=Z (mJ (.ref f) (.ref y));exact k a _ (.inl O) e
 |ext U=>obtain⟨p,⟨o,e⟩,st⟩:=x;exact⟨st _ _ p λo q=>k _ _ (.inl O) q,⟨o,k _ _ (.inl O) e⟩,st⟩
theorem rr.lt(x:rr P w H h)(e:H a=Z o):a<h.objs.size:=(x a o e).lt
def rr.fresh(x:rr P w H h)(e:h.objs.size<=a):H a=J:=by
 cases q:H a with
 |none=>rfl
 |some u=>exact aq (cv (x.lt q) e) (eK _)
def rr.g?(x:rr P w H h)(k:∀b u,h.get? b=Z u->h'.get? b=Z u):rr P w H h':=λa o e=>
 (x a o e).stay (λb u _ q=>k b u q) (λ_ q=>q) λ_ _ q=>q
def rr.laid(x:rr P w H h)(k:∀b u,h.get? b=Z u->h'.get? b=Z u)(i:h.objs.size<=a)(new:wL P w (fl H a o) h' a o):rr P w (fl H a o) h':=λb u e=>by
 have f:=x.fresh i;by_cases d:b=a
 .subst d;rw[ve]at e;cases e;exact new
 .rw[vt d]at e;exact(x b u e).stay (λc v _ q=>k c v q) (λc q=>by rw[vt (yc q f)];exact q) λc j q=>by rw[vt (yc q f)];exact q
end
def Rd(H:Hp)(a:Addr)(u:HO):Prop:=H a=Z u\/∃o,H a=Z (.o? o u)
def Rd.ok(r:Rd H a u)(x:rr P w H h):wL P w H h a u:=by
 rcases r with r|⟨o,r⟩
 .exact x a u r
 .obtain⟨_,q⟩:=x a _ r;exact q
def Mut:Option HO->Prop
 |some (.bt _)=>True
 |some (.dK _)=>True
 |some (.dT _)=>True
 |some (.set _ _)=>True
 |some (.nr _ _ _)=>True
 |some (.ext _)=>True
 |_=>False
section
variable{P:aH}{w:az}{H:Hp}{h h':Heap}{x e:Addr}{o':HO}
def rr.vr(ok:rr P w H h)(f:Mut (H x))(j:e=x\/H e=Z (.jj x))(k:∀b u,b≠e->h.get? b=Z u->h'.get? b=Z u)(heo:∃u,h'.get? e=Z u)
  (new:wL P w (fl H x o') h' x o'):rr P w (fl H x o') h':=λb u q=>by
 have nown:∀c y,H c=Z (.jj y)->c≠x:=λc y r z=>by subst z;rw[r]at f;exact f
 have ntup:∀c i,H c=Z (.d? i)->c≠x:=λc i r z=>by subst z;rw[r]at f;exact f
 by_cases a:b=x
 .subst a;rw[ve]at q;cases q;exact new
 .rw[vt a]at q;by_cases hbe:b=e
  .have l:H b=Z (.jj x):=by
    rcases j with z|z
    .exact aq (hbe.t z) a
    .rw[hbe];exact z
   rw[q]at l;cases l;obtain⟨v,m⟩:=heo;exact⟨v,by rw[hbe];exact m⟩
  .refine(ok b u q).stay (λc v d r=>k c v ?_ r) (λc r=>by rw[vt (nown c b r)];exact r) λc i r=>by rw[vt (ntup c i r)];exact r
   rcases d with rfl|d
   .exact hbe
   .rintro rfl;rcases j with z|z
    .exact nown c b d z
    .rw[d]at z;cases z;exact a O
end
structure Un(fs ex:List Addr)(H H':Hp)(h h':Heap):Prop where
 keep:∀b o,h.get? b=Z o->H b=J->b∉fs->b∉ex->h'.get? b=Z o
 slot:∀b o,h.get? b=Z o->H b=J->b∈fs->b∉ex->∃sl,h'.get? b=Z { o with slots:=sl }
 free:∀b o,h.get? b=Z o->H b=J->b∉ex->H' b=J
 there:∀b o,h.get? b=Z o->b∉ex->∃o',h'.get? b=Z o'
 zE:∀b xs,H b=Z (.d? xs)->H' b=Z (.d? xs)
 C':∀b o u,H b=Z (.o? o u)->H' b=Z (.o? o u)
 I1:∀b ps,H b=Z (.tbl ps)->∃more,H' b=Z (.tbl (ps++more))
section
variable{fs fs' ex ex':List Addr}{H H1 H2:Hp}{h h1 h2 h':Heap}{a x e:Addr}{o:HO}
def Un.any(u:Un fs ex H H1 h h1)(q:h.get? b=Z ob)(n:H b=J)(c:b∉ex):∃sl,h1.get? b=Z { ob with slots:=sl }:=by
 by_cases hb:b∈fs
 .exact u.slot b ob q n hb c
 .exact⟨ob.slots,u.keep b ob q n hb c⟩
def Un.g?(k:∀b u,h.get? b=Z u->h'.get? b=Z u):Un fs ex H H h h':=
 ⟨λb c q _ _ _=>k b c q,λb c q _ _ _=>⟨c.slots,k b c q⟩,λ_ _ _ n _=>n,λb c q _=>⟨c,k b c q⟩,λ_ _ q=>q,λ_ _ _ q=>q,λ_ d q=>⟨#[],by rw[q];simp⟩⟩
def Un.refl:Un fs ex H H h h:=Un.g? λ_ _ q=>q
def Un.laid(k:∀b u,h.get? b=Z u->h'.get? b=Z u)(c:h.objs.size<=a)(hn:H a=J):Un fs ex H (fl H a o) h h' where
 keep:=λb u q _ _ _=>k b u q
 slot:=λb u q _ _ _=>⟨u.slots,k b u q⟩
 free:=λb u q n _=>by rw[vt (bb (cv (aR q) c))];exact n
 there:=λb u q _=>⟨u,k b u q⟩
 zE:=λb xs q=>by rw[vt (yc q hn)];exact q
 C':=λb u xs q=>by rw[vt (yc q hn)];exact q
 I1:=λb ps q=>⟨#[],by rw[vt (yc q hn),q];simp⟩
def Un.vr(c:Mut (H x))(j:e=x\/H e=Z (.jj x))(k:∀b u,b≠e->h.get? b=Z u->h'.get? b=Z u)(heo:∃u,h'.get? e=Z u):Un fs ex H (fl H x o) h h':=by
 have i:∀b,H b=J->b≠x:=λb n z=>by subst z;rw[n]at c;exact c
 have f:∀b,H b=J->b≠e:=λb n z=>by
  subst z;rcases j with r|r
  .exact i b n r
  .rw[n]at r;cases r
 have d:∀b u,H b=Z u->¬Mut (Z u)->b≠x:=λb u q l z=>by subst z;rw[q]at c;exact l c
 refine⟨λb u q n _ _=>k b u (f b n) q,λb u q n _ _=>⟨u.slots,k b u (f b n) q⟩,λb u q n _=>by rw[vt (i b n)];exact n,λb u q _=>?_,
  λb m q=>by rw[vt (d b _ q λz=>z)];exact q,λb u m q=>by rw[vt (d b _ q λz=>z)];exact q,λb p q=>⟨#[],by rw[vt (d b _ q λz=>z),q];simp⟩⟩
 by_cases hbe:b=e
 .subst hbe;exact heo
 .exact⟨u,k b u hbe q⟩
end
def trk(h:Heap)(H:Hp):List Addr:=(aZ h.objs.size).filter λa=>(H a).isSome
def LD(h:Heap)(H:Hp):Heap:=W.hideAll h (trk h H)
def QP(h:Heap)(H:Hp):(LD h H).objs.size=h.objs.size:=W.hideAll_size _ _
def Si{h:Heap}(e:h.get? b=Z o)(n:H b=J):(LD h H).get? b=Z o:=
 W.hideAll_get _ e λa=>by have q:(H b).isSome=γ:=(aW.1 a).2;rw[n]at q;simp at q
def VT(e:(LD h H).get? b=Z o):h.get? b=Z o/\H b=J:=by
 have a:h.get? b=Z o:=W.of_hideAll (trk h H) e;refine⟨a,?_⟩;cases q:H b with
 |none=>rfl
 |some x=>have c:b∈trk h H:=aW.2 ⟨bN.2 (aR a),by simp[q]⟩;have z:(LD h H).get? b=J:=W.hideAll_none (trk h H) c;rw[z]at e;cases e
def VU(g h:Heap)(L:Addr):cD:=(aZ h.objs.size).filterMap λa=>if a=L\/(g.get? a).isSome=γ then J else (h.get? a).map λo=>(a,o)
def ey(g h:Heap)(L d:Addr):cD:=(VU g h L).filter λp=>decide (p.1≠d)
structure Mod(K:av)(mg:Str->Option ab)(b?:Heap):Prop where
 kin:K.In b?
 Dw:b?.Ns bf mg
 blt:∃mb,b?.Ns builtinsNs mb/\∀x:Str,x≠"__name__" -> mb x=dW x
 nolimit:b?.NoLimit
structure Cx where
 prog:aH
 w:az
 K:av
 mg:Str->Option ab
 b?:Heap
 A:aJ
 N:aE
 s₀:ae
 H₀:Hp
 b1:Env
 da:List Env
 kb:List Env
 ex:List Addr
 fn:Str->Bool
 n6:Bool
 pn:cD
 xe:ab->ae->Prop
def frs(l:List Env):List Addr:=l.filterMap (·.frame)
abbrev Cx.fs(X:Cx):List Addr:=frs X.da
def Vis(a:cK)(x:Str):Prop:=a.names.lookup x=Z .local\/a.names.lookup x=Z .cell\/a.names.lookup x=Z .free
def Loc(a:cK)(x:Str):Prop:=a.names.lookup x=Z .local\/a.names.lookup x=Z .cell
def Look(b1:Env)(h:Heap)(m:Str->Option ab)(x:Str)(u:ab):Prop:=
 (b1.kindOf x=Z .local/\m x=Z u)\/((b1.kindOf x=Z .cell\/b1.kindOf x=Z .free)/\∃c,b1.cells.lookup x=Z c/\h.IsCell c (Z u))
structure Cx.Ok(X:Cx):Prop where
 G?:Mod X.K X.mg X.b?
 kind:X.b1.scope.kind=.function
 Dw:X.b1.globals=bf
 blt:X.b1.builtins=builtinsNs
 above:X.s₀.heap.objs.size<=X.b1.locals
 inj:∀x y c,X.b1.cells.lookup x=Z c->X.b1.cells.lookup y=Z c->x=y
 has:∀x,(X.b1.kindOf x=Z .cell\/X.b1.kindOf x=Z .free)->∃c,X.b1.cells.lookup x=Z c
 cab:∀x c,X.fn x=γ->X.b1.cells.lookup x=Z c->X.s₀.heap.objs.size<=c
 hd:X.n6=γ->X.A.handled=J
 frames:X.A.frames=Z X.kb
 stk:X.kb=X.da\/(X.kb=X.b1::X.da/\X.b1.frame=Z X.b1.locals)
 exf:∀b∈X.ex,b≠X.b1.locals/\∀x c,X.b1.cells.lookup x=Z c->c≠b
 bs:∀b o,X.b?.get? b=Z o->X.s₀.heap.get? b=Z o/\X.H₀ b=J
 bsz:X.b?.objs.size<=X.s₀.heap.objs.size
 η:∀b o,X.b?.get? b=Z o->b∉X.ex
 ξ:∀b∈X.ex,b∉X.fs
 u7:X.s₀.heap.FunFrames X.b? X.da
 frf:∀b∈X.fs,X.H₀ b=J
structure c3(X:Cx)(pins:cD)(σ:List (Option V))(H:Hp)(s:ae):Prop where
 ok:X.Ok
 os:s.os=X.s₀.os
 mn:eS s.gens
 b?:Un X.fs X.ex X.H₀ H X.s₀.heap s.heap
 L':∃m,s.heap.Ns X.b1.locals m/\∀(i:Nat) (x:Str) (v:V),X.N[i]?=Z x->σ[i]?=Z (Z v)->Vis X.b1.scope x->∃u,e8 v u/\Look X.b1 s.heap m x u
 cell:∀x c,X.b1.cells.lookup x=Z c->∃v,s.heap.IsCell c v
 free:H X.b1.locals=J
 nq:∀x c,X.b1.cells.lookup x=Z c->H c=J
 M':∀p∈X.pn++pins,s.heap.get? p.1=Z p.2/\H p.1=J/\p.1≠X.b1.locals/\p.1∉X.fs/\∀v,p.2.data≠.cell v
 fx:rr X.prog X.w H s.heap
 len:σ.length=X.N.length
section
variable{X:Cx}{pins:cD}{σ:List (Option V)}{H H':Hp}{s:ae}{h':Heap}
def Cx.Ok.nofr(ok:X.Ok)(e:X.b?.get? b=Z o):b∉X.fs:=λa=>by have:=(ok.u7.mem a).1;rw[e]at this;cases this
theorem c3.bs(I:c3 X pins σ H s):∀b o,X.b?.get? b=Z o->s.heap.get? b=Z o/\H b=J:=λb o e=>
 ⟨I.b?.keep b o (I.ok.bs b o e).1 (I.ok.bs b o e).2 (I.ok.nofr e) (I.ok.η b o e),I.b?.free b o (I.ok.bs b o e).1 (I.ok.bs b o e).2 (I.ok.η b o e)⟩
def c3.bk(I:c3 X pins σ H s):∀b o,X.b?.get? b=Z o->s.heap.get? b=Z o:=λb o e=>(I.bs b o e).1
theorem c3.G?(I:c3 X pins σ H s):Mod X.K X.mg X.b?:=I.ok.G?
def c3.rf(I:c3 X pins σ H s):X.K.In s.heap:=I.ok.G?.kin.keeps I.bk
def c3.fr(I:c3 X pins σ H s):∃m,Fr X.b? X.b1.locals s.heap m:=
 let ⟨m,a,_⟩:=I.L'
 ⟨m,a,I.bk,bG I.ok.bsz I.ok.above⟩
theorem c3.lt(I:c3 X pins σ H s):X.b1.locals<s.heap.objs.size:=let ⟨_,a,_⟩:=I.L';a.lt
def c3.sz(I:c3 X pins σ H s):X.s₀.heap.objs.size<=s.heap.objs.size:=bG I.ok.above (iU I.lt)
def c3.nofs(I:c3 X pins σ H s)(h:s.heap.objs.size<=a):a∉X.fs:=λb=>by obtain⟨_,o,c,_⟩:=I.ok.u7.mem b;exact aq (cv (aR c) (bG I.sz h)) (eK _)
def c3.cne(I:c3 X pins σ H s):∀x c,X.b1.cells.lookup x=Z c->c≠X.b1.locals:=λx c e z=>by obtain⟨v,o,d,hd⟩:=I.cell x c e;obtain⟨m,⟨i,h,f,b,a,_⟩,_⟩:=I.L';rw[z,b]at d;cases d;rw[a]at hd;cases hd
theorem c3.u7(I:c3 X pins σ H s):s.heap.FunFrames X.b? X.da:=by
 have all:∀(l:List Env),(∀b∈frs l,b∈X.fs)->X.s₀.heap.FunFrames X.b? l->s.heap.FunFrames X.b? l:=by
  intro l
  induction l with
  |nil=>intro _ _;trivial
  |cons b1 r p=>intro d h;obtain⟨f,⟨L,o,c,i,j,hd⟩,m⟩:=h;have hL:L∈X.fs:=d L (by unfold frs;rw[eD,c];exact aX);obtain⟨q,e⟩:=I.b?.slot L o j (I.ok.frf L hL) hL λz=>I.ok.ξ L z hL;exact⟨f,⟨L,_,c,i,e,hd⟩,p (λb a=>d b (by unfold frs;rw[eD,c];exact ba _ a)) m⟩
 exact all X.da (λ_ a=>a) I.ok.u7
theorem c3.kb(I:c3 X pins σ H s):s.heap.FunFrames X.b? X.kb:=by
 rcases I.ok.stk with e|⟨e,a⟩
 .rw[e];exact I.u7
 .rw[e];obtain⟨m,b,_⟩:=I.L';refine .cons (by rw[I.ok.kind];decide) a b ?_ I.u7;exact Heap.get?_none_of_le (bG I.ok.bsz I.ok.above)
def c3.V?(I:c3 X pins σ H s):∀b∈frs X.kb,b∈X.b1.locals::X.fs:=λb a=>by
 rcases I.ok.stk with e|⟨e,c⟩
 .rw[e]at a;exact ba _ a
 .rw[e]at a;unfold frs at a;rw[eD,c]at a;exact a
def c3.ZY(I:c3 X pins σ H s):∀b∈frs X.kb,H b=J:=λb hb=>by
 rcases aO.1 (I.V? b hb)with e|hb
 .rw[e];exact I.free
 .obtain⟨_,o,a,_⟩:=I.ok.u7.mem hb;exact I.b?.free b o a (I.ok.frf b hb) λz=>I.ok.ξ b z hb
def c3.step{g':Array gu}{t':Nat}{d':Drawn}{ch:List Addr}(I:c3 X pins σ H s)
  (hch:∀b∈ch,(b∈X.ex\/X.s₀.heap.objs.size<=b)/\b≠X.b1.locals/\(∀x c,X.b1.cells.lookup x=Z c->c≠b)/\∀p∈X.pn++pins,p.1≠b)
  (keep:∀b o,b≠X.b1.locals->b∉X.fs->b∉ch->s.heap.get? b=Z o->H b=J->h'.get? b=Z o)
  (slot:∀b o,b≠X.b1.locals->b∈X.fs->b∉ch->s.heap.get? b=Z o->H b=J->∃sl,h'.get? b=Z { o with slots:=sl }) (free:∀b o,b∉ch->s.heap.get? b=Z o->H b=J->H' b=J)
  (there:∀b o,b∉ch->s.heap.get? b=Z o->∃t,h'.get? b=Z t)
  (zE:∀b xs,H b=Z (.d? xs)->H' b=Z (.d? xs)) (C':∀b o u,H b=Z (.o? o u)->H' b=Z (.o? o u)) (I1:∀b ps,H b=Z (.tbl ps)->∃more,H' b=Z (.tbl (ps++more)))
  (ns:∀m,s.heap.Ns X.b1.locals m->h'.Ns X.b1.locals m) (fx:rr X.prog X.w H' h') (hg:eS g'):
  c3 X pins σ H' { s with heap:=h',gens:=g',drawn:=d',toks:=t' }:=by
 have neL:∀b o,X.s₀.heap.get? b=Z o->b≠X.b1.locals:=λb o e=>bb (cv (aR e) I.ok.above);have neC:∀b o,X.s₀.heap.get? b=Z o->b∉X.ex->b∉ch:=λb o e a hb=>by
  rcases(hch b hb).1 with z|z
  .exact a z
  .exact aq (cv (aR e) z) (eK _)
 have cellK:∀x c,X.b1.cells.lookup x=Z c->∀v,s.heap.IsCell c v->h'.IsCell c v:=λx c e v ⟨o,h,hd⟩=>by
  have nch:c∉ch:=λz=>(hch c z).2.2.1 x c e O;by_cases A:c∈X.fs
  .obtain⟨sl,q⟩:=slot c o (I.cne x c e) A nch h (I.nq x c e);exact⟨_,q,hd⟩
  .exact⟨o,keep c o (I.cne x c e) A nch h (I.nq x c e),hd⟩
 refine⟨I.ok,I.os,hg,⟨λb o e n hb a=>?_,λb o e n hb a=>?_,λb o e n a=>?_,λb o e a=>?_,λb xs e=>zE b xs (I.b?.zE b xs e),λb o xs e=>C' b o xs (I.b?.C' b o xs e),λb ps e=>?_⟩,?_,λx c e=>?_,?_,λx c e=>?_,λp B=>?_,fx,I.len⟩
 .exact keep b o (neL b o e) hb (neC b o e a) (I.b?.keep b o e n hb a) (I.b?.free b o e n a)
 .obtain⟨sl,f⟩:=I.b?.slot b o e n hb a;obtain⟨y,j⟩:=slot b _ (neL b o e) hb (neC b o e a) f (I.b?.free b o e n a);exact⟨y,j⟩
 .obtain⟨t,f⟩:=I.b?.there b o e a;exact free b t (neC b o e a) f (I.b?.free b o e n a)
 .obtain⟨t,f⟩:=I.b?.there b o e a;exact there b t (neC b o e a) f
 .obtain⟨F,f⟩:=I.b?.I1 b ps e;obtain⟨G,j⟩:=I1 b _ f;exact⟨F++G,by rw[j,Array.append_assoc]⟩
 .obtain⟨m,hn,E⟩:=I.L';refine⟨m,ns m hn,λi x v f j C=>?_⟩;obtain⟨u,r,l⟩:=E i x v f j C;refine⟨u,r,?_⟩;rcases l with l|⟨k,c,e,z⟩
  .exact .inl l
  .exact .inr ⟨k,c,e,cellK x c e _ z⟩
 .obtain⟨v,z⟩:=I.cell x c e;exact⟨v,cellK x c e v z⟩
 .obtain⟨m,⟨o,_,_,h,_⟩,_⟩:=I.L';exact free _ o (λz=>(hch _ z).2.1 O) h I.free
 .obtain⟨v,o,h,hd⟩:=I.cell x c e;exact free c o (λz=>(hch c z).2.2.1 x c e O) h (I.nq x c e)
 .obtain⟨e,n,ne,nf,d⟩:=I.M' p B;have nch:p.1∉ch:=λz=>(hch p.1 z).2.2.2 p B O;exact⟨keep p.1 p.2 ne nf nch e n,free p.1 p.2 nch e n,ne,nf,d⟩
def c3.un(I:c3 X pins σ H s)(u:Un X.fs [] H H' s.heap h')(fx:rr X.prog X.w H' h'):c3 X pins σ H' { s with heap:=h',toks:=t' }:=by
 obtain⟨m,⟨o,es,ep,f,r⟩,_⟩:=id I.L';obtain⟨sl,hL⟩:=u.any f I.free (by simp);exact I.step (g':=s.gens) (d':=s.drawn) (ch:=[]) (λ_ z=>nomatch z) (λb o _ hb _ e n=>u.keep b o e n hb (by simp)) (λb o _ hb _ e n=>u.slot b o e n hb (by simp)) (λb o _ e n=>u.free b o e n (by simp)) (λb o _ e=>u.there b o e (by simp)) u.zE u.C' u.I1 (λl hm=>by
  obtain⟨p,d,c,a,h⟩:=hm;rw[f]at a;cases a;exact⟨_,d,c,hL,h⟩) fx I.mn
def c3.call(I:c3 X pins σ H s)(u:Un (frs X.kb) ch H H' s.heap h')(fx:rr X.prog X.w H' h')(hg:eS g')
  (hch:∀b∈ch,(b∈X.ex\/X.s₀.heap.objs.size<=b)/\b≠X.b1.locals/\(∀x c,X.b1.cells.lookup x=Z c->c≠b)/\∀p∈X.pn++pins,p.1≠b):
  c3 X pins σ H' { s with heap:=h',gens:=g',drawn:=d',toks:=t' }:=by
 obtain⟨m,⟨o,es,ep,i,r⟩,_⟩:=id I.L';obtain⟨sl,hL⟩:=u.any i I.free λz=>(hch _ z).2.1 O;exact I.step (ch:=ch) hch (λb o hL hb a e n=>u.keep b o e n (λz=>(aO.1 (I.V? b z)).elim hL hb) a) (λb o _ _ a e n=>u.any e n a) (λb o a e n=>u.free b o e n a) (λb o a e=>u.there b o e a) u.zE u.C' u.I1 (λl hm=>by
  obtain⟨q,h,f,d,j⟩:=hm;rw[i]at d;cases d;exact⟨_,h,f,hL,j⟩) fx hg
def c3.lb(I:c3 X pins σ H s)(k:∀b o,b≠it->s.heap.get? b=Z o->h'.get? b=Z o)(hn:H it=J)(hL:it≠X.b1.locals)
  (d:it∈X.ex\/X.s₀.heap.objs.size<=it) (f:∀x c,X.b1.cells.lookup x=Z c->c≠it) (h:∀p∈X.pn++pins,p.1≠it):c3 X pins σ H { s with heap:=h',toks:=t' }:=by
 have nit:∀b u,H b=Z u->b≠it:=λb u e z=>by rw[z,hn]at e;cases e
 refine I.step (g':=s.gens) (d':=s.drawn) (ch:=[it]) (λb hb=>?_) (λb o _ _ a e _=>k b o (λz=>a (by simp[z])) e) (λb o _ _ a e _=>⟨o.slots,k b o (λz=>a (by simp[z])) e⟩) (λ_ _ _ _ n=>n)
  (λb o a e=>⟨o,k b o (λz=>a (by simp[z])) e⟩) (λ_ _ e=>e) (λ_ _ _ e=>e) (λb ps e=>⟨#[],by rw[e];simp⟩) (λm hm=>?_) (λb u e=>?_) I.mn
 .have e:b=it:=by simpa using hb
  subst e;exact⟨d,hL,f,h⟩
 .obtain⟨o,es,ep,i,r⟩:=hm;exact⟨o,es,ep,k _ o (dj hL) i,r⟩
 .refine(I.fx b u e).stay (λc v a q=>k c v ?_ q) (λ_ q=>q) λ_ _ q=>q;rcases a with z|z
  .rw[z];exact nit b u e
  .exact nit c _ z
def c3.x?(I:c3 X pins σ H s)(t:Nat):c3 X pins σ H { s with toks:=t }:=I.un (h':=s.heap) (t':=t) Un.refl I.fx
theorem c3.g?(I:c3 X pins σ H s)(k:∀b u,s.heap.get? b=Z u->h'.get? b=Z u):c3 X pins σ H { s with heap:=h',toks:=t' }:=I.un (Un.g? k) (I.fx.g? k)
theorem c3.laid(I:c3 X pins σ H s)(k:∀b u,s.heap.get? b=Z u->h'.get? b=Z u)(c:s.heap.objs.size<=a)(new:wL X.prog X.w (fl H a o) h' a o):
  c3 X pins σ (fl H a o) { s with heap:=h',toks:=t' }:=I.un (Un.laid k c (I.fx.fresh c)) (I.fx.laid k c new)
theorem c3.vr(I:c3 X pins σ H s)(c:Mut (H x))(a:e=x\/H e=Z (.jj x))(k:∀b u,b≠e->s.heap.get? b=Z u->h'.get? b=Z u)(heo:∃u,h'.get? e=Z u)
  (new:wL X.prog X.w (fl H x o) h' x o):c3 X pins σ (fl H x o) { s with heap:=h',toks:=d }:=I.un (Un.vr c a k heo) (I.fx.vr c a k heo new)
def c3.en{a:List (Option V)}(I:c3 X pins σ H s)(f:a.length=σ.length)(w:∀(i:Nat) v,a[i]?=Z (Z v)->σ[i]?=Z (Z v)):c3 X pins a H s:=
 ⟨I.ok,I.os,I.mn,I.b?,let ⟨m,h,b⟩:=I.L';⟨m,h,λi x v c d e=>b i x v c (w i v d) e⟩,I.cell,I.free,I.nq,I.M',I.fx,f.t I.len⟩
def c3.Y?(I:c3 X pins σ H s)(h:∀p∈a,s.heap.get? p.1=Z p.2/\H p.1=J/\p.1≠X.b1.locals/\p.1∉X.fs/\∀v,p.2.data≠.cell v):c3 X a σ H s:=
 ⟨I.ok,I.os,I.mn,I.b?,I.L',I.cell,I.free,I.nq,λp b=>(aV.1 b).elim (λz=>I.M' p (bJ _ z)) (h p),I.fx,I.len⟩
def MO{N:aE}(hN:N.Nodup){i j:Nat}{x:Str}(a:N[i]?=Z x)(b:N[j]?=Z x):i=j:=by obtain⟨e,c⟩:=cg.1 a;obtain⟨f,d⟩:=cg.1 b;exact(lq hN).1 (c.t d.symm)
def QQ(I:c3 X pins σ H s)(hN:X.N.Nodup)(hi:X.N[i]?=Z x)(B:Loc X.b1.scope x)(r:e8 v u)
  (h:∀s',c3 X pins (σ.set i (Z v)) H s'->(∃a,dD a s.heap s'.heap/\(a=X.b1.locals\/X.b1.cells.lookup x=Z a))->Q () s') (hf:X.fn x=γ\/X.b1.scope.names.lookup x=Z .local:=by first|exact .inl O|exact .inr O|assumption):ah M A (storeName X.b1 x u) Q E s:=by
 obtain⟨m,hn,hl⟩:=id I.L';have hcls:(X.b1.scope.kind==.class||(X.b1.scope.kind==.module&&X.b1.locals != X.b1.globals))=δ:=by rw[I.ok.kind];rfl
 have hiσ:i<σ.length:=by rw[I.len];exact(cg.1 hi).1
 have cne:=I.cne;have tracked:∀{a:Addr} {h':Heap},(∃o,s.heap.get? a=Z o/\H a=J)->dD a s.heap h'->rr X.prog X.w H h':=λ{a h'} ha f b ob e=>by
  obtain⟨_,_,hfree⟩:=ha;refine(I.fx b ob e).stay (λc S t q=>(f.2 c ?_).t q) (λ_ q=>q) λ_ _ q=>q;rintro rfl;rcases t with rfl|t
  .rw[hfree]at e;cases e
  .rw[hfree]at t;cases t
 rcases B with F|F
 .refine wpAny_storeName_local F hn (λh' U f=>?_) hcls;obtain⟨oL,_,_,hoL,_⟩:=id hn;refine h _ ⟨I.ok,I.os,I.mn,⟨λb o e n hb B=>?_,λb o e n hb B=>?_,I.b?.free,λb o e B=>?_,I.b?.zE,I.b?.C',I.b?.I1⟩,⟨_,U,λj y v' l C T=>?_⟩,λy c e=>?_,I.free,I.nq,λp W=>?_,tracked ⟨oL,hoL,I.free⟩ f,by simpa using I.len⟩ ⟨_,f,.inl O⟩
  .exact(f.2 b (bb (cv (aR e) I.ok.above))).t (I.b?.keep b o e n hb B)
  .obtain⟨sl,l⟩:=I.b?.slot b o e n hb B;exact⟨sl,(f.2 b (bb (cv (aR e) I.ok.above))).t l⟩
  .obtain⟨Y,l⟩:=I.b?.there b o e B;exact⟨Y,(f.2 b (bb (cv (aR e) I.ok.above))).t l⟩
  .by_cases G:j=i
   .subst G;rw[hi]at l;cases l;rw[jw hiσ]at C;cases C;exact⟨u,r,.inl ⟨F,by simp⟩⟩
   .rw[kM (dj G)]at C;obtain⟨u',r',q⟩:=hl j y v' l C T;refine⟨u',r',?_⟩;rcases q with ⟨k,e⟩|⟨k,c,e,z⟩
    .refine .inl ⟨k,?_⟩;have:y≠x:=λe=>G (MO hN l (e▸hi));simp[this,e]
    .exact .inr ⟨k,c,e,z.sameBut f (cne y c e)⟩
  .obtain⟨S,z⟩:=I.cell y c e;exact⟨S,z.sameBut f (cne y c e)⟩
  .obtain⟨e,n,ne,nf,d⟩:=I.M' p W;exact⟨(f.2 p.1 ne).t e,n,ne,nf,d⟩
 .have hfn:X.fn x=γ:=by
   rcases hf with z|z
   .exact z
   .rw[z]at F;cases F
  obtain⟨c,t⟩:=I.ok.has x (.inl F);obtain⟨S,z⟩:=I.cell x c t;refine wpAny_storeName_cell I.ok.kind F t z (λh' P f=>?_);obtain⟨oc,hoc,hocd⟩:=id z;refine h { s with heap:=h' } ⟨I.ok,I.os,I.mn,⟨λb o e n hb B=>?_,λb o e n hb B=>?_,I.b?.free,λb o e B=>?_,I.b?.zE,I.b?.C',I.b?.I1⟩,⟨m,hn.sameBut f (dj (cne x c t)),λj y v' l C T=>?_⟩,λy R e=>?_,I.free,I.nq,λp W=>?_,tracked ⟨oc,hoc,I.nq x c t⟩ f,by simpa using I.len⟩ ⟨c,f,.inr t⟩
  .exact(f.2 b (bb (cv (aR e) (I.ok.cab x c hfn t)))).t (I.b?.keep b o e n hb B)
  .obtain⟨sl,l⟩:=I.b?.slot b o e n hb B;exact⟨sl,(f.2 b (bb (cv (aR e) (I.ok.cab x c hfn t)))).t l⟩
  .obtain⟨Y,l⟩:=I.b?.there b o e B;exact⟨Y,(f.2 b (bb (cv (aR e) (I.ok.cab x c hfn t)))).t l⟩
  .by_cases G:j=i
   .subst G;rw[hi]at l;cases l;rw[jw hiσ]at C;cases C;exact⟨u,r,.inr ⟨.inl F,c,t,P⟩⟩
   .rw[kM (dj G)]at C;obtain⟨u',r',q⟩:=hl j y v' l C T;refine⟨u',r',?_⟩;rcases q with q|⟨k,R,e,z'⟩
    .exact .inl q
    .refine .inr ⟨k,R,e,z'.sameBut f ?_⟩;rintro rfl;exact G (MO hN l (I.ok.inj _ _ _ e t▸hi))
  .by_cases hcc:R=c
   .subst hcc;exact⟨_,P⟩
   .obtain⟨w2,z2⟩:=I.cell y R e;exact⟨w2,z2.sameBut f hcc⟩
  .obtain⟨e,n,ne,nf,d⟩:=I.M' p W;refine⟨(f.2 p.1 ?_).t e,n,ne,nf,d⟩;intro q;rw[q,hoc]at e;have q':oc=p.2:=cI e;exact d S (by rw[<-q'];exact hocd)
def MP(I:c3 X pins σ H s)(hN:X.N.Nodup)(d:X.N[i]?=Z x)(e:Loc X.b1.scope x)(r:e8 v u)
  (h:∀a,c3 X pins (σ.set i (Z v)) H a->Q () a) (c:X.fn x=γ\/X.b1.scope.names.lookup x=Z .local:=by first|exact .inl O|exact .inr O|assumption):ah M A (storeName X.b1 x u) Q E s:=
 QQ I hN d e r (λa b _=>h a b) c
def c3.call'{s':ae}(I:c3 X pins σ H s)(i:s'.os=s.os)(u:Un (frs X.kb) ch H H' s.heap s'.heap)(fx:rr X.prog X.w H' s'.heap)(h:eS s'.gens)
  (hch:∀b∈ch,(b∈X.ex\/X.s₀.heap.objs.size<=b)/\b≠X.b1.locals/\(∀x c,X.b1.cells.lookup x=Z c->c≠b)/\∀p∈X.pn++pins,p.1≠b):c3 X pins σ H' s':=by
 obtain⟨h',d,a,f,j⟩:=s';have e:j=s.os:=i;subst e;exact I.call (g':=d) (t':=f) (d':=a) u fx h hch
end
abbrev XK:=ab->Option Addr->Hp->Prop
abbrev St:=List (Option V)
abbrev VK:=V->Hp->Prop
abbrev TE:=St->Hp->VK->Prop
abbrev TT:=St->Hp->(Bool->Hp->Prop)->Prop
abbrev TA:=St->Hp->(bL->Hp->Prop)->Prop
structure ν where
 nx:St->Hp->Prop
 rt:VK
 bk:St->Hp->Prop:=λ_ _=>False
 ct:St->Hp->Prop:=λ_ _=>False
abbrev TS:=ν->St->Hp->Prop
def EP(X:Cx)(a:cD)(d:St)(Q:VK)(u:ab)(c:ae):Prop:=∃v b,c3 X a d b c/\e8 v u/\Q v b
def TP(X:Cx)(a:cD)(e:St)(Q:Bool->Hp->Prop)(b:Bool)(d:ae):Prop:=∃c,c3 X a e c d/\Q b c
def AP(X:Cx)(a:cD)(f:St)(Q:bL->Hp->Prop)(e:List ab)(d:ae):Prop:=∃c b,c3 X a f b d/\er c e/\Q c b
def SP(X:Cx)(b:cD)(D:ν)(f:Flow)(d:ae):Prop:=
 match f with
 |.next=>∃a c,c3 X b a c d/\D.nx a c
 |.brk=>∃a c,c3 X b a c d/\D.bk a c
 |.cont=>∃a c,c3 X b a c d/\D.ct a c
 |.ret u=>∃v a c,c3 X b a c d/\e8 v u/\D.rt v c
def PE(X:Cx)(e:Expr)(t:TE):Prop:=
 ∀(a:cD) (s:ae) (b:St) (H:Hp) (Q:VK),c3 X a b H s->t b H Q->ah (model X.prog X.w) X.A (eval e X.b1) (EP X a b Q) X.xe s
def PT(X:Cx)(e:Expr)(t:TT):Prop:=
 ∀(a:cD) (s:ae) (b:St) (H:Hp) (Q:Bool->Hp->Prop),c3 X a b H s->t b H Q->ah (model X.prog X.w) X.A (isTrue e X.b1 (eval e X.b1)) (TP X a b Q) X.xe s
def PW(X:Cx)(e:Expr)(t:TT):Prop:=
 ∀(whole:Sem ab) (a:cD) (s:ae) (b:St) (H:Hp) (Q:Bool->Hp->Prop),c3 X a b H s->t b H Q->ah (model X.prog X.w) X.A (isTrue e X.b1 whole) (TP X a b Q) X.xe s
def PW.pt(h:PW X e t):PT X e t:=h _
def PA(X:Cx)(c:List Expr)(t:TA):Prop:=
 ∀(pos:Pos) (a:cD) (s:ae) (b:St) (H:Hp) (Q:bL->Hp->Prop),c3 X a b H s->t b H Q->ah (model X.prog X.w) X.A (spliced (bD pos (aA c X.b1))) (AP X a b Q) X.xe s
def PS(X:Cx)(st:Stmt)(t:TS):Prop:=
 ∀(a:cD) (s:ae) (b:St) (H:Hp) (D:ν),c3 X a b H s->t D b H->ah (model X.prog X.w) X.A (exec st X.b1) (SP X a D) X.xe s
def qi(X:Cx)(st:List Stmt)(t:TS):Prop:=
 ∀(a:cD) (s:ae) (b:St) (H:Hp) (D:ν),c3 X a b H s->t D b H->ah (model X.prog X.w) X.A (execs st X.b1) (SP X a D) X.xe s
def f5{c:Type}{t:Sem c}{Q b:c->ae->Prop}{M:Model}{A:aJ}{E:ab->ae->Prop}{s:ae}(h:ah M A t Q E s)(hQ:∀a s,Q a s->b a s):ah M A t b E s:=b8 h hQ λ_ _ x=>x
section
variable{X:Cx}
def bin{a b:Expr}{o p:TE}(z:PE X a o)(B:PE X b p){c:cD}{s:ae}{e:St}{H:Hp}{R:V->V->Hp->Prop}(I:c3 X c e H s)(h:o e H λx m=>p e m λy d=>R x y d)
  {q:Type} {Q:q->ae->Prop} {f:ab->ab->Sem q}
  (C:∀v u l x y d,c3 X c e d l->e8 x v->e8 y u->R x y d->ah (model X.prog X.w) X.A (f v u) Q X.xe l):
  ah (model X.prog X.w) X.A (eval a X.b1) (λv i=>ah (model X.prog X.w) X.A (eval b X.b1) (λu j=>ah (model X.prog X.w) X.A (f v u) Q X.xe j) X.xe i) X.xe s:=by
 refine f5 (z c s e H _ I h) λv N zz=>?_;obtain⟨x,m,r,G,E⟩:=zz;refine f5 (B c N e m _ r E) λu l zz=>?_;obtain⟨y,d,t,M,F⟩:=zz;exact C v u l x y d t G M F
def BY(i:Nat):TE:=λa H Q=>∃v,a[i]?=Z (Z v)/\Q v H
def tC(v:V):TE:=λ_ H Q=>Q v H
def YN(hN:X.N[i]?=Z x)(p:Vis X.b1.scope x)(hd:(x==("__debug__" : Str))=δ:=by decide)(hcd:(x==("__classdict__" : Str))=δ:=by decide):PE X (.Name x pos) (BY i):=by
 intro b s q H Q I h;obtain⟨v,e,h⟩:=h;obtain⟨m,o,f⟩:=I.L';obtain⟨u,r,l⟩:=f i x v hN e p;have fin:EP X b q Q u s:=⟨v,H,I,r,h⟩;rcases l with ⟨a,j⟩|⟨a,c,d,hcell⟩
 .exact mR (wpAny_loadName_local I.ok.kind a o j fin) hd
 .rcases a with a|a
  .exact mR (wpAny_loadName_cell I.ok.kind a d hcell fin) hd
  .exact mR (wpAny_loadName_free I.ok.kind a d hcell fin hcd) hd
def LF{i j pos}:PE X (.Constant (.int i) j pos) (tC (.int i)):=λ_ _ _ H _ I h=>wpAny_Constant_int ⟨.int i,H,I.x? _,⟨_,O⟩,h⟩
def acC{b j pos}:PE X (.Constant (.bool b) j pos) (tC (.I b)):=λ_ _ _ H _ I h=>Constant_bool ⟨.I b,H,I,O,h⟩
def YO{j pos}:PE X (.Constant .none j pos) (tC .E):=λ_ _ _ H _ I h=>Constant_none ⟨.E,H,I,O,h⟩
def YQ{x j pos}:PE X (.Constant (.str x) j pos) (tC (.str x)):=λ_ _ _ H _ I h=>Calls.Constant_str ⟨.str x,H,I.x? _,⟨_,O⟩,h⟩
def Gl(X:Cx)(x:Str):Prop:=X.b1.kindOf x=Z .globalImplicit
def EX(I:c3 X a d H s)(b:Gl X x)(c:X.mg x=Z u)(h:Q u s)
  (hd:(x==("__debug__" : Str))=δ:=by decide):ah (model X.prog X.w) X.A (eval (.Name x pos) X.b1) Q E s:=
 nS I.ok.kind b (Calls.loadGlobal_global (by rw[I.ok.Dw];exact I.G?.Dw.keeps I.bk) c h) hd
def BZ(I:c3 X a l H s)(d:Gl X x)(e:X.mg x=J)(i:dW x=Z u)(h:Q u s)
  (f:x≠"__name__" := by decide) (hd:(x==("__debug__" : Str))=δ:=by decide):ah (model X.prog X.w) X.A (eval (.Name x pos) X.b1) Q E s:=by
 obtain⟨j,b,c⟩:=I.G?.blt;exact nS I.ok.kind d (Calls.loadGlobal_builtin (by rw[I.ok.Dw];exact I.G?.Dw.keeps I.bk) e (by rw[I.ok.blt];exact b.keeps I.bk) ((c x f).t i) h) hd
def Ih(a:Gl X x)(b:X.mg x=Z u)(r:e8 v u)(hd:(x==("__debug__" : Str))=δ:=by decide):PE X (.Name x pos) (tC v):=
 λ_ _ _ H _ I h=>EX I a b ⟨v,H,I,r,h⟩ hd
def VV(a:Gl X x)(b:X.mg x=J)(d:dW x=Z u)(r:e8 v u)(c:x≠"__name__" := by decide)(hd:(x==("__debug__" : Str))=δ:=by decide):PE X (.Name x pos) (tC v):=
 λ_ _ _ H _ I h=>BZ I a b d ⟨v,H,I,r,h⟩ c hd
variable{a b:Expr}{ta tb:TE}{pos:Pos}
def PC(X:Cx)(h:CmpOp)(a b:Expr)(t:TE):Prop:=
 ∀(c:cD) (s:ae) (f:St) (H:Hp) (Q:VK),c3 X c f H s->t f H Q->
  ah (model X.prog X.w) X.A (eval a X.b1) (λv d=>ah (model X.prog X.w) X.A (eval b X.b1) (λu e=>ah (model X.prog X.w) X.A (bw h v u) (EP X c f Q) X.xe e) X.xe d) X.xe s
def tB(t:TE):TT:=λe H Q=>t e H λx d=>∃c,x=.I c/\Q c d
def aeo(h:PC X i a b t)(f:f7 i b=δ:=by first|exact nobehind _ (by decide) (by decide)|rfl):PT X (.Compare a [i] [b] pos) (tB t):=by intro e s w H Q I o;refine ou (f5 (h e s w H _ I o) λv y f=>f5 f λu z m=>f5 m λc A zz=>?_) f;obtain⟨x,j,l,r,p⟩:=zz;obtain⟨d,rfl,q⟩:=p;cases r;exact dw ⟨j,l,q⟩
def YR(h:PE X e t)(j:∀whole,isTrue e X.b1 whole=(do let v<-whole;standAt e.pos;holding [v] (truthy v)):=by intro _;rfl):PT X e (tB t):=by intro c s p H Q I l;refine isTrue_plain (f5 (h c s p H _ I l) λv r zz=>?_) (j _);obtain⟨x,f,i,o,m⟩:=zz;obtain⟨d,rfl,q⟩:=m;cases o;exact dw ⟨f,i,q⟩
variable{tA tB':TT}{ey:List Expr}
def tAnd(t u:TT):TT:=λe H Q=>t e H λc d=>if c=γ then u e d Q else Q δ d
def tOr(t u:TT):TT:=λe H Q=>t e H λc d=>if c=γ then Q γ d else u e d Q
def tNot(t:TT):TT:=λe H Q=>t e H λc d=>Q (!c) d
def VW(f:PT X a tA):PW X (.BoolOp .And [a] pos) tA:=by
 intro l d s i H Q I h;refine isTrue_and (f5 (f d s i H Q I h) λc j e=>?_);cases c with
 |true=>exact isTrue_and_nil e
 |false=>exact e
def YS(f:PT X a tA):PW X (.BoolOp .Or [a] pos) tA:=by
 intro l d s i H Q I h;refine isTrue_or (f5 (f d s i H Q I h) λc j e=>?_);cases c with
 |false=>exact isTrue_or_nil e
 |true=>exact e
def YT(l:PT X a tA)(m:PW X (.BoolOp .And (b::ey) pos) tB'):PW X (.BoolOp .And (a::b::ey) pos) (tAnd tA tB'):=by
 intro p d s j H Q I h;refine isTrue_and (f5 (l d s j H _ I h) λc o zz=>?_);obtain⟨e,f,i⟩:=zz;cases c with
 |true=>exact m p d o j e Q f i
 |false=>exact⟨e,f,i⟩
def acE(l:PT X a tA)(m:PW X (.BoolOp .Or (b::ey) pos) tB'):PW X (.BoolOp .Or (a::b::ey) pos) (tOr tA tB'):=by
 intro p d s j H Q I h;refine isTrue_or (f5 (l d s j H _ I h) λc o zz=>?_);obtain⟨e,f,i⟩:=zz;cases c with
 |true=>exact⟨e,f,i⟩
 |false=>exact m p d o j e Q f i
def YU(f:PT X a tA):PT X (.UnaryOp .Not a pos) (tNot tA):=by intro d s i H Q I h;exact isTrue_not (f d s i H (λc e=>Q (!c) e) I h)
def acF(ta tb:TE):TE:=λe H Q=>ta e H λx d=>∃c,x=.I c/\if c=γ then tb e d Q else Q (.I δ) d
def tOrV(ta tb:TE):TE:=λe H Q=>ta e H λx d=>∃c,x=.I c/\if c=γ then Q (.I γ) d else tb e d Q
def acG(ta:TE):TE:=λe H Q=>ta e H λx d=>∃c,x=.I c/\Q (.I (!c)) d
def YV{e}(h:PE X a t):PE X (.BoolOp e [a] pos) t:=λc s f H Q I d=>BoolOp_one (h c s f H Q I d)
def YW(l:PE X a ta)(m:PE X (.BoolOp .And (b::ey) pos) tb):PE X (.BoolOp .And (a::b::ey) pos) (acF ta tb):=by
 intro d s j H Q I h;refine BoolOp_and (f5 (l d s j H _ I h) λv p zz=>?_);obtain⟨x,f,i,o,e⟩:=zz;obtain⟨c,rfl,e⟩:=e;cases o;refine dw ?_;cases c with
 |true=>exact m d p j f Q i e
 |false=>exact⟨.I δ,f,i,O,e⟩
def acH(l:PE X a ta)(m:PE X (.BoolOp .Or (b::ey) pos) tb):PE X (.BoolOp .Or (a::b::ey) pos) (tOrV ta tb):=by
 intro d s j H Q I h;refine BoolOp_or (f5 (l d s j H _ I h) λv p zz=>?_);obtain⟨x,f,i,o,e⟩:=zz;obtain⟨c,rfl,e⟩:=e;cases o;refine dw ?_;cases c with
 |false=>exact m d p j f Q i e
 |true=>exact⟨.I γ,f,i,O,e⟩
def YX(j:PE X a ta):PE X (.UnaryOp .Not a pos) (acG ta):=by intro d s m H Q I h;refine UnaryOp_ (f5 (j d s m H _ I h) λv o zz=>?_);obtain⟨x,f,i,l,e⟩:=zz;obtain⟨c,rfl,e⟩:=e;cases l;exact not_of (dw ⟨.I (!c),f,i,O,e⟩)
def tIf(t:TT)(ta tb:TE):TE:=λd H Q=>t d H λc e=>if c=γ then ta d e Q else tb d e Q
def Sj(q:PT X c tA)(o:PE X a ta)(p:PE X b tb):PE X (.IfExp c a b pos) (tIf tA ta tb):=by
 intro e s f H Q I h;refine wpAny_IfExp (f5 (q e s f H _ I h) λd m zz=>?_);obtain⟨i,j,l⟩:=zz;cases d with
 |true=>exact o e m f i Q j l
 |false=>exact p e m f i Q j l
end
def gi(K:av)(H:Hp)(a:Addr)(c:bL):Prop:=
 Rd H a (.bt c)\/
  ∃(o:Obj) (b:Array ab) (n:Nat),K.lookup a=Z o/\o.cls=.type "list" /\ o.dict=J/\o.data=.seq b n/\b.size<=aG/\er c b.toList
def ij(K:av)(H:Hp)(a:Addr)(c:bL):Prop:=
 Rd H a (.d? c)\/
  ∃(o:Obj) (b:Array ab) (n:Nat),K.lookup a=Z o/\o.cls=.type "tuple" /\ o.data=.seq b n/\b.size<=aG/\er c b.toList
def absV:ab->Option V
 |.none=>Z .E
 |.bool b=>Z (.I b)
 |.int i _=>Z (.int i)
 |.str x _=>Z (.str x)
 |.bytes b _=>Z (.U b)
 |.float b _=>Z (.flt b)
 |.ref a=>Z (.ref a)
 |.type n=>Z (.ty n)
 |_=>J
def e8.abs(r:e8 x u):absV u=Z x:=by
 cases x with
 |E=>cases r;rfl
 |I _=>cases r;rfl
 |int _=>obtain⟨t,rfl⟩:=r;rfl
 |str _=>obtain⟨t,rfl⟩:=r;rfl
 |U _=>obtain⟨t,rfl⟩:=r;rfl
 |flt _=>obtain⟨t,rfl⟩:=r;rfl
 |ref _=>cases r;rfl
 |ty _=>cases r;rfl
def e8.inj(r:e8 x u)(q:e8 y u):x=y:=cI (r.abs.symm.t q.abs)
theorem er.inj:∀{b c:bL} {a:List ab},er b a->er c a->b=c
 |_,_,_,.nil,.nil=>rfl
 |_,_,_,.cons r t,.cons d e=>by rw[r.inj d,er.inj t e]
section
variable{X:Cx}{pins:cD}{σ:St}{H:Hp}{s:ae}{a:Addr}{xs ys:bL}
def gi.of{K:av}(h:H a=Z (.bt xs)):gi K H a xs:=.inl (.inl h)
def ij.of{K:av}(h:H a=Z (.d? xs)):ij K H a xs:=.inl (.inl h)
def c3.list(I:c3 X pins σ H s)(h:gi X.K H a xs):∃b:List ab,er xs b/\PlainL s.heap a b.toArray/\xs.length<=aG:=by
 rcases h with h|⟨o,b,n,d,c,hd,f,i,r⟩
 .obtain⟨z,b,n,r,e⟩:=h.ok I.fx;exact⟨b,r,⟨_,n,e,O,O,O⟩,z⟩
 .refine⟨b.toList,r,⟨o,n,I.rf a o d,c,hd,by simpa using f⟩,?_⟩;have e:=r.length;simp only[bM]at e;omega
def c3.tuple(I:c3 X pins σ H s)(h:ij X.K H a xs):∃b:List ab,er xs b/\gw s.heap a b.toArray/\xs.length<=aG:=by
 rcases h with h|⟨o,b,n,d,c,f,i,r⟩
 .obtain⟨z,b,r,p⟩:=h.ok I.fx;exact⟨b,r,p,z⟩
 .refine⟨b.toList,r,⟨o,I.rf a o d,c,n,by simpa using f⟩,?_⟩;have e:=r.length;simp only[bM]at e;omega
def c3.P0(I:c3 X pins σ H s)(h:gi X.K H a xs)(l:gi X.K H a ys):xs=ys:=by
 obtain⟨c,r,⟨o,n,e,_,_,d⟩,_⟩:=I.list h;obtain⟨b,m,⟨q,p,i,_,_,f⟩,_⟩:=I.list l;rw[e]at i;cases i;rw[d]at f;injection f with j _;have:c=b:=by simpa using bH qG j
 subst this;exact r.inj m
def c3.D?(I:c3 X pins σ H s)(h:ij X.K H a xs)(l:ij X.K H a ys):xs=ys:=by
 obtain⟨c,r,⟨o,e,_,n,d⟩,_⟩:=I.tuple h;obtain⟨b,m,⟨q,i,_,p,f⟩,_⟩:=I.tuple l;rw[e]at i;cases i;rw[d]at f;injection f with j _;have:c=b:=by simpa using bH qG j
 subst this;exact r.inj m
end
abbrev Cx.Dx(X:Cx)(E:ab->ae->Prop):Cx:={ X with xe:=E }
abbrev Cx.nox(X:Cx):Cx:=X.Dx λ_ _=>False
theorem Cx.Ok.Dx{X:Cx}(ok:X.Ok)(E:ab->ae->Prop):(X.Dx E).Ok:=
 ⟨ok.G?,ok.kind,ok.Dw,ok.blt,ok.above,ok.inj,ok.has,ok.cab,ok.hd,ok.frames,ok.stk,ok.exf,ok.bs,ok.bsz,ok.η,ok.ξ,ok.u7,ok.frf⟩
def Cx.Ok.pw{X:Cx}(ok:(X.Dx E).Ok):X.Ok:=
 ⟨ok.G?,ok.kind,ok.Dw,ok.blt,ok.above,ok.inj,ok.has,ok.cab,ok.hd,ok.frames,ok.stk,ok.exf,ok.bs,ok.bsz,ok.η,ok.ξ,ok.u7,ok.frf⟩
section
variable{X:Cx}{pins:cD}{σ:St}{H:Hp}{s:ae}{E:ab->ae->Prop}
theorem c3.Dx(I:c3 X pins σ H s)(E:ab->ae->Prop):c3 (X.Dx E) pins σ H s:=⟨I.ok.Dx E,I.os,I.mn,I.b?,I.L',I.cell,I.free,I.nq,I.M',I.fx,I.len⟩
theorem c3.pw(I:c3 (X.Dx E) pins σ H s):c3 X pins σ H s:=⟨I.ok.pw,I.os,I.mn,I.b?,I.L',I.cell,I.free,I.nq,I.M',I.fx,I.len⟩
theorem SP.pw(h:SP (X.Dx E) pins D f c):SP X pins D f c:=by
 cases f with
 |next=>obtain⟨a,b,I,q⟩:=h;exact⟨a,b,I.pw,q⟩
 |brk=>obtain⟨a,b,I,q⟩:=h;exact⟨a,b,I.pw,q⟩
 |cont=>obtain⟨a,b,I,q⟩:=h;exact⟨a,b,I.pw,q⟩
 |ret u=>obtain⟨v,a,b,I,r,q⟩:=h;exact⟨v,a,b,I.pw,r,q⟩
theorem qi.nox{st:List Stmt}{t:TS}(h:qi X.nox st t):qi X st t:=λpins s σ H D I a=>
 b8 (h pins s σ H D (I.Dx _) a) (λ_ _ q=>q.pw) λ_ _ z=>de z
end
section
variable{X:Cx}{st:Stmt}{ey:List Stmt}{t u:TS}{e:Expr}{te:TE}{pos:Pos}
def acI:TS:=λD a H=>D.nx a H
def tSeq(t u:TS):TS:=λD σ H=>t { D with nx:=u D } σ H
def VX:qi X [] acI:=λ_ _ a H _ I h=>jK ⟨a,H,I,h⟩
def IA(b:PS X st t)(c:qi X ey u):qi X (st::ey) (tSeq t u):=by
 intro pins s σ H D I h;refine pM (f5 (b pins s σ H { D with nx:=u D } I h) λf d q=>?_);cases f with
 |next=>obtain⟨σ',H',a,q⟩:=q;exact c pins d σ' H' D a q
 |ret v=>exact q
 |brk=>exact q
 |cont=>exact q
def LG(b:PS X st t):qi X [st] t:=by
 intro a s c H D I h;refine pM (f5 (b a s c H D I h) λf d q=>?_);cases f with
 |next=>exact jK q
 |ret v=>exact q
 |brk=>exact q
 |cont=>exact q
def c3.quiet(I:c3 X a b H s):interactive X.b1=δ:=by simp[interactive,I.ok.kind]
def X6(te:TE):TS:=λD a H=>te a H λ_ b=>D.nx a b
def Pi(f:PE X e te)(i:dG e J pos.line X.b1=pure δ:=by rfl):PS X (.Expr e pos) (X6 te):=by intro a s b H D I h;exact wpAny_Expr_any (f5 (f a s b H _ I h) λv m ⟨x,c,d,l,j⟩=>⟨b,c,d,j⟩) I.quiet i
def tRet(te:TE):TS:=λD a H=>te a H D.rt
def Of(f:PE X e te):PS X (.Return (Z e) pos) (tRet te):=by intro a s b H D I h;exact wpAny_Return_some (f5 (f a s b H _ I h) λv l ⟨x,c,d,j,i⟩=>⟨x,b,c,d,j,i⟩)
def tIfS(c:TT)(t u:TS):TS:=λD a H=>c a H λb d=>if b=γ then t D a d else u D a d
def acK(r:PT X c w)(p:qi X a t)(q:qi X b u):PS X (.If c a b pos) (tIfS w t u):=by
 intro f s i H D I h;refine wpAny_If (f5 (r f s i H _ I h) λd o zz=>?_);obtain⟨j,l,m⟩:=zz;cases d with
 |true=>exact p f o i j D l m
 |false=>exact q f o i j D l m
end
abbrev TG:=V->St->Hp->(St->Hp->Prop)->Prop
abbrev TGs:=bL->St->Hp->(St->Hp->Prop)->Prop
def PG(X:Cx)(target:Expr)(t:TG):Prop:=
 ∀(a:cD) (s:ae) (d:St) (H:Hp) (v:V) (u:ab) (Q:St->Hp->Prop),c3 X a d H s->e8 v u->t v d H Q->
  ah (model X.prog X.w) X.A (assign target X.b1 u) (λ_ e=>∃b c,c3 X a b c e/\Q b c) X.xe s
def R'(X:Cx)(i:List Expr)(t:TGs):Prop:=
 ∀(a:cD) (s:ae) (f:St) (H:Hp) (e:bL) (d:List ab) (Q:St->Hp->Prop),c3 X a f H s->er e d->t e f H Q->
  ah (model X.prog X.w) X.A (assignInOrder ((b9 i X.b1).map (·.2)) d) (λ_ h=>∃b c,c3 X a b c h/\Q b c) X.xe s
abbrev TSet:=V->V->V->Hp->(Hp->Prop)->Prop
def PSet(X:Cx)(t:TSet):Prop:=
 ∀(a:cD) (s:ae) (e:St) (H:Hp) (o i v:V) (d c u:ab) (Q:Hp->Prop),c3 X a e H s->e8 o d->e8 i c->e8 v u->t o i v H Q->
  ah (model X.prog X.w) X.A (setItem d c u) (λ_ f=>∃b,c3 X a e b f/\Q b) X.xe s
section
variable{X:Cx}{pos:Pos}
def AY(i:Nat):TG:=λv a H Q=>Q (a.set i (Z v)) H
def Pj(hN:X.N.Nodup)(d:X.N[i]?=Z x)(e:Loc X.b1.scope x)(c:X.fn x=γ\/X.b1.scope.names.lookup x=Z .local:=by first|exact .inl O|exact .inr O|assumption):PG X (.Name x pos) (AY i):=by intro a s j H v u Q I r h;exact wpAny_assign_Name (MP I hN d e r (λf b=>⟨_,H,b,h⟩) c)
def gNil:TGs:=λa b H Q=>a=[]/\Q b H
def X7(t:TG)(u:TGs):TGs:=λc d H Q=>∃v r,c=v::r/\t v d H λa b=>u r a b Q
def VY:R' X [] gNil:=by intro a s b H d c Q I r h;obtain⟨e,h⟩:=h;subst e;cases r;exact assignInOrder_nil ⟨b,H,I,h⟩
def Sk(j:PG X e t)(l:R' X b u)
  (m:(b9 (e::b) X.b1).map (·.2)=assign e X.b1::(b9 b X.b1).map (·.2):=by rfl):R' X (e::b) (X7 t u):=by
 intro a s w H z x Q I r h;obtain⟨v,y,i,h⟩:=h;subst i;cases r with
 |cons r p=>rw[m];refine assignInOrder_cons (f5 (j a s w H _ _ _ I r h) λ_ q zz=>?_);obtain⟨c,d,f,o⟩:=zz;exact l a q c d _ _ Q f p o
def YY(K:av)(n:Nat)(t:TGs):TG:=λv c H Q=>∃a b,v=.ref a/\ij K H a b/\b.length=n/\t b c H Q
def YZ(i:X.n6=γ)(h:R' X es t)
  (hn:(b9 es X.b1).length=n:=by rfl) (hst:(b9 es X.b1).findIdx? (·.1)=J:=by rfl):PG X (.Tuple es k pos) (YY X.K n t):=by
 intro pins s σ H v u Q I r hw;obtain⟨a,xs,f,l,j,hw⟩:=hw;subst f;cases r;obtain⟨q,c,m,w⟩:=I.tuple l;refine assign_Tuple_tuple (I.ok.hd i) m (by simp[hn,<- j,c.length]) hst λh' p=>?_;have d:c3 X pins σ H { s with heap:=h' }:=I.g? (t':=s.toks) λb o e=>p b o (bb (aR e)) e;exact h pins _ σ H xs _ Q d (by simpa using c) hw
def gSub(to e:TE)(t:TSet):TG:=λv a H Q=>to a H λo b=>e a b λi c=>t o i v c λd=>Q a d
def Y0(z:PE X o to)(w:PE X i N)(A:PSet X t)
  (q:∀v,assign (.Subscript o i pos) X.b1 v=(do
   let b<-holding [v] (eval o X.b1);let c<-holding [v,b] (eval i X.b1)
   standAt pos
   holding [v,b,c] (setItem b c v)
   release [v,b,c] []):=by intro _;rfl):PG X (.Subscript o i pos) (gSub to N t):=by
 intro a s d H v u Q I r h;rw[q];refine af (bP (f5 (z a s d H _ I h) λb G zz=>?_));obtain⟨x,e,l,E,B⟩:=zz;refine af (bP (f5 (w a G d e _ l B) λc M zz=>?_));obtain⟨y,f,m,F,C⟩:=zz;refine af (jO (af (bP (f5 (A a M d f x y v b c u _ m E F r C) λ_ P zz=>?_))));obtain⟨j,p,q3⟩:=zz;exact wpAny_release ⟨d,j,p,q3⟩
def Ex(c:TE)(g:TG):TS:=λD a H=>c a H λx b=>g x a b D.nx
def Sm(j:PE X e u)(l:PG X b g)(m:swapsWithSole [b] e pos.line X.b1=pure δ:=by rfl)(o:swappedStores [b] e X.b1=pure J:=by rfl)
  (i:(b9 [b] X.b1).map (·.2)=[assign b X.b1]:=by rfl):PS X (.Assign [b] e pos) (Ex u g):=by
 intro a s c H D I h;refine wpAny_Assign_stores (f5 (j a s c H _ I h) λv t zz=>?_) m o;obtain⟨x,d,f,r,p⟩:=zz;rw[i];exact f5 (l a t c d x v _ f r p) λ_ w q=>q
def Y1(hN:X.N.Nodup)(l:X.N[i]?=Z x)(o:Loc X.b1.scope x)(f:PE X e r)(m:dG e (Z (.Name x pos')) pos.line X.b1=pure δ:=by rfl)(j:X.fn x=γ\/X.b1.scope.names.lookup x=Z .local:=by first|exact .inl O|exact .inr O|assumption):
  PS X (.Assign [.Name x pos'] e pos) (Ex r (AY i)):=by
 intro a s t H D I h;refine wpAny_Assign_Name (f5 (f a s t H _ I h) λv u zz=>?_) m;obtain⟨y,b,c,q,p⟩:=zz;exact MP c hN l o q (λw d=>⟨_,b,d,p⟩) j
end
section
variable{X:Cx}{pos:Pos}
def Sn(c:TT)(d:TS):TS:=λD σ H=>∃W:Nat->St->Hp->Prop,(∃m,W m σ H)/\∀m σ H,W m σ H->
 c σ H λb H1=>if b=γ then ∃N:St->Hp->Prop,(∀σ' H',N σ' H'->∃a,a<m/\W a σ' H')/\d { D with nx:=N,ct:=N,bk:=D.nx } σ H1 else D.nx σ H1
def So(y:jX (model X.prog X.w) X.A X.b1 X.xe)(C:PT X c Q)(B:qi X body P):PS X (.While c body [] pos) (Sn Q P):=by
 intro a s T H D I h;obtain⟨W,⟨E,R⟩,turn⟩:=h;refine wpAny_While (codeAny_whileLoop (λn F=>∃j r,c3 X a j r F/\W n j r) ?_ E ⟨T,H,I,R⟩);rintro n G ⟨e,t,z,S⟩;refine f6 y (f5 (C a G e t _ z (turn n e t S)) λb M zz=>?_);obtain⟨u,x,l⟩:=zz;cases b with
 |true=>
  obtain⟨N,hN,l⟩:=l;rw[aj O];refine f6 y (f5 (B a M e u _ x l) λf U q3=>?_);cases f with
  |next=>obtain⟨d,i,m,q⟩:=q3;obtain⟨p,o,w3⟩:=hN d i q;exact⟨p,o,d,i,m,w3⟩
  |cont=>obtain⟨d,i,m,q⟩:=q3;obtain⟨p,o,w3⟩:=hN d i q;exact⟨p,o,d,i,m,w3⟩
  |brk=>exact q3
  |ret v=>exact q3
 |false=>rw[ao bu];exact jK ⟨e,u,x,l⟩
end
structure It where
 go:Nat->Hp->Prop
 yld:Nat->Hp->V->Hp->Prop
 Q':Nat->Hp->Prop
def LH(X:Cx)(a:cD)(H:Hp)(b:Addr):Prop:=
 H b=J/\b≠X.b1.locals/\b∉X.fs/\(b∈X.ex\/X.s₀.heap.objs.size<=b)/\(∀x c,X.b1.cells.lookup x=Z c->c≠b)/\∀p∈X.pn++a,p.1≠b
def c3.ζ(I:c3 X d j H s)(a:s.heap.objs.size<=b)(h:f b=J):LH X d f b:=by
 refine⟨h,gm (cv I.lt a),I.nofs a,.inr (bG I.sz a),λx c e z=>?_,λp i z=>?_⟩
 .obtain⟨v,q⟩:=I.cell x c e;exact aq (cv q.lt (by rw[z];exact a)) (eK _)
 .exact aq (cv (aR (I.M' p i).1) (by rw[z];exact a)) (eK _)
structure π(P:aH)(w:az)(K:av)(tg:Expr)(At:It)(fp:List Addr)(it:Addr)(tn:Nat->Heap->Prop):Prop where
 mem:it∈fp
 obj:∀i h,tn i h->∀b∈fp,∃o,h.get? b=Z o/\∀v,o.data≠.cell v
 keep:∀i h h',tn i h->(∀b∈fp,∀o,h.get? b=Z o->h'.get? b=Z o)->tn i h'
 item:∀(X:Cx),X.prog=P->X.w=w->X.K=K->X.n6=γ->∀(i:Nat) (pins:cD) (s:ae) (σ:St) (H:Hp) (E:ab->ae->Prop),c3 X pins σ H s->(∀b∈fp,LH X pins H b)->tn i s.heap->At.go i H->
  ah (model P w) X.A (pyNext (.ref it)) (λr s1=>∃u,r=Z u/\
   ah (model P w) X.A (gV tg (.ref it) u) (λ_ s2=>∃x H',c3 X pins σ H' s2/\e8 x u/\At.yld i H x H'/\tn (i+1) s2.heap/\∀b∈fp,H' b=J) E s1) E s
 done:∀(X:Cx),X.prog=P->X.w=w->X.K=K->X.n6=γ->∀(i:Nat) (pins:cD) (s:ae) (σ:St) (H:Hp) (E:ab->ae->Prop),c3 X pins σ H s->(∀b∈fp,LH X pins H b)->tn i s.heap->At.Q' i H->
  ah (model P w) X.A (pyNext (.ref it)) (λr s1=>r=J/\c3 X pins σ H s1) E s
 self:∀(A:aJ) (i:Nat) (s:ae) (Q:ab->ae->Prop) (E:ab->ae->Prop),tn i s.heap->Q (.ref it) s->ah (model P w) A (pyIter (.ref it)) Q E s
abbrev TI:=St->Hp->(It->Hp->Prop)->Prop
def PIE(X:Cx)(a:cD)(l:St)(j:Expr)(R:It->Hp->Prop)(itv:ab)(h:ae):Prop:=
 ∃(f:Addr) (e:List Addr) (i:Nat->Heap->Prop) (d:It) (c:Hp),itv=.ref f/\c3 X a l c h/\π X.prog X.w X.K j d e f i/\i 0 h.heap/\(∀b∈e,LH X a c b)/\R d c
def PI(X:Cx)(d iter:Expr)(e:TI):Prop:=
 ∀(a:cD) (s:ae) (b:St) (H:Hp) (R:It->Hp->Prop),c3 X a b H s->e b H R->
  ah (model X.prog X.w) X.A (eval iter X.b1) (λv c=>ah (model X.prog X.w) X.A (pyIter v) (PIE X a b d R) X.xe c) X.xe s
def Pk{s:ae}(c:s.heap.get? d=Z o)(a:o.cls=.type n)(hd:o.data=.fields f)
  (b:["enumerate", "zip", "dict_itemiterator", "dict_reverseitemiterator", "odict_iterator", "itertools.zip_longest", "itertools.pairwise"].contains n=δ) (hQ:Q () s):ah M A (gV e (.ref d) u) Q E s:=by
 unfold gV;cases e<;>first
  |exact ar hQ
  |(cases u<;>first
    |exact ar hQ
    |(refine af (wpAny_load c ?_)
      rw[a,hd];show ah M A (if (["enumerate", "zip", "dict_itemiterator", "dict_reverseitemiterator", "odict_iterator", "itertools.zip_longest", "itertools.pairwise"].contains n&&f[0]?==Z (rawInt _))=γ then _ else _) Q E s;rw[ao (by intro h;rw[b,Bool.false_and]at h;cases h)];exact ar hQ))
def Itl(K:av)(a:Addr):It:=
 ⟨λi H=>∃b x,gi K H a b/\b[i]?=Z x,λi H x c=>c=H/\∀b,gi K H a b->b[i]?=Z x,λi H=>∃b,gi K H a b/\b.length<=i⟩
def Itt(K:av)(a:Addr):It:=
 ⟨λi H=>∃b x,ij K H a b/\b[i]?=Z x,λi H x c=>c=H/\∀b,ij K H a b->b[i]?=Z x,λi H=>∃b,ij K H a b/\b.length<=i⟩
def Itr(lo:Int)(n:Nat):It:=⟨λi _=>i<n,λi H x a=>a=H/\x=.int (lo+i),λi _=>n<=i⟩
def QR{P:aH}{w:az}{K:av}{tg:Expr}(a it:Addr):π P w K tg (Itl K a) [it] it (λi h=>h.IsListIter it a i) where
 mem:=by simp
 obj:=λi h st b hb=>by
  have e:b=it:=by simpa using hb
  subst e;obtain⟨o,e,c,d⟩:=st;exact⟨o,e,λv z=>by rw[d]at z;cases z⟩
 keep:=λi h h' st k=>st.at λo e=>k it (by simp) o e
 item:=by intro X hP hw hK C i pins s σ H E I hf st hg;subst hP hw hK;obtain⟨xs,x,j,y⟩:=hg;obtain⟨A,B,p,R⟩:=I.list j;obtain⟨u,N,S⟩:=B.get y;obtain⟨l,m,M,q,r,t⟩:=hf it (by simp);refine og st p.isList (x:=u) (by simpa using N) λh' f T=>?_;have F:c3 X pins σ H { s with heap:=h' }:=I.lb (t':=s.toks) (λb o hb e=>(T.2 b hb).t e) l m q r t;obtain⟨o,e,c,d⟩:=id f;exact⟨u,O,Pk (s:={ s with heap:=h' }) e c d (by decide) ⟨x,H,F,S,⟨O,λY Q=>by rw[I.P0 Q j];exact y⟩,f,λb hb=>(hf b hb).1⟩⟩
 done:=by intro X hP hw hK C i pins s σ H E I hf st hg;subst hP hw hK;obtain⟨xs,j,y⟩:=hg;obtain⟨A,B,p,R⟩:=I.list j;obtain⟨l,m,M,q,r,t⟩:=hf it (by simp);have W:=B.length;exact ox (I.ok.hd C) st p.isList (by simp;omega) λh' G=>⟨O,I.lb (t':=s.toks) (λb o hb e=>G b o hb e) l m q r t⟩
 self:=λ_ _ _ _ _ st h=>wpAny_pyIter_listiter st h
def Og{P:aH}{w:az}{K:av}{tg:Expr}(a it:Addr):π P w K tg (Itt K a) [it] it (λi h=>h.IsTupleIter it a i) where
 mem:=by simp
 obj:=λi h st b hb=>by
  have e:b=it:=by simpa using hb
  subst e;obtain⟨o,e,c,d⟩:=st;exact⟨o,e,λv z=>by rw[d]at z;cases z⟩
 keep:=λi h h' st k=>st.at λo e=>k it (by simp) o e
 item:=by intro X hP hw hK C i pins s σ H E I hf st hg;subst hP hw hK;obtain⟨xs,x,l,A⟩:=hg;obtain⟨f,B,p,R⟩:=I.tuple l;obtain⟨u,N,S⟩:=B.get A;obtain⟨m,q,M,r,t,y⟩:=hf it (by simp);refine wpAny_pyNext_tuple_item st (show s.heap.IsTuple a f.toArray from p) (x:=u) (by simpa using N) λh' j T=>?_;have F:c3 X pins σ H { s with heap:=h' }:=I.lb (t':=s.toks) (λb o hb e=>(T.2 b hb).t e) m q r t y;obtain⟨o,e,c,d⟩:=id j;exact⟨u,O,Pk (s:={ s with heap:=h' }) e c d (by decide) ⟨x,H,F,S,⟨O,λY Q=>by rw[I.D? Q l];exact A⟩,j,λb hb=>(hf b hb).1⟩⟩
 done:=by intro X hP hw hK C i pins s σ H E I hf st hg;subst hP hw hK;obtain⟨xs,l,A⟩:=hg;obtain⟨f,B,p,R⟩:=I.tuple l;obtain⟨m,q,M,r,t,y⟩:=hf it (by simp);have W:=B.length;exact wpAny_pyNext_tuple_end (I.ok.hd C) st (show s.heap.IsTuple a f.toArray from p) (by simp;omega) λh' G=>⟨O,I.lb (t':=s.toks) (λb o hb e=>G b o hb e) m q r t y⟩
 self:=λ_ _ _ _ _ st h=>wpAny_pyIter_tupleiter st h
def Oh{P:aH}{w:az}{K:av}{tg:Expr}(it:Addr)(lo:Int)(n:Nat):π P w K tg (Itr lo n) [it] it (λi h=>IsRangeIter h it (lo+(i:Nat) * 1) ((n:Int) - (i:Nat)) 1) where
 mem:=by simp
 obj:=λi h st b hb=>by
  have e:b=it:=by simpa using hb
  subst e;exact⟨_,st,λv z=>by
   have y:Data.fields _=Data.cell v:=z;cases y⟩
 keep:=λi h h' st k=>k it (by simp) _ st
 item:=by intro X hP hw hK m i pins s σ H E I hf st hg;subst hP hw hK;obtain⟨c,d,r,f,j,l⟩:=hf it (by simp);have W:=Walks.range (prog:=X.prog) (w:=X.w) (I.ok.hd m) it lo 1 n;refine W.item i s _ _ hg st λv h' tk u a x=>?_;obtain⟨t,rfl⟩:=u;have p:c3 X pins σ H { s with heap:=h',toks:=tk }:=I.lb (λb o hb e=>x b o (by simpa using hb) e) c d f j l;refine⟨_,O,Pk (s:={ s with heap:=h',toks:=tk }) (n:="range_iterator") a rfl O (by decide) ⟨.int (lo+i),H,p,⟨t,?_⟩,⟨O,O⟩,a,λb hb=>(hf b hb).1⟩⟩;rw[Int.mul_one]
 done:=by intro X hP hw hK m i pins s σ H E I hf st hg;subst hP hw hK;obtain⟨c,d,r,f,j,l⟩:=hf it (by simp);exact wpAny_pyNext_range_end (I.ok.hd m) st (by have:n<=i:=hg;omega) λh' q=>⟨O,I.lb (t':=s.toks) (λb o hb e=>q b o hb e) c d f j l⟩
 self:=λ_ _ _ _ _ st h=>wpAny_pyIter_rangeiter st h
section
variable{X:Cx}{tg:Expr}
def Sq(K:av)(c:TE):TI:=λe H R=>c e H λx b=>∃a,x=.ref a/\(∃d,gi K b a d)/\R (Itl K a) b
def Y2(K:av)(c:TE):TI:=λe H R=>c e H λx b=>∃a,x=.ref a/\(∃d,ij K b a d)/\R (Itt K a) b
def VZ{l:Expr}{i:TE}(r:PE X l i):PI X tg l (Sq X.K i):=by
 intro c s z H R I h;refine f5 (r c s z H _ I h) λv f zz=>?_;obtain⟨x,j,d,y,w⟩:=zz;obtain⟨a,e,⟨E,t⟩,q⟩:=w;subst e;cases y;obtain⟨u,B,p,A⟩:=d.list t;refine fV p.isList ?_;refine⟨f.heap.objs.size,[f.heap.objs.size],_,_,j,O,d.g? (t':=f.toks) λb o e=>aK _ e,QR a _,⟨_,bx _ O,O,O⟩,λb m=>?_,q⟩;have e:b=f.heap.objs.size:=by simpa using m
 subst e;exact d.ζ (aN _) (d.fx.fresh (aN _))
def Y3{l:Expr}{j:TE}(t:PE X l j):PI X tg l (Y2 X.K j):=by
 intro c s z H R I h;refine f5 (t c s z H _ I h) λv d zz=>?_;obtain⟨x,m,f,y,w⟩:=zz;obtain⟨a,e,⟨E,u⟩,q⟩:=w;subst e;cases y;obtain⟨i,B,p,A⟩:=f.tuple u;refine o4 (show d.heap.IsTuple a i.toArray from p) ?_;refine⟨d.heap.objs.size,[d.heap.objs.size],_,_,m,O,f.g? (t':=d.toks) λb o e=>aK _ e,Og a _,⟨_,bx _ O,O,O⟩,λb r=>?_,q⟩;have e:b=d.heap.objs.size:=by simpa using r
 subst e;exact f.ζ (aN _) (f.fx.fresh (aN _))
def MQ{pins:cD}{σ:St}{H:Hp}{s:ae}{R:It->Hp->Prop}{E:ab->ae->Prop}{lo hi:Int}{t u v:Tok}{tk:Nat}(I:c3 X pins σ H s)(f:-(2 ^ 62)<=lo)(h:lo<2 ^ 62)(i:-(2 ^ 62)<=hi)(j:hi<2 ^ 62)
  (q:R (Itr lo (hi - lo).toNat) H):ah (model X.prog X.w) X.A (pyIter (.ref s.heap.objs.size)) (PIE X pins σ tg R) E { s with heap:=s.heap.push { cls:=.type "range", data:=.fields #[.int lo t,.int hi u,.int 1 v] },toks:=tk }:=by
 refine wpAny_pyIter_range (IsRange.new ..) (small_one f h i j) ?_;have a:c3 X pins σ H { s with heap:=s.heap.push { cls:=.type "range", data:=.fields #[.int lo t,.int hi u,.int 1 v] },toks:=tk }:=I.g? λb o e=>aK _ e;refine⟨(s.heap.push { cls:=.type "range", data:=.fields #[.int lo t,.int hi u,.int 1 v] }).objs.size,[(s.heap.push { cls:=.type "range", data:=.fields #[.int lo t,.int hi u,.int 1 v] }).objs.size],_,_,H,O,
  a.g? (t':=tk) λb o e=>aK _ e,Oh _ lo (hi - lo).toNat,?_,λb hb=>?_,q⟩
 .have c:lo+((0:Nat):Int) * 1=lo:=by simp
  have d:(((hi - lo).toNat:Nat):Int) - ((0:Nat):Int)=tN lo hi 1:=by rw[rangeSize_one];split<;>omega
  show IsRangeIter _ _ (lo+((0:Nat):Int) * 1) ((((hi - lo).toNat:Nat):Int) - ((0:Nat):Int)) 1;rw[c,d];exact bx _ O
 .have e:b=(s.heap.push { cls:=.type "range", data:=.fields #[.int lo t,.int hi u,.int 1 v] }).objs.size:=by simpa using hb
  subst e;exact a.ζ (aN _) (a.fx.fresh (aN _))
def X8(b:TA):TI:=λd H R=>b d H λc a=>∃j:Int,c=[.int j]/\-(2 ^ 62)<=j/\j<2 ^ 62/\R (Itr 0 j.toNat) a
def X9(b:TA):TI:=λd H R=>b d H λc a=>∃i j:Int,c=[.int i,.int j]/\(-(2 ^ 62)<=i/\i<2 ^ 62/\-(2 ^ 62)<=j/\j<2 ^ 62)/\R (Itr i (j - i).toNat) a
def QS{a:Expr}{d:TA}{p pos:Pos}(l:Gl X "range")(m:X.mg "range" = J)(i:PA X [a] d)(o:aA [a] X.b1=[(δ,eval a X.b1)]:=by rfl):PI X tg (.Call (.Name "range" p) [a] [] pos) (X8 d):=by
 intro b s y H R I h;refine Call_ (BZ I l m boot_range (callWith_type1 (f5 (i pos b s y H _ I h) λB A zz=>?_) o O));obtain⟨C,z,f,w,c⟩:=zz;obtain⟨j,e,c,u,q⟩:=c;subst e;cases w with
 |cons r x=>cases x;obtain⟨t,rfl⟩:=r;exact call_range_1 (MQ f (by omega) (by omega) c u (by simpa using q))
def QT(u:Gl X "range")(w:X.mg "range" = J)(o:PA X [a,b] C)(x:aA [a,b] X.b1=[(δ,eval a X.b1),(δ,eval b X.b1)]:=by rfl)(c:aA [b] X.b1=[(δ,eval b X.b1)]:=by rfl):
  PI X tg (.Call (.Name "range" p) [a,b] [] pos) (X9 C):=by
 intro d s E H R I h;refine Call_ (BZ I u w boot_range (callWith_type1 (f5 (o pos d s E H _ I h) λN G zz=>?_) (by rw[x,c]) (by rw[c];rfl)));obtain⟨P,F,m,B,f⟩:=zz;obtain⟨i,j,e,⟨f,y,q3,z⟩,q⟩:=f;subst e;cases B with
 |cons r l=>
  cases l with
  |cons A l=>cases l;obtain⟨t,rfl⟩:=r;obtain⟨M,rfl⟩:=A;exact call_range_2 (MQ m f y q3 z q)
def Y4(d:TI)(g:TG)(c:TS):TS:=λD σ H=>d σ H λAt H1=>∃W:Nat->Nat->St->Hp->Prop,(∃m,W 0 m σ H1)/\∀i m σ H,W i m σ H->
 (At.Q' i H/\D.nx σ H)\/(At.go i H/\∃N:St->Hp->Prop,(∀σ' H',N σ' H'->∃b,b<m/\W (i+1) b σ' H')/\∀x H',At.yld i H x H'->g x σ H' λa H2=>c { D with nx:=N,ct:=N,bk:=D.nx } a H2)
def IB(a:List Addr)(h:Heap):cD:=a.filterMap λb=>(h.get? b).map λo=>(b,o)
def As{h:Heap}(a:b∈fp)(e:h.get? b=Z o):(b,o)∈IB fp h:=iF.2 ⟨b,a,by rw[e];rfl⟩
def QU(f:p∈IB c h):p.1∈c/\h.get? p.1=Z p.2:=by
 obtain⟨b,d,e⟩:=iF.1 f;cases q:h.get? b with
 |none=>rw[q]at e;cases e
 |some o=>rw[q]at e;have a:(b,o)=p:=cI e;subst a;exact⟨d,q⟩
def c3.T'(I:c3 X a r H s)(l:∀b∈fp,LH X a H b)(m:∀b∈fp,∃o,s.heap.get? b=Z o/\∀v,o.data≠.cell v):c3 X (a++IB fp s.heap) r H s:=
 I.Y? λp q=>(aV.1 q).elim (λz=>I.M' p (bA _ z)) λz=>by obtain⟨f,e⟩:=QU z;obtain⟨h,i,j,_⟩:=l p.1 f;obtain⟨o,c,d⟩:=m p.1 f;rw[e]at c;cases c;exact⟨e,h,i,j,d⟩
def c3.p5(I:c3 X (a++pl) c H s):c3 X a c H s:=I.Y? λp b=>I.M' p (bA _ (bJ _ b))
def Sr(F:jX (model X.prog X.w) X.A X.b1 X.xe)(hc:X.n6=γ)(hi:PI X tg iter wi)(hg:PG X tg g)(p:qi X body tb)
  (hs:∀x,iH iter X.b1 x=pure x:=by intro _;rfl):PS X (.For tg iter body [] pos) (Y4 wi g tb):=by
 intro a s σ H D I h;refine wpAny_For (f5 (hi a s σ H _ I h) λv s1 h1=>f5 h1 λitv s2 h2=>?_) hs;obtain⟨it,C,tn,At,H2,e,I2,T,Y,f2,W,⟨m0,w0⟩,turn⟩:=h2;subst e;have stat:∀{y:Hp},(∀b∈C,y b=J)->∀b∈C,LH X a y b:=λhn b p=>⟨hn b p,(f2 b p).2⟩;refine codeAny_forLoop_any (λn s'=>∃i q y,c3 X a q y s'/\tn i s'.heap/\(∀b∈C,y b=J)/\W i n q y) ?_ m0 ⟨0,σ,H2,I2,Y,λb p=>(f2 b p).1,w0⟩;rintro n s3 ⟨i,t,P,I3,M,E,w3⟩;rcases turn i n t P w3 with ⟨Q',qn⟩|⟨go,N,hN,step⟩
 .refine f6 F (f5 (T.done X O O O hc i a s3 t P X.xe I3 (stat E) M Q') λr s4 zz=>?_);obtain⟨S,I4⟩:=zz;subst S;exact jK ⟨t,P,I4,qn⟩
 .refine f6 F (f5 (T.item X O O O hc i a s3 t P X.xe I3 (stat E) M go) λr s4 zz=>?_);obtain⟨u,S,h4⟩:=zz;subst S;refine f6 F (f5 h4 λ_ s5 zz=>?_);obtain⟨x,H5,I5,r5,y5,B,R⟩:=zz;have Q:=I5.T' (stat R) (T.obj _ _ B);refine f6 F (f5 (hg _ s5 t H5 x u _ Q r5 (step x H5 y5)) λ_ s6 zz=>?_);obtain⟨σ6,H6,I6,q6⟩:=zz;refine f6 F (f5 (p _ s6 σ6 H6 _ I6 q6) λf U z=>?_);have again:∀{c:St} {j:Hp},c3 X (a++IB C s5.heap) c j U->N c j->∃m,m<n/\∃i q y,c3 X a q y U/\tn i U.heap/\(∀b∈C,y b=J)/\W i m q y:=λ{c j} l G=>by obtain⟨m',hm,w7⟩:=hN c j G;refine⟨m',hm,i+1,c,j,l.p5,T.keep _ _ _ B λb p o e=>(l.M' (b,o) (bA _ (bA _ (As p e)))).1,λb p=>?_,w7⟩;obtain⟨o,e,d⟩:=T.obj _ _ B b p;exact(l.M' (b,o) (bA _ (bA _ (As p e)))).2.1
  cases f with
  |next=>obtain⟨c,j,l,G⟩:=z;exact again l G
  |cont=>obtain⟨c,j,l,G⟩:=z;exact again l G
  |brk=>obtain⟨c,j,l,z⟩:=z;exact⟨c,j,l.p5,z⟩
  |ret v=>obtain⟨x7,c,j,l,r7,z⟩:=z;exact⟨x7,c,j,l.p5,r7,z⟩
end
abbrev R2:=V->V->Hp->VK->Prop
def j?(X:Cx)(f:ab->ab->Sem ab)(r:R2):Prop:=
 ∀(a:cD) (s:ae) (b:St) (H:Hp) (x y:V) (v u:ab) (Q:VK),c3 X a b H s->e8 x v->e8 y u->r x y H Q->
  ah (model X.prog X.w) X.A (f v u) (EP X a b Q) X.xe s
def wR(X:Cx)(f:ab)(r:bL->Hp->VK->Prop):Prop:=
 ∀(a:cD) (s:ae) (d:St) (H:Hp) (c:bL) (b:List ab) (Q:VK),c3 X a d H s->er c b->r c H Q->
  ah (model X.prog X.w) X.A (call f b) (EP X a d Q) X.xe s
def tOp(r:R2)(d e:TE):TE:=λa H Q=>d a H λx b=>e a b λy c=>r x y c Q
def rI(C:Int->Int->Prop)(g:Int->Int->V):R2:=λx y H Q=>∃i j,x=.int i/\y=.int j/\C i j/\Q (g i j) H
def W'(g:Int->Int->V):R2:=λx y H Q=>∃i j,x=.int i/\y=.int j/\Q (g i j) H
section
variable{X:Cx}{a b c:Expr}{ta tb tc:TE}{pos:Pos}
def Y5(r:PE X a ta)(t:PE X b tb){d:cD}{s:ae}{i:St}{H:Hp}{R:V->V->Hp->Prop}(I:c3 X d i H s)
  (h:ta i H λx o=>tb i o λy e=>R x y e) {Q:ab->ae->Prop} {f:ab->ab->Sem ab}
  (z:∀v u m x y e,c3 X d i e m->e8 x v->e8 y u->R x y e->ah (model X.prog X.w) X.A (f v u) Q X.xe m):
  ah (model X.prog X.w) X.A (eval a X.b1) (λv j=>ah (model X.prog X.w) X.A (eval b X.b1) (λu l=>ah (model X.prog X.w) X.A (f v u) Q X.xe l) X.xe j) X.xe s:=by
 refine f5 (r d s i H _ I h) λv G zz=>?_;obtain⟨x,o,p,E,B⟩:=zz;refine f5 (t d G i o _ p B) λu m zz=>?_;obtain⟨y,e,q,F,C⟩:=zz;exact z v u m x y e q E F C
def Pl(l:j? X (cJ m) r)(i:PE X a ta)(j:PE X b tb):PE X (.BinOp a m b pos) (tOp r ta tb):=by intro d s w H Q I h;exact wpAny_BinOp (Y5 i j I h λv u t x y e f o p q=>l d t w e x y v u Q f o p q)
def opI{f:ab->ab->Sem ab}{C:Int->Int->Prop}{g:Int->Int->Int}
  (rule:∀(i j:Int) (t u:Tok) (s:ae) (Q:ab->ae->Prop) (E:ab->ae->Prop),C i j->Q (.int (g i j) s.toks) { s with toks:=s.toks+1 }->ah (model X.prog X.w) X.A (f (.int i t) (.int j u)) Q E s):
  j? X f (rI C λi j=>.int (g i j)):=by
 intro pins s σ H x y v u Q I e l h;obtain⟨i,j,rfl,rfl,d,q⟩:=h;obtain⟨t,rfl⟩:=e;obtain⟨m,rfl⟩:=l;exact rule i j t m s _ _ d ⟨.int (g i j),H,I.x? _,⟨_,O⟩,q⟩
def opI0{f:ab->ab->Sem ab}{g:Int->Int->Int}
  (rule:∀(i j:Int) (t u:Tok) (s:ae) (Q:ab->ae->Prop) (E:ab->ae->Prop),Q (.int (g i j) s.toks) { s with toks:=s.toks+1 }->ah (model X.prog X.w) X.A (f (.int i t) (.int j u)) Q E s):
  j? X f (W' λi j=>.int (g i j)):=by
 intro pins s σ H x y v u Q I d e h;obtain⟨i,j,rfl,rfl,q⟩:=h;obtain⟨t,rfl⟩:=d;obtain⟨l,rfl⟩:=e;exact rule i j t l s _ _ ⟨.int (g i j),H,I.x? _,⟨_,O⟩,q⟩
def V0{f:ab->ab->Sem ab}{g:Int->Int->Bool}
  (rule:∀(i j:Int) (t u:Tok) (s:ae) (Q:ab->ae->Prop) (E:ab->ae->Prop),Q (.bool (g i j)) s->ah (model X.prog X.w) X.A (f (.int i t) (.int j u)) Q E s):
  j? X f (W' λi j=>.I (g i j)):=by
 intro d s o H x y v u Q I e l h;obtain⟨i,j,rfl,rfl,q⟩:=h;obtain⟨t,rfl⟩:=e;obtain⟨m,rfl⟩:=l;exact rule i j t m s _ _ ⟨.I (g i j),H,I,O,q⟩
def Y6(i j:Int):Prop:=0<j/\j<1073741824
def CPow(i j:Int):Prop:=0<=j/\j<=1000000/\i.natAbs<2 ^ 64
def V1(i j:Int):Prop:=(-(2 ^ 64)<i/\i<2 ^ 64)\/(-(2 ^ 64)<j/\j<2 ^ 64)
def V1.ok(h:V1 i j):IntMulOk i j:=by
 rcases h with ⟨d,e⟩|⟨d,e⟩
 .exact .of_left (qy d e)
 .exact .of_right (qy d e)
def Y7:j? X (cJ .Add) (W' λi j=>.int (i+j)):=opI0 λ_ _ _ _ _ _ _ q=>add_int q
def Y8:j? X (cJ .Sub) (W' λi j=>.int (i - j)):=opI0 λ_ _ _ _ _ _ _ q=>sub_int q
def Y9:j? X (cJ .Mult) (rI V1 λi j=>.int (i * j)):=opI λ_ _ _ _ _ _ _ d q=>mul_int q d.ok
def V2:j? X (cJ .FloorDiv) (rI Y6 λi j=>.int (i / j)):=opI λi j _ _ _ _ _ d q=>by have e:(0:Int)<j:=d.1;have f:j<1073741824:=d.2;exact floordiv_int (by omega) (by rw[Int.fdiv_eq_ediv_of_nonneg i (by omega)];exact q) (.inl (PyProof.noPylong_small (by omega)))
def Za:j? X (cJ .Mod) (rI (λ_ j=>0<j) λi j=>.int (i % j)):=opI λi j _ _ _ _ _ d q=>by have e:(0:Int)<j:=d;exact mod_int' (by omega) (by rw[Int.fmod_eq_emod_of_nonneg i (by omega)];exact q)
def Zb:j? X (cJ .Pow) (rI CPow λi j=>.int (i ^ j.toNat)):=opI λ_ _ _ _ _ _ _ d q=>pow_int_small d.1 d.2.1 d.2.2 q
end
def Ss:V->V->Bool
 |.E,.E=>γ|.E,.int _=>γ|.int _,.E=>γ|.E,.I _=>γ|.I _,.E=>γ|.E,.str _=>γ|.str _,.E=>γ
 |.int _,.int _=>γ|.I _,.I _=>γ|.str _,.str _=>γ|.U _,.U _=>γ
 |.int _,.str _=>γ|.str _,.int _=>γ|.I _,.str _=>γ|.str _,.I _=>γ
 |_,_=>δ
def rEq:R2:=λx y H Q=>Ss x y=γ/\Q (.I (decide (x=y))) H
def rNe:R2:=λx y H Q=>Ss x y=γ/\Q (.I (!decide (x=y))) H
def Pm:decide (V.int i=V.int j)=(i==j):=by rw[c9];simp
def Su:decide (V.I i=V.I j)=(i==j):=by rw[c9];simp
def Pn:decide (V.str i=V.str j)=(i==j):=by rw[c9];simp
def Po:decide (V.U i=V.U j)=(i.toList==j.toList):=by rw[c9];cases i;cases j;simp
section
variable{X:Cx}{a b c:Expr}{ta tb tc:TE}{pos:Pos}
def vS(I:c3 X d h H s)(q:Q (.I k) H)(e:k=f):EP X d h Q (.bool f) s:=by subst e;exact⟨.I k,H,I,O,q⟩
def acR:j? X (bw .Eq) rEq:=by
 intro m s o H x y v u Q I l d h;obtain⟨f,q⟩:=h;cases x with
 |E=>
  cases l;cases y with
  |E=>cases d;exact sL (vS I q (by simp))
  |I j=>cases d;exact sM (vS I q (by simp))
  |int j=>obtain⟨e,rfl⟩:=d;exact sW (vS I q (by simp))
  |str j=>obtain⟨e,rfl⟩:=d;exact sX (vS I q (by simp))
  |_=>exact aq (show δ=γ from f) bu
 |I i=>
  cases l;cases y with
  |E=>cases d;exact sN (vS I q (by simp))
  |I j=>cases d;exact eq_bool (vS I q Su)
  |str j=>obtain⟨e,rfl⟩:=d;exact sO (vS I q (by simp))
  |_=>exact aq (show δ=γ from f) bu
 |int i=>
  obtain⟨t,rfl⟩:=l;cases y with
  |E=>cases d;exact sY (vS I q (by simp))
  |int j=>obtain⟨e,rfl⟩:=d;exact eq_int (vS I q Pm)
  |str j=>obtain⟨e,rfl⟩:=d;exact sZ (vS I q (by simp))
  |_=>exact aq (show δ=γ from f) bu
 |str i=>
  obtain⟨t,rfl⟩:=l;cases y with
  |E=>cases d;exact tu (vS I q (by simp))
  |I j=>cases d;exact sP (vS I q (by simp))
  |int j=>obtain⟨e,rfl⟩:=d;exact tw (vS I q (by simp))
  |str j=>obtain⟨e,rfl⟩:=d;exact eq_str (vS I q Pn)
  |_=>exact aq (show δ=γ from f) bu
 |U i=>
  obtain⟨t,rfl⟩:=l;cases y with
  |U j=>obtain⟨e,rfl⟩:=d;exact W.eq_bytes (vS I q Po)
  |_=>exact aq (show δ=γ from f) bu
 |_=>cases y<;>exact aq (show δ=γ from f) bu
def acS:j? X (bw .NotEq) rNe:=by
 intro m s o H x y v u Q I l d h;obtain⟨f,q⟩:=h;cases x with
 |E=>
  cases l;cases y with
  |E=>cases d;exact sQ (vS I q (by simp))
  |I j=>cases d;exact sR (vS I q (by simp))
  |int j=>obtain⟨e,rfl⟩:=d;exact tD (vS I q (by simp))
  |str j=>obtain⟨e,rfl⟩:=d;exact tE (vS I q (by simp))
  |_=>exact aq (show δ=γ from f) bu
 |I i=>
  cases l;cases y with
  |E=>cases d;exact sS (vS I q (by simp))
  |I j=>cases d;exact ne_bool (vS I q (bH not Su))
  |str j=>obtain⟨e,rfl⟩:=d;exact sT (vS I q (by simp))
  |_=>exact aq (show δ=γ from f) bu
 |int i=>
  obtain⟨t,rfl⟩:=l;cases y with
  |E=>cases d;exact tG (vS I q (by simp))
  |int j=>obtain⟨e,rfl⟩:=d;exact ne_int (vS I q (bH not Pm))
  |str j=>obtain⟨e,rfl⟩:=d;exact tH (vS I q (by simp))
  |_=>exact aq (show δ=γ from f) bu
 |str i=>
  obtain⟨t,rfl⟩:=l;cases y with
  |E=>cases d;exact tI (vS I q (by simp))
  |I j=>cases d;exact sU (vS I q (by simp))
  |int j=>obtain⟨e,rfl⟩:=d;exact tJ (vS I q (by simp))
  |str j=>obtain⟨e,rfl⟩:=d;exact ne_str (vS I q (bH not Pn))
  |_=>exact aq (show δ=γ from f) bu
 |U i=>
  obtain⟨t,rfl⟩:=l;cases y with
  |U j=>obtain⟨e,rfl⟩:=d;exact W.ne_bytes (vS I q (bH not Po))
  |_=>exact aq (show δ=γ from f) bu
 |_=>cases y<;>exact aq (show δ=γ from f) bu
def acT:j? X (bw .Lt) (W' λi j=>.I (decide (i<j))):=V0 λ_ _ _ _ _ _ _ q=>lt_int q
def acU:j? X (bw .LtE) (W' λi j=>.I (decide (i<=j))):=V0 λ_ _ _ _ _ _ _ q=>le_int q
def acV:j? X (bw .Gt) (W' λi j=>.I (decide (j<i))):=V0 λ_ _ _ _ _ _ _ q=>gt_int q
def acW:j? X (bw .GtE) (W' λi j=>.I (decide (j<=i))):=V0 λ_ _ _ _ _ _ _ q=>ge_int q
def Zc:j? X (bw .Is) (λx y H Q=>y=.E/\Q (.I (decide (x=.E))) H):=by
 intro d s i H x y v u Q I e f h;obtain⟨rfl,q⟩:=h;cases f;refine is_none_gen (vS I q ?_);cases x<;>first
  |(cases e;rfl)
  |(obtain⟨t,rfl⟩:=e;rfl)
def V3:j? X (bw .IsNot) (λx y H Q=>y=.E/\Q (.I (!decide (x=.E))) H):=by
 intro d s i H x y v u Q I e f h;obtain⟨rfl,q⟩:=h;cases f;refine isnot_none_gen (vS I q ?_);cases x<;>first
  |(cases e;rfl)
  |(obtain⟨t,rfl⟩:=e;rfl)
def V4(o:j? X (bw e) r)(j:PE X a ta)(l:PE X b tb)(m:f7 e b=δ):PE X (.Compare a [e] [b] pos) (tOp r ta tb):=by intro d s z H Q I h;exact wpAny_Compare1 (Y5 j l I h λv u w x y f i p t q=>o d w z f x y v u Q i p t q) m
def Sv(t:TE):TT:=λe H Q=>t e H λx d=>∃k,x=.I k/\Q k d
def V5(B:j? X (bw i) r)(t:PE X a ta)(w:PE X b tb)(A:f7 i b=δ):PT X (.Compare a [i] [b] pos) (Sv (tOp r ta tb)):=by
 intro d s f H Q I h;refine ou (f5 (t d s f H _ I h) λv N ⟨x,j,o,F,C⟩=>f5 (w d N f j _ o C) λu P ⟨y,l,p,G,E⟩=>
  f5 (B d P f l x y v u _ p F G E) λc R ⟨z,m,q,M,k,e,q3⟩=>?_) A
 subst e;cases M;exact dw ⟨m,q,q3⟩
def Oi(r j:R2)(ta tb tc:TE):TE:=λd H Q=>ta d H λx f=>tb d f λy h=>r x y h λz e=>∃k,z=.I k/\
 (if k=γ then tc d e λl i=>j y l i Q else Q (.I δ) e)
def Sw(P:j? X (bw p) r)(l:j? X (bw i) U)(F:PE X a ta)(G:PE X b tb)(M:PE X c tc)
  (N:lastMarks [p,i] [b,c]=δ:=by with_unfolding_all rfl):PE X (.Compare a [p,i] [b,c] pos) (Oi r U ta tb tc):=by
 intro f s j H Q I h;refine Compare_chain (f5 (F f s j H _ I h) λv s1 ⟨x,t,B,W,R⟩=>chain_link (f5 (G f s1 j t _ B R) λu s2 ⟨y,w,C,q,S⟩=>
  f5 (P f s2 j w x y v u _ C W q S) λd s3 ⟨z,m,o,Y,k,e,q3⟩=>?_)) N
 subst e;cases Y;refine dw ?_;cases k with
 |false=>exact ite_ff ⟨.I δ,m,o,O,q3⟩
 |true=>exact ite_tt (chain_last (f5 (M f s3 j m _ o q3) λw' s4 ⟨z',A,E,r4,T⟩=>l f s4 j A y z' u w' Q E q r4 T))
def Sx(U:j? X (bw p) r)(l:j? X (bw i) r')(P:PE X a ta)(R:PE X b tb)(S:PE X c tc)
  (T:lastMarks [p,i] [b,c]=δ:=by with_unfolding_all rfl):PT X (.Compare a [p,i] [b,c] pos) (Sv (Oi r r' ta tb tc)):=by
 intro f s j H Q I h;refine isTrue_chain (f5 (P f s j H _ I h) λv s1 ⟨x,t,C,r1,Y⟩=>test_link (f5 (R f s1 j t _ C Y) λu s2 ⟨y,w,E,q,q2⟩=>
  f5 (U f s2 j w x y v u _ E r1 q q2) λd s3 ⟨z,m,o,r3,k,e,q3⟩=>?_)) T
 subst e;cases r3;refine dw ?_;cases k with
 |false=>obtain⟨k',M,W⟩:=q3;cases M;exact ite_ff ⟨m,o,W⟩
 |true=>refine ite_tt (test_last (f5 (S f s3 j m _ o q3) λw' s4 ⟨z',A,F,r4,q4⟩=>f5 (l f s4 j A y z' u w' _ F q r4 q4) λd' s5 ⟨z2,B,G,r5,k2,N,q5⟩=>?_));subst N;cases r5;exact dw ⟨B,G,q5⟩
def Ga:(aG:Nat)<2 ^ 63:=by rw[bQ];decide
def Oj:j? X (cJ .Add) (λx y H Q=>∃i j,x=.str i/\y=.str j/\i.length+j.length<=aG/\Q (.str (i++j)) H):=by intro d s p H x y v u Q I f l h;obtain⟨i,j,rfl,rfl,e,q⟩:=h;obtain⟨t,rfl⟩:=f;obtain⟨m,rfl⟩:=l;exact add_str (λm o=>⟨.str (i++j),H,I.x? _,⟨_,O⟩,q⟩) e
def mq(r:er [x] f):∃u,f=[u]/\e8 x u:=by
 cases r with
 |cons d e=>cases e;exact⟨_,O,d⟩
def Y'(r:er [x,y] j):∃u d,j=[u,d]/\e8 x u/\e8 y d:=by
 cases r with
 |cons e f=>
  cases f with
  |cons h i=>cases i;exact⟨_,_,O,e,h⟩
def QV(l:X.n6=γ):wR X (.builtin "max") (λf H Q=>∃i j,f=[.int i,.int j]/\Q (.int (if j > i then j else i)) H):=by
 intro e s y H f w Q I r h;obtain⟨i,j,rfl,q⟩:=h;obtain⟨u,x,rfl,⟨t,rfl⟩,⟨o,rfl⟩⟩:=Y' r;refine max_two_ints (I.ok.hd l) λm p k=>⟨_,H,I.g? k,?_,q⟩;by_cases d:j > i
 .rw[aj d,aj d];exact⟨_,O⟩
 .rw[ao d,ao d];exact⟨_,O⟩
def QW(l:X.n6=γ):wR X (.builtin "min") (λf H Q=>∃i j,f=[.int i,.int j]/\Q (.int (if j<i then j else i)) H):=by
 intro e s y H f w Q I r h;obtain⟨i,j,rfl,q⟩:=h;obtain⟨u,x,rfl,⟨t,rfl⟩,⟨o,rfl⟩⟩:=Y' r;refine min_two_ints (I.ok.hd l) λm p k=>⟨_,H,I.g? k,?_,q⟩;by_cases d:j<i
 .rw[aj d,aj d];exact⟨_,O⟩
 .rw[ao d,ao d];exact⟨_,O⟩
def QX:wR X (.type "int") (λd H Q=>(∃i,d=[.int i]/\Q (.int i) H)\/∃k,d=[.I k]/\Q (.int (if k then 1 else 0)) H):=by
 intro e s l H d j Q I r h;rcases h with ⟨i,rfl,q⟩|⟨k,rfl,q⟩
 .obtain⟨u,rfl,t,rfl⟩:=mq r;exact call_int_int ⟨.int i,H,I,⟨_,O⟩,q⟩
 .obtain⟨u,rfl,f⟩:=mq r;cases f;exact call_int_bool ⟨.int (if k then 1 else 0),H,I.x? _,⟨_,O⟩,q⟩
def LI:wR X (.type "str") (λe H Q=>∃i,e=[.int i]/\i.natAbs.log2<1920/\Q (.str (toString i)) H):=by intro d s l H e j Q I r h;obtain⟨i,rfl,f,q⟩:=h;obtain⟨u,rfl,t,rfl⟩:=mq r;exact PySem.P.str_of_int f ⟨.str _,H,I.x? _,⟨_,O⟩,q⟩
end
structure Ol(h:Heap)(x dx C:Addr)(mA:Str->Option ab):Prop where
 obj:h.get? x=Z (eQ C dx)
 ns:h.Ns1 dx mA
 ne:dx≠x
def QY{h:Heap}(n:h.Ns1 f mA):∃c,h.get? f=Z c/\∀name,jY name c=Z (mA name):=by
 obtain⟨o,b,p,l,hd,i,_,j⟩:=n;refine⟨o,l,λname=>?_⟩;have e:=j name;unfold nsFind findBy at e;rw[<-Array.find?_toList]at e;unfold jY;rw[hd];dsimp only;split
 .rename_i y q;rw[q]at e;exact bH Z e
 .rename_i q;rw[q]at e;have a:b.toList.any (·.refKey)=δ:=by rw[pj];intro y m;obtain⟨z,t,hkey⟩:=i y (Array.mem_toList_iff.1 m);simp[DictEntry.refKey,hkey]
  have d:¬b.toList.any (·.refKey)=γ:=by rw[a];exact bu
  rw[ao d];exact bH Z e
def Ol.look(I:Ol h x b C mA):∃a,W.InstAt h x (eQ C b) C (Z a)/\∀name,jY name a=Z (mA name):=
 let ⟨a,d,c⟩:=QY I.ns
 ⟨a,⟨I.obj,O,O,d⟩,c⟩
section
variable{prog:aH}{w:az}{A:aJ}{E:ab->ae->Prop}{s:ae}{K:av}{x dx C f:Addr}{mA:Str->Option ab}{name:Str}{v:ab}
def get_map(X:K.In s.heap)(I:Ol s.heap x dx C mA)(hg:jV K C name=γ)(b:mK K C=γ)
  (ha:cP K (.ref C) name=Z J) (d:mA name=Z v) (a:W.handedIn v=γ) (h:Q v { s with toks:=s.toks+1 }):
  ah (model prog w) A (getAttr (.ref x) name expr) Q E s:=by
 obtain⟨od,At,c⟩:=I.look;exact W.get_value X At (l8 hg).1 (W.findObj_own b ha O (by rw[c,d])) a h
def Sy(X:K.In s.heap)(I:Ol s.heap x dx C mA)(a:jV K C name=γ)
  (c:cP K (.ref C) name=Z (Z (.ref f))) (e:j2 K (.ref f)=γ) (i:mA name=J) (h:Q (.ref f,[.ref x]) s):
  ah (model prog w) A (getMethod (.ref x) name pl) Q E s:=by
 obtain⟨j,b,d⟩:=I.look;exact W.method_fn X b (l8 a).1 (l8 a).2 c (beq_iff_eq.mp e) (by show (jY name j).map (·.isSome)=Z δ;rw[d,i];rfl) h
def V6(X:K.In s.heap)(I:Ol s.heap x dx C mA)
  (m:cP K (.ref C) "__setattr__" = Z (Z (.builtin "object.__setattr__"))) (l:qS K C=γ) (p:mY K C name=Z J) (j:mK K C=γ)
  (hw:mw mA ns) (o:ns.length<=aG)
  (h:∀h',Ol h' x dx C (λy=>if y=name then Z v else mA y)->dD dx s.heap h'->Q () { s with heap:=h',toks:=s.toks+2 }):
  ah (model prog w) A (setAttr (.ref x) name v) Q E s:=by
 obtain⟨od,At,u⟩:=I.look;refine W.set_plain X At m (W.osa_open (s:={ s with toks:=s.toks+1 }) (r:=J) X At l p λb=>?_);obtain⟨t,i,e⟩:=W.any_some j;have q:s.heap.get? x=Z ⟨.ref C,Z dx,.plain,#[]⟩:=I.obj;refine af (ar (af (af (wpAny_loadPart q (af (W.Looks.here (s:={ s with toks:=s.toks+1 }) (W.looks_clsIn X i) ?_))))));rw[e];refine ar (a:=Z dx) (af (ar (af ?_)));refine wpAny_nsSet1 (s:={ s with toks:=s.toks+1 }) I.ns λh' c d=>?_;obtain⟨oD,esD,epD,hoD,hdD,hcD⟩:=c.count (uC name v hw);refine af (wpAny_lookBehind hoD (by rw[hdD];exact pastItsLine_dict (bG hcD (by rw[aM];omega))) ?_);exact ar (h _ ⟨(d.2 _ (dj I.ne)).t I.obj,c,I.ne⟩ d)
def SA(X:K.In s.heap)(hm:mZ K C=γ)
  (hi:cP K (.ref C) "__init__" = Z (Z (.ref f))) (hf:W.typeIn K (.ref f)=Z (.type "function"))
  (h:cy (model prog w) (A.under (.builtin "type.__call__" ⟨.ref C::vs,a⟩)) (.call (.ref f) ⟨.ref (s.heap.objs.size+1)::vs,a⟩) (W.InitBack (s.heap.objs.size+1) R)
   { s with heap:=(s.heap.push dX).push (eQ C s.heap.objs.size) }):
  cy (model prog w) A (.call (.ref C) ⟨vs,a⟩) R s:=by
 obtain⟨b,g,d,t,os⟩:=s;exact qT (mX X hm) (qj X hi) (λself=>W.bind_fn X self hf) (.inl O) h
def QZ(X:K.In s.heap)(hm:mZ K C=γ)
  (hi:cP K (.ref C) "__init__" = Z (Z (.builtin "object.__init__")))
  (hb:∀self,W.Looks (model prog w) s.heap (bindSpecial (.builtin "object.__init__") self) (.builtin "object.__init__", [self]))
  (h:cy (model prog w) (A.under (.builtin "type.__call__" ⟨[.ref C],[]⟩)) (.call (.builtin "object.__init__") ⟨[.ref (s.heap.objs.size+1)],[]⟩) (W.InitBack (s.heap.objs.size+1) R)
   { s with heap:=(s.heap.push dX).push (eQ C s.heap.objs.size) }):
  cy (model prog w) A (.call (.ref C) ⟨[],[]⟩) R s:=by
 obtain⟨a,g,d,t,os⟩:=s;exact qT (mX X hm) (qj X hi) hb (.inr ⟨O,O⟩) h
end
def BE(f:Str)(v:V):List (Str×V)->List (Str×V)
 |[]=>[(f,v)]
 |(g,x)::r=>if g=f then (g,v)::r else (g,x)::BE f v r
theorem GU(f g:Str)(v:V):∀fs:List (Str×V),(BE f v fs).lookup g=if g=f then Z v else fs.lookup g
 |[]=>by
  show dE g [(f,v)]=_;by_cases h:g=f
  .have a:(g==f)=γ:=beq_iff_eq.mpr h;simp only[dE,a,aj h]
  .have a:(g==f)=δ:=beq_eq_false_iff_ne.2 h;simp only[dE,a,ao h]
 |(k,x)::r=>by
  have c:=GU f g v r;rw[show BE f v ((k,x)::r)=(if k=f then (k,v)::r else (k,x)::BE f v r) from O];by_cases b:k=f
  .rw[aj b];by_cases h:g=k
   .have a:(g==k)=γ:=beq_iff_eq.mpr h;simp only[dE,a,aj (h.t b)]
   .have a:(g==k)=δ:=beq_eq_false_iff_ne.2 h;simp only[dE,a,ao (λe:g=f=>h (e.t b.symm))]
  .rw[ao b];by_cases h:g=k
   .have a:(g==k)=γ:=beq_iff_eq.mpr h;simp only[dE,a,ao (λe:g=f=>b (h.symm.t e))]
   .have a:(g==k)=δ:=beq_eq_false_iff_ne.2 h;simp only[dE,a];exact c
theorem Gb(f:Str)(v:V):∀fs:List (Str×V),f∈(BE f v fs).map (·.1)/\∀g,g∈fs.map (·.1)->g∈(BE f v fs).map (·.1)
 |[]=>⟨by simp[BE],λg h=>by simp at h⟩
 |(k,x)::r=>by
  obtain⟨b,c⟩:=Gb f v r;rw[show BE f v ((k,x)::r)=(if k=f then (k,v)::r else (k,x)::BE f v r) from O];by_cases a:k=f
  .rw[aj a];subst a;exact⟨by simp,λg h=>by simpa using h⟩
  .rw[ao a];refine⟨?_,λg h=>?_⟩
   .rw[aI];exact ba _ b
   .rw[aI]at h ⊢;rcases aO.1 h with e|e
    .exact aO.2 (.inl e)
    .exact ba _ (c g e)
theorem GV(f:Str)(v:V):∀fs:List (Str×V),(BE f v fs).length<=fs.length+1
 |[]=>by simp[BE]
 |(k,x)::r=>by
  have b:=GV f v r;rw[show BE f v ((k,x)::r)=(if k=f then (k,v)::r else (k,x)::BE f v r) from O];by_cases a:k=f
  .rw[aj a,aM,aM];omega
  .rw[ao a,aM,aM];omega
def Da.K3(r:Da (Z v) o):∃u,o=Z u/\e8 v u:=by
 cases o with
 |none=>exact(show False from r).elim
 |some u=>exact⟨u,O,r⟩
def Da.none_of(r:Da J o):o=J:=by
 cases o with
 |none=>rfl
 |some u=>exact(show False from r).elim
def Q0(r:e8 v u):W.handedIn u=γ:=by
 cases v with
 |E=>cases (show u=Value.none from r);rfl
 |I b=>cases (show u=Value.bool b from r);rfl
 |int i=>obtain⟨t,e⟩:=(show ∃t,u=Value.int i t from r);cases e;rfl
 |str x=>obtain⟨t,e⟩:=(show ∃t,u=Value.str x t from r);cases e;rfl
 |U b=>obtain⟨t,e⟩:=(show ∃t,u=Value.bytes b t from r);cases e;rfl
 |flt b=>obtain⟨t,e⟩:=(show ∃t,u=Value.float b t from r);cases e;rfl
 |ref a=>cases (show u=Value.ref a from r);rfl
 |ty n=>cases (show u=Value.type n from r);rfl
section
variable{P:aH}{w:az}{H H':Hp}{h h':Heap}{a C dx:Addr}{fs fs':List (Str×V)}
def EY(fx:rr P w H h)(e:H a=Z (.nr C dx fs)):∃mA,Ol h a dx C mA/\(∀f,Da (fs.lookup f) (mA f))/\mw mA (fs.map (·.1))/\fs.length<=1000/\H dx=Z (.jj a):=by obtain⟨d,z,b,c,mA,n,r,q⟩:=(show wL P w H h a (.nr C dx fs) from fx a _ e);exact⟨mA,⟨c,n,b⟩,r,q,z,d⟩
end
structure T1(K:av)(C:Addr):Prop where
 pg:jV K C Str.empty=γ
 hd:mK K C=γ
 po:qS K C=γ
 sa:cP K (.ref C) "__setattr__" = Z (Z (.builtin "object.__setattr__"))
def T1.get{K:av}{C:Addr}(c:T1 K C)(f:Str):jV K C f=γ:=c.pg
def Au(K:av)(C:Addr)(f:Str):Prop:=cP K (.ref C) f=Z J
def Au.taker{K:av}{C:Addr}{f:Str}(n:Au K C f):mY K C f=Z J:=by unfold mY;rw[show cP K (.ref C) f=Z J from n];rfl
structure Meth(K:av)(C:Addr)(m:Str)(f:Addr):Prop where
 i?:cP K (.ref C) m=Z (Z (.ref f))
 fn:j2 K (.ref f)=γ
 kp:dZ K (.ref f)=γ
section
variable{X:Cx}{pins:cD}{σ:St}{H:Hp}{s:ae}{a C dx:Addr}{fs:List (Str×V)}{f:Str}{v:V}{A:aJ}{E:ab->ae->Prop}
def Om(I:c3 X pins σ H s)(e:H a=Z (.nr C dx fs))(c:T1 X.K C)(n:Au X.K C f)(l:fs.lookup f=Z v)
  (h:∀u i,c3 X pins σ H i->e8 v u->Q u i):ah (model X.prog X.w) A (getAttr (.ref a) f b) Q E s:=by
 obtain⟨mA,j,r,_,_,_⟩:=EY I.fx e;obtain⟨u,m,d⟩:=Da.K3 (v:=v) (o:=mA f) (by rw[<-l];exact r f);exact get_map I.rf j (c.get f) c.hd n m (Q0 d) (h u _ (I.x? _) d)
def IC(I:c3 X pins σ H s)(e:H a=Z (.nr C dx fs))(c:T1 X.K C)(k:Meth X.K C m g)(l:fs.lookup m=J)
  (h:Q (.ref g,[.ref a]) s):ah (model X.prog X.w) A (getMethod (.ref a) m pl) Q E s:=by
 obtain⟨mA,b,r,_,_,_⟩:=EY I.fx e;have d:mA m=J:=Da.none_of (by rw[<-l];exact r m);exact Sy I.rf b (c.get m) k.i? k.fn d h
def On(I:c3 X pins σ H s)(e:H a=Z (.nr C dx fs))(c:T1 X.K C)(n:Au X.K C f)(P:fs.length<1000)(M:e8 y u)
  (h:∀l,c3 X pins σ (fl H a (.nr C dx (BE f y fs))) l->Q () l):ah (model X.prog X.w) A (setAttr (.ref a) f u) Q E s:=by
 obtain⟨mA,d,r,m,_,j⟩:=EY I.fx e;have G:(fs.map (·.1)).length<=aG:=by rw[ag,bQ];omega
 refine V6 I.rf d c.sa c.po n.taker c.hd m G λt i N=>h _ ?_;have hd:∃o,t.get? dx=Z o:=let ⟨o,_,_,p,_⟩:=i.ns;⟨o,p⟩;refine I.vr (x:=a) (e:=dx) (by rw[e];exact True.intro) (.inr j) (λb q B z=>(N.2 b B).t z) hd ?_;refine⟨by rw[vt d.ne];exact j,?_,d.ne,i.obj,_,i.ns,λg=>?_,λg F=>?_⟩
 .have:=GV f y fs;omega
 .show Da ((BE f y fs).lookup g) (if g=f then Z u else mA g);rw[GU];by_cases q:g=f
  .rw[aj q,aj q];exact M
  .rw[ao q,ao q];exact r g
 .by_cases q:g=f
  .rw[q];exact(Gb f y fs).1
  .refine(Gb f y fs).2 g (m g λz=>F ?_);show (if g=f then Z u else mA g)=J;rw[ao q];exact z
def c3.made(I:c3 X pins σ H s):c3 X pins σ (fl (fl H s.heap.objs.size (.jj (s.heap.objs.size+1))) (s.heap.objs.size+1) (.nr C s.heap.objs.size []))
  { s with heap:=(s.heap.push dX).push (eQ C s.heap.objs.size) }:=by
 have c:(s.heap.push dX).get? s.heap.objs.size=Z dX:=bx s.heap O;have h:((s.heap.push dX).push (eQ C s.heap.objs.size)).get? (s.heap.objs.size+1)=Z (eQ C s.heap.objs.size):=by
  have:=bx (s.heap.push dX) (o:=eQ C s.heap.objs.size) O
  rwa [dc]at this
 have i:(s.heap.push dX).Ns s.heap.objs.size (λ_=>J):=⟨dX,#[],_,c,O,(λe j=>aq j (by simp)),λ_=>O⟩;have d:=I.laid (a:=s.heap.objs.size) (o:=.jj (s.heap.objs.size+1)) (h':=s.heap.push dX) (t':=s.toks) (λb u q=>aK _ q) (aN _) ⟨_,c⟩;refine d.laid (a:=s.heap.objs.size+1) (o:=.nr C s.heap.objs.size []) (t':=s.toks) (λb u q=>aK _ q) (qH (dc _ _)) ?_;have ne:s.heap.objs.size≠s.heap.objs.size+1:=bb (dy _);refine⟨by rw[vt ne,ve],cp _,ne,h,λ_=>J,(Heap.Ns1.of_empty i).at λo q=>aK _ q,λ_=>True.intro,λy l=>aq O l⟩
def V7(c:fJ e f b1 (eval e b1)=eval e b1)
  (h:ah (model prog w) A (eval e b1) (λo b=>ah (model prog w) A (getAttr o f γ) Q E b) E s):ah (model prog w) A (eval (.Attribute e f pos) b1) Q E s:=
 Attribute_any_ h (by rw[arm_eval_Attribute,c])
end
def tFld(K:av)(d:TE)(f:Str):TE:=λe H Q=>d e H λx b=>∃a C c fs v,x=.ref a/\b a=Z (.nr C c fs)/\T1 K C/\Au K C f/\fs.lookup f=Z v/\Q v b
def sFld(K:av)(h i:TE)(f:Str):TS:=λD b H=>i b H λy e=>h b e λx c=>∃a C d fs,x=.ref a/\c a=Z (.nr C d fs)/\T1 K C/\Au K C f/\fs.length<1000/\
 D.nx b (fl c a (.nr C d (BE f y fs)))
section
variable{X:Cx}{o e value:Expr}{f:Str}{pos pos' tpos:Pos}{ta tv:TE}
def Zd(t:PE X e ta)(r:fJ e f X.b1 (eval e X.b1)=eval e X.b1):PE X (.Attribute e f pos) (tFld X.K ta f):=by intro b s z H Q I h;refine V7 r (f5 (t b s z H _ I h) λu B zz=>?_);obtain⟨x,d,i,y,a,C,A,fs,v,p,m,c,n,l,q⟩:=zz;subst p;obtain rfl:u=Value.ref a:=y;exact Om i m c n l λF E j w=>⟨v,d,j,w,q⟩
def Ze(w:PE X o ta)(A:PE X value tv)(z:dG value (Z (.Attribute o f pos')) pos.line X.b1=pure δ):PS X (.Assign [.Attribute o f pos'] value pos) (sFld X.K ta tv f):=by intro b s d H D I h;refine plainObj_wpAny_Assign_Attribute (f5 (A b s d H _ I h) λu M ⟨y,i,j,G,q⟩=>f5 (w b M d i _ j q) λB Q zz=>?_) z;obtain⟨x,N,m,F,a,C,P,fs,t,r,c,n,l,E⟩:=zz;subst t;obtain rfl:B=Value.ref a:=F;exact On m r c n l G λR p=>⟨d,_,p,E⟩
end
section
variable{X:Cx}{pins:cD}{σ:St}{H:Hp}{s:ae}{A:aJ}{E:ab->ae->Prop}{Q:ab->ae->Prop}{c:ab}{b:Bool}
inductive HV(K:av) (H:Hp):V->ab->Prop where
 |E:HV K H .E (.type "NoneType")
 |I (x:Bool):HV K H (.I x) (.type "bool")
 |int (i:Int):HV K H (.int i) (.type "int")
 |str (x:Str):HV K H (.str x) (.type "str")
 |flt (x:UInt64):HV K H (.flt x) (.type "float")
 |bt {a:Addr} {xs:bL} (e:H a=Z (.bt xs)):HV K H (.ref a) (.type "list")
 |o? {a:Addr} {o:Obj} {xs:bL} (e:H a=Z (.o? o (.bt xs))):HV K H (.ref a) (.type "list")
 |d? {a:Addr} {xs:bL} (e:H a=Z (.d? xs)):HV K H (.ref a) (.type "tuple")
 |dK {a:Addr} {kvs:List (fh×V)} (e:H a=Z (.dK kvs)):HV K H (.ref a) (.type "dict")
 |dT {a:Addr} {kvs:List (List fh×V)} (e:H a=Z (.dT kvs)):HV K H (.ref a) (.type "dict")
 |nr {a C dx:Addr} {fs:List (Str×V)} (e:H a=Z (.nr C dx fs)) (cl:T1 K C) (ha:cP K (.ref C) "__class__" = Z (Z (.builtin "object.__class__")))
   (hn:qU K (.builtin "object.__class__") "__get__" = Z (Z (.builtin "getset_descriptor.__get__"))) (htk:W.takesIn K (.builtin "object.__class__")=Z γ)
   (hm:W.mroIn K C (.type "object")=Z γ):HV K H (.ref a) (.ref C)
def Am(I:c3 X pins σ H s)(f:e8 x u)(ty:HV X.K H x t)(e:di X.K t c=Z b)(h:∀tk,Q (.bool b) { s with toks:=tk }):
  ah (model X.prog X.w) A (call (.builtin "isinstance") [u,c]) Q E s:=by
 cases ty with
 |E=>cases (show u=Value.none from f);exact cO qV I.rf True.intro e (λz=>nomatch z) h
 |I y=>cases (show u=Value.bool y from f);exact cO qW I.rf True.intro e (λz=>nomatch z) h
 |int i=>obtain⟨t,q⟩:=(show ∃t,u=Value.int i t from f);cases q;exact cO W.kitx_int I.rf True.intro e (λz=>nomatch z) h
 |str y=>obtain⟨t,q⟩:=(show ∃t,u=Value.str y t from f);cases q;exact cO W.kitx_str I.rf True.intro e (λz=>nomatch z) h
 |flt y=>obtain⟨t,q⟩:=(show ∃t,u=Value.float y t from f);cases q;exact cO W.kitx_float I.rf True.intro e (λz=>nomatch z) h
 |@bt a xs d=>cases (show u=Value.ref a from f);obtain⟨_,_,n,_,j⟩:=(show wL X.prog X.w H s.heap a (.bt xs) from I.fx a _ d);exact cO iX I.rf ⟨_,j,O⟩ e (λz=>nomatch z) h
 |@o? a ob xs d=>cases (show u=Value.ref a from f);obtain⟨_,_,_,n,_,j⟩:=(show wL X.prog X.w H s.heap a (.o? ob (.bt xs)) from I.fx a _ d);exact cO iX I.rf ⟨_,j,O⟩ e (λz=>nomatch z) h
 |@d? a xs d=>cases (show u=Value.ref a from f);obtain⟨_,_,_,p⟩:=(show wL X.prog X.w H s.heap a (.d? xs) from I.fx a _ d);obtain⟨o,j,l,_⟩:=p;exact cO mx I.rf ⟨o,j,l⟩ e (λz=>nomatch z) h
 |@dK a kvs d=>cases (show u=Value.ref a from f);obtain⟨_,_,vs,_,p⟩:=(show wL X.prog X.w H s.heap a (.dK kvs) from I.fx a _ d);obtain⟨o,es,ep,j,l,_⟩:=p;exact cO jS I.rf ⟨o,j,l.1⟩ e (λz=>nomatch z) h
 |@dT a kvs d=>cases (show u=Value.ref a from f);obtain⟨_,_,xs,_,o,es,ep,j,l,_⟩:=(show wL X.prog X.w H s.heap a (.dT kvs) from I.fx a _ d);exact cO jS I.rf ⟨o,j,l.1⟩ e (λz=>nomatch z) h
 |@nr a C dx fs d cl ha hn htk hm=>cases (show u=Value.ref a from f);obtain⟨mA,m,_⟩:=EY I.fx d;obtain⟨od,At,_⟩:=m.look;exact cO (W.kitx_own (cl.get _) cl.hd ha hn htk hm) I.rf At e (λz=>nomatch z) h
end
structure xB(k:Nat)(A:aJ):Prop where
 hd:A.handled=J
 dp:A.depth+3 * k+5<recursionLimit
 un:A.units+16 * k+200<cLine
def xB.mono(r:xB k A)(h:j<=k):xB j A:=⟨r.hd,by have:=r.dp;omega,by have:=r.un;omega⟩
theorem xB.deeper(r:xB (k+1) A)(b1:Env):xB k (A.deeper b1):=
 ⟨r.hd,by have:=r.dp;show A.depth+1+3 * k+5<_;omega,by have:=r.un;show A.units+3+16 * k+200<_;omega⟩
def Oo{A:aJ}:(A.under (.builtin "type.__call__" ⟨.ref C::b,a⟩)).depth=A.depth+1:=by
 first|rfl|simp[mC,Code.weight,Code.isCreation,Code.isGuard,Code.isCaller,qX,mF,guardIds]
def Oq{A:aJ}:(A.under (.builtin "type.__call__" ⟨.ref C::b,a⟩)).units=A.units+1:=by
 first|rfl|simp[mC,Code.cUnits,qX,mF]
def xB.make(r:xB (k+1) A)(C:Addr)(b:List ab)(a:List (Str×ab)):xB k (A.under (.builtin "type.__call__" ⟨.ref C::b,a⟩)):=
 ⟨r.hd,by have:=r.dp;rw[Oo];omega,by have:=r.un;rw[Oq];omega⟩
theorem xB.depth(r:xB k A):A.depth<recursionLimit:=by have:=r.dp;omega
theorem xB.units(r:xB k A):A.units+64<cLine:=by have:=r.un;omega
def J5:TA:=λ_ H Q=>Q [] H
def Ea(d:TE)(e:TA):TA:=λa H Q=>d a H λx b=>e a b λf c=>Q (x::f) c
section
variable{X:Cx}{e:Expr}{es:List Expr}{te:TE}{t:TA}{pos:Pos}
def zW:PA X [] J5:=λ_ _ _ _ H Q I h=>fW ⟨[],H,I,.nil,h⟩
def xj(j:PE X e te)(l:PA X es t)(m:aA (e::es) X.b1=(δ,eval e X.b1)::aA es X.b1:=by rfl):PA X (e::es) (Ea te t):=by intro pos a s b H Q I h;rw[m];show ah _ _ (spliced ((δ,eval e X.b1)::bD pos (aA es X.b1))) _ _ s;refine eE (f5 (j a s b H _ I h) λu w zz=>?_);obtain⟨x,c,f,q,o⟩:=zz;exact f5 (l pos a w b c _ f o) λA z ⟨y,d,i,r,p⟩=>⟨x::y,d,i,.cons q r,p⟩
def tTup(t:TA):TE:=λc H Q=>t c H λb a=>b.length<=aG/\∀p,a p=J->Q (.ref p) (fl a p (.d? b))
def tLst(t:TA):TE:=λc H Q=>t c H λb a=>b.length<=aG/\∀p,a p=J->Q (.ref p) (fl a p (.bt b))
def SC{m}(h:PA X es t):PE X (.Tuple es m pos) (tTup t):=by intro a s p H Q I j;refine wpAny_Tuple_spliced (f5 (h pos a s p H _ I j) λl c ⟨o,d,f,r,z,q⟩=>⟨by rw[<-r.length];exact z,?_⟩);have i:d c.heap.objs.size=J:=f.fx.fresh (aN _);refine⟨.ref c.heap.objs.size,fl d c.heap.objs.size (.d? o),f.laid (t':=c.toks) (λb u e=>aK _ e) (aN _) ?_,O,q _ i⟩;exact⟨z,l,r,⟨_,bx _ O,O,_,O⟩⟩
def SD(h:PA X es t):PE X (.List es pos) (tLst t):=by intro a s o H Q I j;refine wpAny_List_spliced (f5 (h pos a s o H _ I j) λl c ⟨m,d,f,r,z,q⟩=>⟨by rw[<-r.length];exact z,?_⟩);have i:d c.heap.objs.size=J:=f.fx.fresh (aN _);refine⟨.ref c.heap.objs.size,fl d c.heap.objs.size (.bt m),f.laid (t':=c.toks) (λb u e=>aK _ e) (aN _) ?_,O,q _ i⟩;exact⟨z,l,0,r,bx _ O⟩
end
abbrev Sp:=bL->Hp->VK->XK->Prop
abbrev CXT:=List Env->Hp->ae->XK->ab->ae->Prop
structure Os(P:aH)(w:az)(K:av)(mg:Str->Option ab)(b?:Heap)(A:aJ)(da:List Env)(s:ae)(H:Hp):Prop where
 frames:A.frames=Z da
 G?:Mod K mg b?
 bs:∀b o,b?.get? b=Z o->s.heap.get? b=Z o/\H b=J
 bsz:b?.objs.size<=s.heap.objs.size
 u7:s.heap.FunFrames b? da
 frf:∀b∈frs da,H b=J
 fx:rr P w H s.heap
 mn:eS s.gens
def CE(da:List Env)(P:aH)(w:az)(H:Hp)(s:ae)(Q:VK)(u:ab)(a:ae):Prop:=
 ∃v b,a.os=s.os/\eS a.gens/\Un (frs da) [] H b s.heap a.heap/\rr P w b a.heap/\e8 v u/\Q v b
def CR(CX:CXT)(da:List Env)(P:aH)(w:az)(H:Hp)(s:ae)(Q:VK)(E:XK)(r:gv)(a:ae):Prop:=
 match r with
 |.ok (.ret u)=>CE da P w H s Q u a
 |.ok _=>False
 |.error e=>CX da H s E e a
structure zr(P:aH)(w:az)(K:av)(mg:Str->Option ab)(b?:Heap)(CX:CXT)(k:Nat)(f:Addr)(fd:bV)(ps:aE)(sp:Sp):Prop where
 len:∀vs H Q E,sp vs H Q E->vs.length=ps.length
 run:∀(A:aJ) (da:List Env) (s:ae) (H:Hp) (args:Args) (us:List ab) (vs:bL) (Q:VK) (E:XK),xB k A->Os P w K mg b? A da s H->ic s fd args (ps.zip us)->er vs us->sp vs H Q E->
  cy (model P w) A (.call (.ref f) args) (CR CX da P w H s Q E) s
theorem zr.mono{P:aH}{w:az}{K:av}{b:Str->Option ab}{b?:Heap}{CX:CXT}{j k:Nat}{f:Addr}{a:bV}{c:aE}{d:Sp}(F:zr P w K b b? CX j f a c d)(h:j<=k):
  zr P w K b b? CX k f a c d:=⟨F.len,λA da s H args i l Q E e=>F.run A da s H args i l Q E (e.mono h)⟩
theorem zr.imp{P:aH}{w:az}{K:av}{d:Str->Option ab}{b?:Heap}{CX:CXT}{k:Nat}{f:Addr}{c:bV}{ps:aE}{e b:Sp}(F:zr P w K d b? CX k f c ps e)
  (h:∀a H Q E,b a H Q E->e a H Q E):zr P w K d b? CX k f c ps b:=
 ⟨λa H Q E q=>F.len a H Q E (h _ _ _ _ q),λA da s H args p a Q E l j i o m=>F.run A da s H args p a Q E l j i o (h _ _ _ _ m)⟩
def Os.make{P:aH}{w:az}{K:av}{a:Str->Option ab}{b?:Heap}{A:aJ}{da:List Env}{s:ae}{H:Hp}(e:Os P w K a b? A da s H)(C:Addr)(c:List ab)(b:List (Str×ab)):
  Os P w K a b? (A.under (.builtin "type.__call__" ⟨.ref C::c,b⟩)) da s H:=⟨by first|exact e.frames|(simpa [mC,Code.envs,mF,pushEnvs]using e.frames),e.G?,e.bs,e.bsz,e.u7,e.frf,e.fx,e.mn⟩
section
variable{X:Cx}{pins:cD}{σ:St}{H:Hp}{s s':ae}
def c3.env0(I:c3 X pins σ H s):Os X.prog X.w X.K X.mg X.b? X.A X.kb s H:=
 ⟨I.ok.frames,I.ok.G?,I.bs,bG I.ok.bsz I.sz,I.kb,I.ZY,I.fx,I.mn⟩
def c3.after(I:c3 X pins σ H s)(h:CE X.kb X.prog X.w H s Q u s'):EP X pins σ Q u s':=by obtain⟨v,c,os,mn,un,fx,r,q⟩:=h;obtain⟨e,g,d,t,a⟩:=s';obtain rfl:a=s.os:=os;exact⟨v,c,I.call (h':=e) (g':=g) (d':=d) (t':=t) (ch:=[]) un fx mn (λb z=>aq z (by simp)),r,q⟩
end
def EZ(b:Sp)(dvs:bL)(E:XK)(t:TA):TE:=λd H Q=>t d H λc a=>b (c++dvs) a Q E
def Ya(C:Addr)(d:Sp)(dvs:bL)(E:XK)(t:TA):TE:=λf H Q=>t f H λe b=>∀x a,b x=J->b a=J->a≠x->
 d (.ref x::(e++dvs)) (fl (fl b a (.jj x)) x (.nr C a [])) (λv c=>v=.E/\Q (.ref x) c) E
def m1(K:av)(d:bV)(c:aE)(b:List ab):Prop:=
 ∀(s:ae) (a:List ab),K.In s.heap->(a++b).length=c.length->ic s d ⟨a,[]⟩ (c.zip (a++b))
def m1.all{K:av}{c:bV}{b:aE}(h:∀a:List ab,a.length=b.length->bindArgs c ⟨a,[]⟩=pure (b.zip a)):m1 K c b []:=λs a _ d=>by rw[bS]at d ⊢;exact .of_eq (h a d)
def rp(CX:CXT)(X:Cx)(E:XK):Prop:=∀(a:cD) (c:St) (H:Hp) (s:ae) (e:ab) (b:ae),c3 X a c H s->CX X.kb H s E e b->X.xe e b
section
variable{X:Cx}{CX:CXT}{k:Nat}{f C:Addr}{fd:bV}{ps:aE}{sp:Sp}{dvs:bL}{ds:List ab}{E:XK}{x m:Str}{p pos apos:Pos}{e o:Expr}{es:List Expr}{ta:TE}{t:TA}
theorem LJ(F:zr X.prog X.w X.K X.mg X.b? CX k f fd ps sp)(q:xB k X.A)(j:m1 X.K fd ps ds)(hd:er dvs ds)(y:rp CX X E)
  (I:c3 X a d H s) (r:er vs us) (h:sp (vs++dvs) H Q E):ah (model X.prog X.w) X.A (call (.ref f) us) (EP X a d Q) X.xe s:=by
 have c:er (vs++dvs) (us++ds):=r.append hd;have l:(us++ds).length=ps.length:=by rw[<-c.length];exact F.len _ _ _ _ h
 refine jW (hE (F.run X.A X.kb s H ⟨us,[]⟩ (us++ds) (vs++dvs) Q E q I.env0 (j s us I.rf l) c h) λr z b=>?_);cases r with
 |error e=>exact y a d H s e z I b
 |ok i=>
  cases i with
  |ret u=>exact I.after b
  |next=>exact de b
  |brk=>exact de b
  |cont=>exact de b
def Ii(F:zr X.prog X.w X.K X.mg X.b? CX k f fd ps sp)(B:xB k X.A)(u:Gl X x)(z:X.mg x=Z (.ref f))(y:dZ X.K (.ref f)=γ)(j:m1 X.K fd ps ds)(hd:er dvs ds)(G:rp CX X E)
  (i:PA X (e::es) t) (b:(x==("__debug__" : Str))=δ:=by decide) (l:aA (e::es) X.b1=(δ,eval e X.b1)::aA es X.b1:=by rfl) (hpl:(bD pos (aA es X.b1)).any (·.1)=δ:=by rfl):
  PE X (.Call (.Name x p) (e::es) [] pos) (EZ sp dvs E t):=by
 intro a s M H Q I h;refine dN (EX I u z ?_ b);refine mG (h₀:=X.b?) I.ok.G?.kin y (f5 (i pos a s M H _ I h) λR P ⟨S,N,c,r,q⟩=>⟨c.rf,?_⟩) l hpl;exact LJ F B j hd G c r q
def SE(F:zr X.prog X.w X.K X.mg X.b? CX k f fd ps sp)(l:xB k X.A)(d:Gl X x)(j:X.mg x=Z (.ref f))(i:dZ X.K (.ref f)=γ)(c:m1 X.K fd ps ds)(hd:er dvs ds)(q:rp CX X E)
  (a:(x==("__debug__" : Str))=δ:=by decide):PE X (.Call (.Name x p) [] [] pos) (EZ sp dvs E J5):=by
 intro b s u H Q I h;refine dN (EX I d j ?_ a);exact ma I.rf i (LJ (us:=[]) F l c hd q I .nil h)
structure Mk(K:av)(C f:Addr):Prop where
 X':mZ K C=γ
 init:cP K (.ref C) "__init__" = Z (Z (.ref f))
 fn:j2 K (.ref f)=γ
 kp:dZ K (.ref C)=γ
theorem SF(M:Mk X.K C f)(F:zr X.prog X.w X.K X.mg X.b? CX k f fd ps sp)(T:xB (k+1) X.A)(R:m1 X.K fd ps ds)(hd:er dvs ds)
  (U:rp CX X E) (I:c3 X b y H s) (r:er q c)
  (h:∀x i,H x=J->H i=J->i≠x->sp (.ref x::(q++dvs)) (fl (fl H i (.jj x)) x (.nr C i [])) (λv B=>v=.E/\Q (.ref x) B) E):
  ah (model X.prog X.w) X.A (call (.ref C) c) (EP X b y Q) X.xe s:=by
 have j:=h (s.heap.objs.size+1) s.heap.objs.size (I.fx.fresh (gp _)) (I.fx.fresh (aN _)) (bb (dy _));have d:=c3.made (C:=C) I;have l:er (V.ref (s.heap.objs.size+1)::(q++dvs)) (Value.ref (s.heap.objs.size+1)::(c++ds)):=.cons O (r.append hd);have S:(Value.ref (s.heap.objs.size+1)::c++ds).length=ps.length:=by have e:=l.length;rw[F.len _ _ _ _ j]at e;exact e.symm
 refine jW (SA (f:=f) I.rf M.X' M.init (beq_iff_eq.mp M.fn) (hE (F.run _ X.kb _ _ ⟨Value.ref (s.heap.objs.size+1)::c,[]⟩ (Value.ref (s.heap.objs.size+1)::(c++ds)) _ _ E (T.make C c [])
  (d.env0.make C c []) (R _ (Value.ref (s.heap.objs.size+1)::c) d.rf S) l j) λr Y a=>?_))
 cases r with
 |error e=>exact U b y _ _ e Y d a
 |ok P=>
  cases P with
  |ret u=>obtain⟨v,z,G,W,N,q3⟩:=d.after a;subst N;exact⟨W,⟨V.ref (s.heap.objs.size+1),z,G,O,q3⟩⟩
  |next=>exact de a
  |brk=>exact de a
  |cont=>exact de a
def V8(M:Mk X.K C f)(F:zr X.prog X.w X.K X.mg X.b? CX k f fd ps sp)(z:xB (k+1) X.A)(u:Gl X x)(y:X.mg x=Z (.ref C))(j:m1 X.K fd ps ds)(hd:er dvs ds)(B:rp CX X E)
  (i:PA X (e::es) t) (b:(x==("__debug__" : Str))=δ:=by decide) (l:aA (e::es) X.b1=(δ,eval e X.b1)::aA es X.b1:=by rfl) (hpl:(bD pos (aA es X.b1)).any (·.1)=δ:=by rfl):
  PE X (.Call (.Name x p) (e::es) [] pos) (Ya C sp dvs E t):=by
 intro a s G H Q I h;refine dN (EX I u y ?_ b);refine mG (h₀:=X.b?) I.ok.G?.kin M.kp (f5 (i pos a s G H _ I h) λR P ⟨S,N,c,r,q⟩=>⟨c.rf,?_⟩) l hpl;exact SF M F z j hd B c r q
end
structure xK(N P:aE)(sc:cK):Prop where
 kind:sc.kind=.function
 co:sc.isCoroutine=δ
 sx:sc.isGenerator=δ
 nd:N.Nodup
 pre:N.take P.length=P
 par:∀x∈P,sc.names.lookup x=Z .local\/sc.names.lookup x=Z .cell
 nofree:∀y∈sc.names,y.2≠.free
theorem Kv{kindOf:Str->Option d8}{x:Str}:∀{tp:List (Str×ab)} {m:Str->Option ab},(∀v,(x,v)∉tp)->bindL kindOf tp m x=m x
 |[],_,_=>rfl
 |(n,v)::r,m,h=>by
  unfold bindL;rw[Kv λw a=>h w (ba _ a)];split
  .have:x≠n:=by rintro rfl;exact h v aX
   simp[this]
  .rfl
theorem Kw{kindOf:Str->Option d8}{x:Str}:∀{tp:List (Str×ab)} {m:Str->Option ab},(∀v,(x,v)∉tp)->bindC kindOf tp m x=m x
 |[],_,_=>rfl
 |(n,v)::r,m,h=>by
  unfold bindC;rw[Kw λw a=>h w (ba _ a)];split
  .rfl
  .have:x≠n:=by rintro rfl;exact h v aX
   simp[this]
theorem Kz{kindOf:Str->Option d8}{x:Str}{v:ab}:∀{P:aE} {a:List ab} {i:Nat} {m:Str->Option ab},P.Nodup->P[i]?=Z x->a[i]?=Z v->kindOf x=Z .local->
  bindL kindOf (P.zip a) m x=Z v
 |[],_,_,_,_,h,_,_=>by simp at h
 |_::_,[],_,_,_,_,h,_=>by simp at h
 |p::P,w::a,0,m,e,b,c,d=>by simp at b c;subst b;subst c;show bindL kindOf ((p,w)::P.zip a) m p=_;unfold bindL;rw[Kv λv f=>(dA.1 e).1 (jL f).1,aj d];simp
 |p::P,w::a,i+1,m,e,b,c,d=>by show bindL kindOf ((p,w)::P.zip a) m x=_;unfold bindL;exact Kz (i:=i) (dA.1 e).2 (by simpa using b) (by simpa using c) d
theorem KA{kindOf:Str->Option d8}{x:Str}{v:ab}:∀{P:aE} {a:List ab} {i:Nat} {m:Str->Option ab},P.Nodup->P[i]?=Z x->a[i]?=Z v->kindOf x≠Z .local->
  bindC kindOf (P.zip a) m x=Z v
 |[],_,_,_,_,h,_,_=>by simp at h
 |_::_,[],_,_,_,_,h,_=>by simp at h
 |p::P,w::a,0,m,e,b,c,d=>by simp at b c;subst b;subst c;show bindC kindOf ((p,w)::P.zip a) m p=_;unfold bindC;rw[Kw λv f=>(dA.1 e).1 (jL f).1,ao d];simp
 |p::P,w::a,i+1,m,e,b,c,d=>by show bindC kindOf ((p,w)::P.zip a) m x=_;unfold bindC;exact KA (i:=i) (dA.1 e).2 (by simpa using b) (by simpa using c) d
def start(N:aE)(a:bL):St:=a.map Z++bU (N.length - a.length) J
def MR(CX:CXT)(P:aH)(w:az)(K:av)(mg:Str->Option ab)(b?:Heap)(N:aE)(qual:Str)(scope:cK)(f:Addr)(b:ab)(A:aJ)(da:List Env)(s:ae)(H:Hp)(E:XK):Cx where
 prog:=P
 w:=w
 K:=K
 mg:=mg
 b?:=b?
 A:=A.deeper (envOfC qual scope s.heap.objs.size f b)
 N:=N
 s₀:=s
 H₀:=H
 b1:=envOfC qual scope s.heap.objs.size f b
 da:=da
 kb:=envOfC qual scope s.heap.objs.size f b::da
 ex:=[]
 n6:=γ
 fn:=λ_=>γ
 pn:=[]
 xe:=λe d=>ah (model P w) (A.deeper (envOfC qual scope s.heap.objs.size f b)) (leaving (envOfC qual scope s.heap.objs.size f b) e) (λ_ a=>CX da H s E e a) (λc a=>CX da H s E c a) d
def MS{a:cK}(h:a.names.lookup x=Z .cell):∃c,(cellsFrom n a.names []).lookup x=Z c:=by have q:=pN a.names n [] (.inl h);exact Option.isSome_iff_exists.1 q
def Q1{CX:CXT}{P:aH}{w:az}{K:av}{G:Str->Option ab}{b?:Heap}{N m:aE}{qual:Str}{scope:cK}{f:Addr}{B:ab}{A:aJ}{da:List Env}{s R:ae}{H:Hp}{E:XK}{I:List ab}{o:bL}
  (S:xK N m scope) (hd:A.handled=J) (j:Os P w K G b? A da s H) (X:o.length=m.length) (r:er o I)
  (x:InCallC s s.heap.objs.size (bindL (envOfC qual scope s.heap.objs.size f B).kindOf (m.zip I) λ_=>J) (cellsFrom (s.heap.objs.size+1) scope.names []) (bindC (envOfC qual scope s.heap.objs.size f B).kindOf (m.zip I) λ_=>J) R):
  c3 (MR CX P w K G b? N qual scope f B A da s H E) [] (start N o) H R:=by
 have hpl:m.length<=N.length:=by have:=bH dh S.pre;rw[bY]at this;omega
 obtain⟨C,Y,rfl,M⟩:=x.done;have noA:∀b:Addr,b∉(MR CX P w K G b? N qual scope f B A da s H E).ex:=λb z=>aq (show b∈([]:List Addr) from z) (by simp);refine⟨⟨j.G?,S.kind,O,O,aN _,λy z c C d=>?_,λy l=>?_,λy c _ h=>?_,λ_=>hd,Around.frames_deeper j.frames,.inr ⟨O,O⟩,λb z=>aq z (noA b),j.bs,j.bsz,λb _ _=>noA b,λb z=>aq z (noA b),j.u7,j.frf⟩,
  rfl,j.mn,Un.g? M,⟨_,x.toInCall.ns,λi y v C d W=>?_⟩,λy c h=>⟨_,x.cell y c h⟩,j.fx.fresh (aN _),λy c h=>?_,λp t=>aq (show p∈([]:cD) from t) (by simp),j.fx.g? M,?_⟩
 .exact name_of_addr x.apart (iE C) (iE d)
 .have l:scope.names.lookup y=Z .cell\/scope.names.lookup y=Z .free:=l;rcases l with l|l
  .exact MS l
  .exact aq O (S.nofree _ (iE l))
 .exact iU (x.above y c (iE h))
 .have F:i<o.length:=by
   unfold start at d;by_cases F:i<o.length
   .exact F
   .rw[fR (by simpa using F)]at d;rw[js]at d;split at d<;>cases d
  have T:o[i]?=Z v:=by
   unfold start at d;rw[fS (by simpa using F),bB]at d;cases e:o[i]? with
   |none=>rw[e]at d;cases d
   |some a=>rw[e]at d;cases d;rfl
  obtain⟨u,Q,U⟩:=r.get T;have t:m[i]?=Z y:=by rw[<-S.pre,List.getElem?_take_of_lt (by omega)];exact C
  have ndP:m.Nodup:=by rw[<-S.pre];exact S.nd.sublist (iI _ _)
  refine⟨u,U,?_⟩;rcases S.par y (cj t)with k|k
  .exact .inl ⟨k,Kz ndP t Q k⟩
  .obtain⟨c,e⟩:=MS (n:=s.heap.objs.size+1) k;refine .inr ⟨.inl k,c,e,?_⟩;have q:=x.cell y c e;rw[KA ndP t Q (by show scope.names.lookup y≠_;rw[k];decide)]at q;exact q
 .exact j.fx.fresh (iU (x.above y c (iE h)))
 .unfold start;show _=N.length;rw[aC,ag,cZ];omega
def Yc{CX:CXT}{P:aH}{w:az}{K:av}{l:Str->Option ab}{b?:Heap}{k:Nat}{f:Addr}{name qual:Str}{params:Arguments}{body:List Stmt}{scope:cK}{dV kV doc M cdv G oc:ab}{F od:Option Addr}
  {osl:Array (Option ab)} {N m:aE} {C:Sp} (lk:K.lookup f=Z ⟨oc,od,.func (eU name qual params body scope dV kV doc M F cdv G),osl⟩) (hcd:ia K cdv qual=γ) (S:xK N m scope)
  (len:∀a H Q E,C a H Q E->a.length=m.length)
  (hbody:∀(A:aJ) (da:List Env) (s:ae) (H:Hp) (a:bL) (Q:VK) (E:XK),xB k (A.deeper (envOfC qual scope s.heap.objs.size f cdv))->C a H Q E->
   ∃t,qi (MR CX P w K l b? N qual scope f cdv A da s H E) body t/\t { nx:=λ_ h=>Q .E h,rt:=Q } (start N a) H):
  zr P w K l b? CX (k+1) f (eU name qual params body scope dV kV doc M F cdv G) m C:=by
 refine⟨len,λA da s H args us a Q E p j U r hsp=>?_⟩;have Y:=len _ _ _ _ hsp;have KX:K.In s.heap:=j.G?.kin.keeps λb o e=>(j.bs b o e).1;have lim:s.heap.NoLimit:=j.G?.nolimit.keeps λb o e=>(j.bs b o e).1;have hkind:∀y∈m.zip us,scope.names.lookup y.1=Z .local\/(scope.names.lookup y.1=Z .cell/\((cellsFrom (s.heap.objs.size+1) scope.names []).lookup y.1).isSome=γ):=λ⟨n,v⟩ hy=>by
  rcases S.par n (jL hy).1 with q|q
  .exact .inl q
  .exact .inr ⟨q,pN _ _ _ (.inl q)⟩
 refine codeAny_call_function p.depth (KX _ _ lk) O S.co S.sx O (W.codeRec_of KX hcd) (U _ _ _ _ ?_);refine wpAny_newFunctionEnv_cells S.kind hkind λb1 X R x=>?_;subst X;refine⟨lim.keeps x.toInCall.keep,codeAny_func ?_⟩;obtain⟨t,ht,hq⟩:=hbody A da s H a Q E (p.deeper _) hsp;have I:c3 (MR CX P w K l b? N qual scope f cdv A da s H E) [] (start N a) H R:=Q1 S p.hd j Y r x;refine b8 (ht [] R (start N a) H _ I hq) (λT B i=>?_) λe B i=>i;have fin:∀{c:St} {h:Hp} {v:V} {u:ab},c3 (MR CX P w K l b? N qual scope f cdv A da s H E) [] c h B->e8 v u->Q v h->CE da P w H s Q u B:=
  λ{c h v u} d z q=>⟨v,h,d.os,d.mn,d.b?,d.fx,z,q⟩
 cases T with
 |ret u=>obtain⟨v,c,h,d,z,q⟩:=i;exact fin d z q
 |next=>obtain⟨c,h,d,q⟩:=i;exact fin (v:=V.E) (u:=Value.none) d O q
 |brk=>obtain⟨_,_,_,q⟩:=i;exact de q
 |cont=>obtain⟨_,_,_,q⟩:=i;exact de q
section
variable{X:Cx}{x:Str}{p pos:Pos}{e:Expr}{es:List Expr}{t:TA}{id T:String}{r:bL->Hp->VK->Prop}
def tCB(r:bL->Hp->VK->Prop)(t:TA):TE:=λc H Q=>t c H λb a=>r b a Q
def BF(j:wR X (.builtin id) r)(m:Gl X x)(o:X.mg x=J)(u:dW x=Z (.builtin id))(i:PA X (e::es) t)(q:x≠"__name__" := by decide)(b:(x==("__debug__" : Str))=δ:=by decide)
  (l:aA (e::es) X.b1=(δ,eval e X.b1)::aA es X.b1:=by rfl) (hpl:(bD pos (aA es X.b1)).any (·.1)=δ:=by rfl):PE X (.Call (.Name x p) (e::es) [] pos) (tCB r t):=by
 intro a s c H Q I h;refine dN (BZ I m o u ?_ q b);exact callWith_builtin1 (f5 (i pos a s c H _ I h) λA z ⟨B,d,f,y,w⟩=>j a z c d B A Q f y w) l hpl
def Q2(j:wR X (.type T) r)(m:Gl X x)(o:X.mg x=J)(u:dW x=Z (.type T))(i:PA X (e::es) t)(q:x≠"__name__" := by decide)(b:(x==("__debug__" : Str))=δ:=by decide)
  (l:aA (e::es) X.b1=(δ,eval e X.b1)::aA es X.b1:=by rfl) (hpl:(bD pos (aA es X.b1)).any (·.1)=δ:=by rfl):PE X (.Call (.Name x p) (e::es) [] pos) (tCB r t):=by
 intro a s c H Q I h;refine dN (BZ I m o u ?_ q b);exact callWith_type1 (f5 (i pos a s c H _ I h) λA z ⟨B,d,f,y,w⟩=>j a z c d B A Q f y w) l hpl
end
end L2
namespace HT
open PySem PyProof.Rows
section
variable{prog:aH}{w:az}{A:aJ}{E:ab->ae->Prop}{s:ae}
def V9{vs ws:List ab}(u:gw s.heap t vs.toArray)(hb:gw s.heap b ws.toArray)(o:vs≠[])
  (q:ws=[]->Q (.ref t) s) (r:ws≠[]->Q (.ref s.heap.objs.size) { s with heap:=s.heap.push { cls:=.type "tuple", data:=.seq (vs++ws).toArray } })
  (j:vs.length+ws.length<=aG):ah (model prog w) A (cJ .Add (.ref t) (.ref b)) Q E s:=by
 obtain⟨⟨cls,l,data,sl⟩,i,m,n,hd⟩:=id u;obtain⟨⟨cls2,c,data2,h⟩,a,d,p,f⟩:=id hb;simp only at m hd d f;subst m hd d f;have e:vs.toArray++ws.toArray=(vs++ws).toArray:=by simp
 by_cases hw:ws=[]
 .exact concat_meets ⟨_,i,O⟩ ⟨_,a,O⟩ pO qz pQ pq (o6 _ _)
   (tuple_addW1 t b vs.toArray ws.toArray n p l c sl h (by simpa using o) (by simp[hw])) ⟨i,a,q hw⟩
 .refine concat_meets ⟨_,i,O⟩ ⟨_,a,O⟩ pO qz pQ pq (o6 _ _)
   (tuple_addW2 t b vs.toArray ws.toArray n p l c sl h (by simpa using o) (by simpa using hw) (by rw[bg,bg];exact j)) ⟨i,a,?_⟩
  rw[e];exact r hw
def j0(n d:Nat):Option Int->Nat
 |none=>d
 |some v=>if v<0 then (v+(n:Int)).toNat else min v.toNat n
def MU(n d:Nat):j0 n d J=d:=rfl
def Pp(n d k:Nat):j0 n d (Z (k:Int))=min k n:=by show (if (k:Int)<0 then ((k:Int)+(n:Int)).toNat else min (k:Int).toNat n)=min k n;rw[ao (by omega),gQ]
def Zf(n d:Nat)(hd:d<=n)(o:Option Int):j0 n d o<=n:=by
 cases o with
 |none=>exact hd
 |some v=>
  show (if v<0 then (v+(n:Int)).toNat else min v.toNat n)<=n;by_cases a:v<0
  .rw[aj a];omega
  .rw[ao a];exact pS _ _
def Pq(v:Int)(n d:Nat):(if v<0 then max (v+(n:Int)) 0 else min v (n:Int))=((j0 n d (Z v):Nat):Int):=by
 show (if v<0 then max (v+(n:Int)) 0 else min v (n:Int))=(((if v<0 then (v+(n:Int)).toNat else min v.toNat n):Nat):Int);by_cases a:v<0
 .simp only[aj a];omega
 .simp only[ao a];omega
def Ot(lo a:Option Int)(n:Nat):kG lo a 1 (n:Int)=(((j0 n 0 lo:Nat):Int),((j0 n n a:Nat):Int)):=by
 have b:¬((1:Int)<0):=by omega
 unfold kG;simp only[b,if_false];refine Prod.ext ?_ ?_
 .cases lo with
  |none=>rfl
  |some v=>exact Pq v n 0
 .cases a with
  |none=>rfl
  |some v=>exact Pq v n n
def Ou(i j:Nat):jn (i:Int) (j:Int) 1=j - i:=by
 unfold jn;have a:(1:Int) > 0:=by omega
 simp only[a,if_true,Int.ediv_one];split<;>omega
def ID(p:fN v o)(h:Q o s):ah (model prog w) A (sF v) Q E s:=by
 cases p with
 |none=>exact qk h
 |int i t=>exact slicePart_int h
def Gc{d:Addr}{b c:ab}{lo a:Option Int}{n:Nat}{Q:Int×Int×Nat->ae->Prop}(e:s.heap.IsSliceOf d b c .none)(pl:fN b lo)(f:fN c a)
  (h:Q (((j0 n 0 lo:Nat):Int),1,j0 n n a - j0 n 0 lo) s):ah (model prog w) A (nT (.ref d) (pure (n:Int))) Q E s:=by
 obtain⟨os,hos,hcs,hds⟩:=id e;unfold nT sV;refine af (af (mM hos hds (x:=b) O (af (mM hos hds (x:=c) O (af (mM hos hds (x:=.none) O (ar ?_)))))));refine af (qk ?_);show ah _ _ (if ((1:Int)==0)=γ then _ else _) _ _ s;rw[ao (by decide)];refine af (ID pl (af (ID f (af (ar ?_)))));show ah _ _ (match kG lo a 1 (n:Int)with|(lo,a)=>pure (lo,(1:Int),jn lo a 1)) _ _ s;rw[Ot lo a n];show ah _ _ (pure (((j0 n 0 lo:Nat):Int),(1:Int),jn ((j0 n 0 lo:Nat):Int) ((j0 n n a:Nat):Int) 1)) _ _ s;rw[Ou];exact ar h
def SG(a:Array ab)(i k:Nat):((aZ k).filterMap λ(m:Nat)=>a[((i:Int)+(m:Int) * 1).toNat]?).toArray=((a.toList.drop i).take k).toArray:=by
 have e:(λ(m:Nat)=>a[((i:Int)+(m:Int) * 1).toNat]?)=λm=>a[i+m]?:=by
  funext m
  have:((i:Int)+(m:Int) * 1).toNat=i+m:=by omega
  rw[this]
 rw[e];have:=pick_run a i k;rw[List.filterMap_map]at this;have b:((λx=>a[x]?)∘λx=>i+x)=λm=>a[i+m]?:=rfl;rw[b]at this;rw[this]
def E1{t sl:Addr}{items:Array ab}{c d:ab}{lo hi:Option Int}{Q:ab->ae->Prop}(a:gw s.heap t items)(b:s.heap.IsSliceOf sl c d .none)(pl:fN c lo)(f:fN d hi)
  (hw:¬(j0 items.size 0 lo=0/\j0 items.size items.size hi=items.size))
  (h:Q (.ref s.heap.objs.size) { s with heap:=s.heap.push { cls:=.type "tuple", data:=.seq ((items.toList.drop (j0 items.size 0 lo)).take (j0 items.size items.size hi - j0 items.size 0 lo)).toArray } })
  (e:items.size<=aG):ah (model prog w) A (getItem (.ref t) (.ref sl)) Q E s:=by
 have htake:sizeOk (.seq ((items.toList.drop (j0 items.size 0 lo)).take (j0 items.size items.size hi - j0 items.size 0 lo)).toArray):=by show ((items.toList.drop (j0 items.size 0 lo)).take (j0 items.size items.size hi - j0 items.size 0 lo)).toArray.size<=aG;rw[bg,bY,fC,bM];omega
 have i:j0 items.size items.size hi<=items.size:=Zf _ _ (aN _) hi;obtain⟨os,hos,hcs,hds⟩:=id b;have hTs:s.TypeIs (.ref sl) "slice" := ⟨os,hos,hcs⟩;unfold getItem
 try with_reducible refine bP ?_
 first|refine af (ar ?_)|skip
 refine af (wpAny_sequenceKey a.typeIs (by decide) ?_);refine af (n8 (name:=jP "__getitem__") a.typeIs jm
  (fX jm a.typeIs entry_tuple_getitem ?_ (args_tuple_getitem _ _)))
 show ah _ _ (sH (.ref t)>>=_) _ _ s;refine af (tupleItemsOf_ a ?_);refine af (jQ hTs ?_);rw[aj (by decide)];refine af (Gc b pl f ?_);have hno:¬((((j0 items.size 0 lo:Nat):Int)==0&&(1:Int)==1&&(j0 items.size items.size hi - j0 items.size 0 lo)==items.size)=γ):=by intro q;rw[aY,aY]at q;have j:((j0 items.size 0 lo:Nat):Int)=0:=gr q.1.1;have l:j0 items.size items.size hi - j0 items.size 0 lo=items.size:=gr q.2;exact hw ⟨by omega,by omega⟩
 show ah _ _ (if (((j0 items.size 0 lo:Nat):Int)==0&&(1:Int)==1&&(j0 items.size items.size hi - j0 items.size 0 lo)==items.size)=γ then _ else _) _ _ s;rw[ao hno,SG]
 first
  |exact af (m:=jr _) (dO (ar ⟨_,O,ar h⟩) htake)
  |exact af (m:=jr _) (dO (af (ar (ar ⟨_,O,ar h⟩))) htake)
  |exact af (af (m:=jr _) (dO (ar (ar ⟨_,O,ar h⟩)) htake))
  |exact af (af (m:=jr _) (dO (ar ⟨_,O,ar h⟩) htake))
end
end HT
namespace L2
open PySem PySem.Spec PyProof.Rows
abbrev TO:=St->Hp->(Option Int->Hp->Prop)->Prop
def PO(X:Cx)(e:Option Expr)(t:TO):Prop:=
 ∀(a:cD) (s:ae) (b:St) (H:Hp) (Q:Option Int->Hp->Prop),c3 X a b H s->t b H Q->
  ah (model X.prog X.w) X.A (evalPart e X.b1) (λu d=>∃o c,c3 X a b c d/\fN u o/\Q o c) X.xe s
def Wa:TO:=λ_ H Q=>Q J H
def ac0(t:TE):TO:=λb H Q=>t b H λx a=>∃i,x=.int i/\Q (Z i) a
section
variable{X:Cx}{e:Expr}{te:TE}{lo hi:Option Expr}{tl th:TO}{pos p2:Pos}
def Pr:PO X J Wa:=by intro a s b H Q I h;rw[qA];exact ar ⟨J,H,I,.none,h⟩
def Pt(h:PE X e te):PO X (Z e) (ac0 te):=by intro a s l H Q I d;rw[evalPart_some];refine f5 (h a s l H _ I d) λu m zz=>?_;obtain⟨x,b,c,j,f⟩:=zz;obtain⟨i,rfl,q⟩:=f;obtain⟨t,rfl⟩:=j;exact⟨Z i,b,c,.int i t,q⟩
def SlR(X:Cx)(r:V->Option Int->Option Int->Hp->VK->Prop):Prop:=
 ∀(a:cD) (s:ae) (f:St) (H:Hp) (x:V) (v c d:ab) (lo hi:Option Int) (b:Addr) (Q:VK),c3 X a f H s->e8 x v->s.heap.IsSliceOf b c d .none->fN c lo->fN d hi->r x lo hi H Q->
  ∃T id,typeLookup (.type T) "__getitem__" = pure (Z (.builtin id))/\s.TypeIs v T/\ah (model X.prog X.w) X.A (getItem v (.ref b)) (EP X a f Q) X.xe s
def tSl(r:V->Option Int->Option Int->Hp->VK->Prop)(te:TE)(tl th:TO):TE:=λa H Q=>te a H λx b=>tl a b λl c=>th a c λu d=>r x l u d Q
def MV(hr:SlR X r)(p:PE X e te)(t:PO X lo tl)(z:PO X hi th):PE X (.Subscript e (.Slice lo hi J p2) pos) (tSl r te tl th):=by intro pins s σ H Q I h;refine mS (f5 (p pins s σ H _ I h) λv F zz=>?_);obtain⟨x,H1,i,r1,C⟩:=zz;refine wpAny_Slice (f5 (t pins F σ H1 _ i C) λc s2 ⟨l,H2,j,pl,E⟩=>f5 (z pins s2 σ H2 _ j E) λd a zz=>?_);obtain⟨u,f,m,B,q3⟩:=zz;rw[qA];refine ar ?_;have o:c3 X pins σ f { a with heap:=a.heap.push { cls:=.type "slice", data:=.fields #[c,d,.none] } }:=m.g? (t':=a.toks) λb ob q=>aK _ q;obtain⟨T,id,hT,y,hg⟩:=hr pins { a with heap:=a.heap.push { cls:=.type "slice", data:=.fields #[c,d,.none] } } σ f x v c d l u a.heap.objs.size Q o r1 (ux ..) pl B q3;show ah (model X.prog X.w) X.A (subscriptTail e (.Slice lo hi J p2) v (.ref a.heap.objs.size)) (EP X pins σ Q) X.xe { a with heap:=a.heap.push { cls:=.type "slice", data:=.fields #[c,d,.none] } };exact tail_any (ops:=[.ref a.heap.objs.size,v]) y hT hg (by with_unfolding_all rfl)
def MW(a:bL)(lo hi:Option Int):bL:=(a.drop (HT.j0 a.length 0 lo)).take (HT.j0 a.length a.length hi - HT.j0 a.length 0 lo)
def GW(a:bL)(lo hi:Option Int):(MW a lo hi).length<=a.length:=by unfold MW;rw[bY,fC];omega
def Zg(K:av):V->Option Int->Option Int->Hp->VK->Prop:=λx lo hi H Q=>∃a b,x=.ref a/\ij K H a b/\
 ¬(HT.j0 b.length 0 lo=0/\HT.j0 b.length b.length hi=b.length)/\∀p,H p=J->Q (.ref p) (fl H p (.d? (MW b lo hi)))
def Zh:SlR X (Zg X.K):=by
 intro l s E H x v B C lo hi z Q I w m pl u h;obtain⟨a,d,rfl,t,p,q⟩:=h;cases w;obtain⟨f,r,i,j⟩:=I.tuple t;have c:f.toArray.size=d.length:=by rw[bg];exact r.length.symm
 refine⟨"tuple", _,jm.lookup,i.typeIs,?_⟩;refine HT.E1 i m pl u (by rw[c];exact p) ?_ (by rw[c];exact j);rw[c];refine⟨.ref s.heap.objs.size,_,I.laid (t':=s.toks) (o:=.d? (MW d lo hi)) (λb y q=>aK _ q) (aN _) ?_,O,q _ (I.fx.fresh (aN _))⟩;exact⟨bG (GW d lo hi) j,_,(r.drop (HT.j0 d.length 0 lo)).take (HT.j0 d.length d.length hi - HT.j0 d.length 0 lo),m3 _ _⟩
def ac1(K:av):R2:=λx y H Q=>∃a b d c,x=.ref a/\y=.ref b/\ij K H a d/\ij K H b c/\d≠[]/\d.length+c.length<=aG/\
 (c=[]->Q (.ref a) H)/\(c≠[]->∀p,H p=J->Q (.ref p) (fl H p (.d? (d++c))))
def er.K'(r:er b a):a=[] ↔ b=[]:=by
 cases r with
 |nil=>simp
 |cons _ _=>simp
def Wb:j? X (cJ .Add) (ac1 X.K):=by intro j s P H x y v u Q I C E h;obtain⟨a,b,F,G,rfl,rfl,l,m,p,f,A,B⟩:=h;cases C;cases E;obtain⟨r,d,t,_⟩:=I.tuple l;obtain⟨i,c,p2,_⟩:=I.tuple m;refine HT.V9 t p2 (λz=>p (d.K'.1 z)) (λz=>⟨.ref a,H,I,O,A (c.K'.1 z)⟩) (λz=>?_) (by rw[<-d.length,<- c.length];exact f);refine⟨.ref s.heap.objs.size,_,I.laid (t':=s.toks) (o:=.d? (F++G)) (λb M q=>aK _ q) (aN _) ?_,O,B (λw=>z (c.K'.2 w)) _ (I.fx.fresh (aN _))⟩;exact⟨by rw[aC];exact f,_,d.append c,m3 _ _⟩
end
def ixN(n:Nat)(i:Int):Option Nat:=if 0<=i then (if i<n then Z i.toNat else J)else if -(n:Int)<=i then Z (i+n).toNat else J
def A?{b:Type}(a:List b)(i:Int):Option b:=(ixN a.length i).bind λj=>a[j]?
def Pu(h:ixN n i=Z j):seqIndex? i n=Z j/\j<n/\-(n:Int)<=i/\i<n:=by
 unfold ixN at h;by_cases b:0<=i
 .rw[aj b]at h;by_cases a:i<n
  .rw[aj a]at h;have e:i.toNat=j:=cI h;exact⟨by rw[mN b a,e],by omega,by omega,a⟩
  .rw[ao a]at h;cases h
 .rw[ao b]at h;by_cases a:-(n:Int)<=i
  .rw[aj a]at h;have e:(i+n).toNat=j:=cI h;exact⟨by rw[mH (by omega) a,e],by omega,a,by omega⟩
  .rw[ao a]at h;cases h
def LK{b:Type}{a:List b}{i:Int}{v:b}(h:A? a i=Z v):∃j,seqIndex? i a.length=Z j/\a[j]?=Z v/\j<a.length/\-(a.length:Int)<=i/\i<a.length:=by
 unfold A? at h;cases e:ixN a.length i with
 |none=>rw[e]at h;cases h
 |some j=>rw[e]at h;obtain⟨c,d,f,l⟩:=Pu e;exact⟨j,c,h,d,f,l⟩
def DV{b:Type}{a:List b}{j:Nat}{v:b}(h:a[j]?=Z v):A? a (j:Int)=Z v:=by
 have c:j<a.length:=(cg.1 h).1;have e:ixN a.length (j:Int)=Z j:=by unfold ixN;rw[aj (by omega),aj (by omega)];simp
 unfold A?;rw[e];exact h
def Pw(b:Expr):Prop:=∀o i,subscripted b δ o i=operate [o,i] (getItem o i)
def IxR(X:Cx)(r:R2):Prop:=
 ∀(value slice:Expr) (a:cD) (s:ae) (b:St) (H:Hp) (x y:V) (v u:ab) (Q:VK),c3 X a b H s->e8 x v->e8 y u->r x y H Q->
  subscripted slice δ v u=operate [v,u] (getItem v u)->ah (model X.prog X.w) X.A (subscriptTail value slice v u) (EP X a b Q) X.xe s
def MtR(X:Cx)(id:String)(r:V->bL->Hp->VK->Prop):Prop:=
 ∀(a:cD) (s:ae) (d:St) (H:Hp) (x:V) (c:bL) (v:ab) (b:List ab) (Q:VK),c3 X a d H s->e8 x v->er c b->r x c H Q->
  ah (model X.prog X.w) X.A (call (.builtin id) (v::b)) (EP X a d Q) X.xe s
section
variable{X:Cx}{a b:Expr}{ta tb:TE}{pos:Pos}
def IxR.or(h:IxR X r)(j:IxR X l):IxR X (λx y H Q=>r x y H Q\/l x y H Q):=by
 intro value slice c s i H x y v u Q I e f q d;rcases q with q|q
 .exact h value slice c s i H x y v u Q I e f q d
 .exact j value slice c s i H x y v u Q I e f q d
def Yd(j:IxR X r)(f:PE X a ta)(i:PE X b tb)(l:Pw b):PE X (.Subscript a b pos) (tOp r ta tb):=by intro c s t H Q I h;exact mS (Y5 f i I h λv u p x y d e m o q=>j a b c p t d x y v u Q e m o q (l _ _))
def Wc(K:av):R2:=λx y H Q=>∃p c i v,x=.ref p/\y=.int i/\gi K H p c/\A? c i=Z v/\Q v H
def rIxT(K:av):R2:=λx y H Q=>∃p c i v,x=.ref p/\y=.int i/\ij K H p c/\A? c i=Z v/\Q v H
def rIxS:R2:=λx y H Q=>∃z i c,x=.str z/\y=.int i/\z.length<=aG/\A? z.cps.toList i=Z c/\Q (.str ⟨#[c]⟩) H
def Px:IxR X (Wc X.K):=by
 intro value slice c s B H x y v u Q I P R h A;obtain⟨p,Y,i,z,rfl,rfl,N,G,q⟩:=h;cases P;obtain⟨t,rfl⟩:=R;obtain⟨f,r,pl,W⟩:=I.list N;obtain⟨j,d,C,T,E,F⟩:=LK G;obtain⟨w,m,l⟩:=r.get C;have M:=r.length;have U:=Ga;have fin:EP X c B Q w s:=⟨z,H,I,l,q⟩;by_cases o:0<=i
 .have e:i.toNat=j:=by rw[mN o F]at d;exact cI d
  exact item_listR pl.isList o (by omega) (by rw[e];simpa using m) fin A
 .have e:(i+(f.toArray.size:Int)).toNat=j:=by rw[mH (by omega) E]at d;rw[bg,<- M];exact cI d
  exact oh (x:=w) pl.isList.typeIs px.lookup
   (wpAny_getItem_list_neg (Q:=λr S=>r=w/\EP X c B Q r S) pl.isList (by omega) (by rw[bg]<;>omega) (by omega) (by rw[e];simpa using m) ⟨O,fin⟩) A
def Zi:IxR X (rIxT X.K):=by
 intro value slice c s e H x y v u Q I F G h C;obtain⟨p,U,i,z,rfl,rfl,B,o,q⟩:=h;cases F;obtain⟨t,rfl⟩:=G;obtain⟨E,r,pl,T⟩:=I.tuple B;obtain⟨j,l,m,N,P,R⟩:=LK o;obtain⟨w,f,d⟩:=r.get m;have A:=r.length;have S:=Ga;have fin:EP X c e Q w s:=⟨z,H,I,d,q⟩;exact oh (x:=w) pl.typeIs jm.lookup
  (getItem_tuple (j:=j) (Q:=λr M=>r=w/\EP X c e Q r M) pl (by omega) (by omega) (by rw[bg,<- A];exact l) (by simpa using f) ⟨O,fin⟩) C
def Zj:IxR X rIxS:=by
 intro value slice e s N H x y v u Q I B C h A;obtain⟨z,i,c,rfl,rfl,G,r,q⟩:=h;obtain⟨t,rfl⟩:=B;obtain⟨M,rfl⟩:=C;obtain⟨j,d,m,E,o,p⟩:=LK r;have w:z.cps.toList.length=z.length:=by simp[Str.length]
 rw[w]at d o p;have F:=Ga;exact tail_any (typeIs_str s z t) slot_str_getitem.lookup (getItem_str (c:=c) (by
  have f:decide (i < -(2 ^ 63:Int))=δ:=aT (by omega);have l:decide (i >= 2 ^ 63)=δ:=aT (by omega);rw[f,l,Bool.or_false]) (by rw[d];simpa using m) ⟨.str ⟨#[c]⟩,H,I.x? _,⟨_,O⟩,q⟩) A
def rIx(K:av):R2:=λx y H Q=>Wc K x y H Q\/rIxT K x y H Q\/rIxS x y H Q
def Zk:IxR X (rIx X.K):=Px.or (Zi.or Zj)
def Ov(c:List ab)(n j:Nat)(u:ab):cN (·.setIfInBounds j u) { cls:=.type "list", data:=.seq c.toArray n }={ cls:=.type "list", data:=.seq (c.set j u).toArray n }:=by simp[cN]
theorem c3.bt{d:cD}{f:St}{H:Hp}{s:ae}{p:Addr}{xs:bL}(I:c3 X d f H s)(h:H p=Z (.bt xs)):
  ∃(c:List ab) (n:Nat),er xs c/\s.heap.get? p=Z { cls:=.type "list", data:=.seq c.toArray n }/\xs.length<=aG:=by
 obtain⟨z,c,n,r,e⟩:=I.fx p _ h;exact⟨c,n,r,e,z⟩
def c3.lstUpd{d c:List ab}(I:c3 X pins σ H s)(h:H p=Z (.bt xs))
  (l:s.heap.get? p=Z { cls:=.type "list", data:=.seq d.toArray n }) (hf:f { cls:=.type "list", data:=.seq d.toArray n }={ cls:=.type "list", data:=.seq c.toArray i }) (r:er j c) (m:j.length<=aG) (t:Nat):
  c3 X pins σ (fl H p (.bt j)) { s with heap:=s.heap.update p f,toks:=t }:=by
 have e:(s.heap.update p f).get? p=Z { cls:=.type "list", data:=.seq c.toArray i }:=by rw[fi f l (by rw[hf]<;>rfl),hf]
 refine I.vr (x:=p) (e:=p) (by rw[h];trivial) (.inl O) (λb u hb q=>(gH _ _ (dj hb)).t q) ⟨_,e⟩ ?_;exact⟨m,c,i,r,e⟩
def Ye:V->V->V->Hp->(Hp->Prop)->Prop:=λo i v H Q=>∃p c k j,o=.ref p/\i=.int k/\H p=Z (.bt c)/\ixN c.length k=Z j/\Q (fl H p (.bt (c.set j v)))
def set_list:PSet X Ye:=by
 intro pins s σ H o i v N M u Q I E C F h;obtain⟨p,xs,k,j,rfl,rfl,z,A,q⟩:=h;cases E;obtain⟨t,rfl⟩:=C;obtain⟨c,n,r,l,B⟩:=I.bt z;obtain⟨d,G,x,y⟩:=Pu A;have f:=r.length;have hn:=Ga;have m:c3 X pins σ (fl H p (.bt (xs.set j v))) { s with heap:=s.heap.update p (cN (·.setIfInBounds j u)) }:=
  I.lstUpd z l (Ov c n j u) (r.set F j) (by rw[eJ];exact B) s.toks
 by_cases w:0<=k
 .have e:k.toNat=j:=by rw[mN w y]at d;exact cI d
  exact W.ki_setAt l w (by omega) (by rw[bg,<- f];exact y) (by rw[e];exact⟨_,m,q⟩)
 .have e:(k+(c.toArray.size:Int)).toNat=j:=by rw[mH (by omega) x]at d;rw[bg,<- f];exact cI d
  exact W.ki_setBack l (by omega) (by rw[bg,<- f];exact x) (by omega) (by rw[e];exact⟨_,m,q⟩)
def LL(lo c:Option Int)(n:Nat):(sliceBounds lo c J n).1=((HT.j0 n 0 lo:Nat):Int)/\(sliceBounds lo c J n).2.1=((HT.j0 n n c:Nat):Int)/\(sliceBounds lo c J n).2.2=1:=by
 refine⟨?_,?_,O⟩
 .cases lo with
  |none=>simp[sliceBounds,HT.j0]
  |some i=>
   simp only[sliceBounds,HT.j0,pT,show (1:Int) > 0 by decide,if_true];by_cases h:i<0
   .simp only[h,if_true]<;>omega
   .simp only[h,if_false]<;>omega
 .cases c with
  |none=>simp[sliceBounds,HT.j0]
  |some i=>
   simp only[sliceBounds,HT.j0,pT,show (1:Int) > 0 by decide,if_true];by_cases h:i<0
   .simp only[h,if_true]<;>omega
   .simp only[h,if_false]<;>omega
def J6(c:List ab)(lo d:Option Int):slicePick c.toArray lo d J=((c.drop (HT.j0 c.length 0 lo)).take (HT.j0 c.length c.length d - HT.j0 c.length 0 lo)).toArray:=by obtain⟨e,f,h⟩:=LL lo d c.toArray.size;unfold slicePick;rw[e,f,h];simp only[sliceRange_one,pick_run,bg]<;>rfl
def Wd(K:av):V->Option Int->Option Int->Hp->VK->Prop:=λx lo d H Q=>∃a c,x=.ref a/\gi K H a c/\∀p,H p=J->Q (.ref p) (fl H p (.bt (MW c lo d)))
def We:SlR X (Wd X.K):=by intro i s C H x v A B lo e y Q I u j pl t h;obtain⟨a,c,rfl,l,q⟩:=h;cases u;obtain⟨p,r,f,m⟩:=I.list l;have d:=r.length;refine⟨"list", _,px.lookup,f.isList.typeIs,?_⟩;refine wpAny_getItem_list_slice f.isList j pl t .none (by simp) ?_ (by rw[bg]<;>omega);rw[J6,<- d];refine⟨.ref s.heap.objs.size,_,I.laid (t':=s.toks) (o:=.bt (MW c lo e)) (λb w q=>aK _ q) (aN _) ?_,O,q _ (I.fx.fresh (aN _))⟩;exact⟨bG (GW c lo e) m,_,0,(r.drop (HT.j0 c.length 0 lo)).take (HT.j0 c.length c.length e - HT.j0 c.length 0 lo),bx _ O⟩
def Eb:V->Bool
 |.E=>γ
 |.I _=>γ
 |.int _=>γ
 |.str _=>γ
 |_=>δ
def eqV:V->V->Bool
 |.E,.E=>γ
 |.I a,.I b=>a==b
 |.I a,.int b=>(if a then 1 else 0)==b
 |.int a,.I b=>a==(if b then 1 else 0)
 |.int a,.int b=>a==b
 |.str a,.str b=>a==b
 |_,_=>δ
def IE(f:e8 y u)(c:e8 x v)(h:Eb y=γ)(e:Eb x=γ):iY A s u v (eqV y x):=by
 cases y with
 |E=>
  cases f;cases x with
  |E=>cases c;exact lG _
  |I b=>cases c;exact tW b
  |int b=>obtain⟨t,rfl⟩:=c;exact oN b t
  |str b=>obtain⟨t,rfl⟩:=c;exact oO b t
  |_=>exact aq (show δ=γ from e) bu
 |I a=>
  cases f;cases x with
  |E=>cases c;exact tX a
  |I b=>cases c;exact tY a b
  |int b=>obtain⟨t,rfl⟩:=c;exact ui a b t
  |str b=>obtain⟨t,rfl⟩:=c;exact uj a b t
  |_=>exact aq (show δ=γ from e) bu
 |int a=>
  obtain⟨d,rfl⟩:=f;cases x with
  |E=>cases c;exact oP a d
  |I b=>cases c;exact uk a d b
  |int b=>obtain⟨t,rfl⟩:=c;exact uy a d b t
  |str b=>obtain⟨t,rfl⟩:=c;exact oY a d b t
  |_=>exact aq (show δ=γ from e) bu
 |str a=>
  obtain⟨d,rfl⟩:=f;cases x with
  |E=>cases c;exact oQ a d
  |I b=>cases c;exact um a d b
  |int b=>obtain⟨t,rfl⟩:=c;exact oZ a d b t
  |str b=>obtain⟨t,rfl⟩:=c;exact kX a d b t
  |_=>exact aq (show δ=γ from e) bu
 |_=>exact aq (show δ=γ from h) bu
def W2(x:V)(u:ab):Bool:=match u with
 |.none=>eqV .E x
 |.bool b=>eqV (.I b) x
 |.int i _=>eqV (.int i) x
 |.str z _=>eqV (.str z) x
 |_=>δ
def SI(r:e8 y u)(f:Eb y=γ):W2 x u=eqV y x:=by
 cases y with
 |E=>cases r;rfl
 |I b=>cases r;rfl
 |int i=>obtain⟨t,rfl⟩:=r;rfl
 |str z=>obtain⟨t,rfl⟩:=r;rfl
 |_=>exact aq (show δ=γ from f) bu
theorem E2:∀{c:bL} {d:List ab},er c d->c.all Eb=γ->d.any (W2 x)=c.any λy=>eqV y x
 |_,_,.nil,_=>rfl
 |y::c,u::d,.cons r t,f=>by rw[f9,aY]at f;rw[gb,gb,SI r f.1,E2 t f.2]
theorem Dc(i:e8 x v)(h:Eb x=γ):∀{e:bL} {d:List ab},er e d->e.all Eb=γ->∀u∈d,iY A s u v (W2 x u)
 |_,_,.nil,_=>λu c=>by cases c
 |y::e,u::d,.cons r t,f=>λj c=>by
  rw[f9,aY]at f;rcases aO.1 c with rfl|c
  .rw[SI r f.1];exact IE r i f.1 h
  .exact Dc i h t f.2 j c
def inV(x:V)(c:bL):Bool:=c.any λy=>eqV y x
def rIn(K:av)(neg:Bool):R2:=λx y H Q=>∃p c,y=.ref p/\(gi K H p c\/ij K H p c)/\Eb x=γ/\c.all Eb=γ/\Q (.I (if neg then !inV x c else inV x c)) H
def Q3:j? X (bw .In) (rIn X.K δ):=by
 intro i s t H x y v u Q I j m h;obtain⟨p,o,rfl,d,f,fs,q⟩:=h;cases m;rcases d with d|d
 .obtain⟨c,r,pl,l⟩:=I.list d;refine SeqAt.in_listAt (W2 x) pl.isList (λw e=>Dc j f r fs w (by simpa using e)) ⟨.I _,H,I,O,?_⟩;rw[show c.toArray.any (W2 x)=c.any (W2 x) by simp,E2 r fs];exact q
 .obtain⟨c,r,pl,l⟩:=I.tuple d;refine SeqAt.in_tupleAt (W2 x) pl (λw e=>Dc j f r fs w (by simpa using e)) ⟨.I _,H,I,O,?_⟩;rw[show c.toArray.any (W2 x)=c.any (W2 x) by simp,E2 r fs];exact q
def LM:j? X (bw .NotIn) (rIn X.K γ):=by
 intro i s t H x y v u Q I j m h;obtain⟨p,o,rfl,d,f,fs,q⟩:=h;cases m;rcases d with d|d
 .obtain⟨c,r,pl,l⟩:=I.list d;refine o7 (W2 x) pl.isList (λw e=>Dc j f r fs w (by simpa using e)) ⟨.I _,H,I,O,?_⟩;rw[show c.toArray.any (W2 x)=c.any (W2 x) by simp,E2 r fs];exact q
 .obtain⟨c,r,pl,l⟩:=I.tuple d;refine SeqAt.notIn_tupleAt (W2 x) pl (λw e=>Dc j f r fs w (by simpa using e)) ⟨.I _,H,I,O,?_⟩;rw[show c.toArray.any (W2 x)=c.any (W2 x) by simp,E2 r fs];exact q
def LN:wR X (.builtin "len") (λl H Q=>∃p d,l=[.ref p]/\(gi X.K H p d\/ij X.K H p d)/\Q (.int d.length) H):=by
 intro j s x H l w Q I r h;obtain⟨p,d,rfl,e,q⟩:=h;obtain⟨u,rfl,o⟩:=mq r;cases o;have t:=Ga;rcases e with e|e
 .obtain⟨f,i,pl,m⟩:=I.list e;have c:=i.length;exact Calls.call_len_list pl.isList (by simp only[bg]<;>omega) ⟨.int d.length,H,I.x? _,⟨s.toks+1,by rw[bg,c]⟩,q⟩
 .obtain⟨f,i,pl,m⟩:=I.tuple e;have c:=i.length;exact len_tuple pl (by simp only[bg]<;>omega) ⟨.int d.length,H,I.x? _,⟨s.toks+1,by rw[bg,c]⟩,q⟩
def LO:wR X (.builtin "len") (λd H Q=>∃z,d=[.str z]/\z.length<=aG/\Q (.int z.length) H):=by intro c s j H d i Q I r h;obtain⟨z,rfl,f,q⟩:=h;obtain⟨u,rfl,t,rfl⟩:=mq r;have e:=Ga;exact len_str (by omega) ⟨.int z.length,H,I.x? _,⟨_,O⟩,q⟩
def LP:wR X (.type "list") (λxs H Q=>∃p i,xs=[.ref p]/\(gi X.K H p i\/ij X.K H p i)/\∀l,H l=J->Q (.ref l) (fl H l (.bt i))):=by
 intro pins s σ H xs us Q I r h;obtain⟨p,i,rfl,m,q⟩:=h;obtain⟨u,rfl,A⟩:=mq r;cases A;have fin:∀(c:List ab),er i c->i.length<=aG->∀(h':Heap) (d:Nat),(∀b z,s.heap.get? b=Z z->h'.get? b=Z z)->
   h'.get? s.heap.objs.size=Z { cls:=.type "list", dict:=J,data:=.seq c.toArray d,slots:=#[] }->EP X pins σ Q (.ref s.heap.objs.size) { s with heap:=h' }:=λc f t h' d kp e=>
  ⟨.ref s.heap.objs.size,_,I.laid (t':=s.toks) kp (aN _) (show wL X.prog X.w _ h' _ (.bt i) from⟨t,c,d,f,e⟩),O,q _ (I.fx.fresh (aN _))⟩
 rcases m with m|m
 .obtain⟨c,f,pl,t⟩:=I.list m;have j:=f.length;obtain⟨o,y,x,n,hd⟩:=pl.isList;exact qB p (.inl O) y x hd (λh' d kp e=>fin c f t h' d kp e) (by simp only[bg]<;>omega)
 .obtain⟨c,f,pl,t⟩:=I.tuple m;have j:=f.length;obtain⟨o,y,x,n,hd⟩:=pl;exact qB p (.inr O) y x hd (λh' d kp e=>fin c f t h' d kp e) (by simp only[bg]<;>omega)
def J7:wR X (.type "tuple") (λxs H Q=>∃p d,xs=[.ref p]/\((gi X.K H p d/\∀l,H l=J->Q (.ref l) (fl H l (.d? d)))\/(ij X.K H p d/\Q (.ref p) H))):=by
 intro pins s σ H xs us Q I r h;obtain⟨p,d,rfl,h⟩:=h;obtain⟨u,rfl,y⟩:=mq r;cases y;rcases h with ⟨f,q⟩|⟨f,q⟩
 .obtain⟨c,i,pl,t⟩:=I.list f;have m:=i.length;refine call_tuple_list pl.isList (λh' kp=>?_) (by simp only[bg]<;>omega);have j:c3 X pins σ H { s with heap:=h' }:=I.g? (t':=s.toks) kp;have x:c3 X pins σ (fl H h'.objs.size (.d? d)) { s with heap:=h'.push { cls:=.type "tuple", data:=.seq c.toArray } }:=
   j.laid (t':=s.toks) (λb o e=>aK _ e) (aN _) (show wL X.prog X.w _ _ _ (.d? d) from⟨t,c,i,m3 _ _⟩)
  exact⟨.ref h'.objs.size,_,x,O,q _ (j.fx.fresh (aN _))⟩
 .obtain⟨c,i,pl,t⟩:=I.tuple f;exact call_tuple_same pl ⟨.ref p,H,I,O,q⟩
def tyV(K:av)(T:String)(x:V)(H:Hp):Prop:=match x with
 |.str _=>T="str"
 |.int _=>T="int"
 |.ref p=>(T="list" /\ ∃c,gi K H p c)\/(T="tuple" /\ ∃o,K.lookup p=Z o/\o.cls=.type "tuple" /\ o.dict=J)\/
   (T="dict" /\ ((∃kvs,H p=Z (.dK kvs))\/∃kvs,H p=Z (.dT kvs)))\/(T="set" /\ ∃S n,H p=Z (.set S n))
 |_=>False
def Zl(I:c3 X l y H s)(r:e8 x v)(ty:tyV X.K T x H):
  s.TypeIs v T/\∀a,v=.ref a->∃j,s.heap.get? a=Z j/\j.dict=J:=by
 cases x with
 |str z=>obtain⟨t,rfl⟩:=r;cases (show T="str" from ty);exact⟨typeIs_str s z t,λ_ e=>nomatch e⟩
 |int i=>obtain⟨t,rfl⟩:=r;cases (show T="int" from ty);exact⟨mT s i t,λ_ e=>nomatch e⟩
 |ref p=>
  cases r;rcases ty with ⟨rfl,w,q⟩|⟨rfl,o,d,m,hd⟩|⟨rfl,d⟩|⟨rfl,S,n,d⟩
  .obtain⟨u,_,pl,_⟩:=I.list q;refine⟨pl.isList.typeIs,λa e=>?_⟩;cases e;obtain⟨o,n,e,c,hd,_⟩:=pl;exact⟨o,e,hd⟩
  .refine⟨⟨o,I.rf p o d,m⟩,λa e=>?_⟩;cases e;exact⟨o,I.rf _ o d,hd⟩
  .have z:∃o,s.heap.get? p=Z o/\o.ExactDict:=by
    rcases d with ⟨kvs,d⟩|⟨kvs,d⟩
    .obtain⟨_,_,_,_,o,_,_,e,f,_⟩:=I.fx p _ d;exact⟨o,e,f⟩
    .obtain⟨_,_,_,_,o,_,_,e,f,_⟩:=I.fx p _ d;exact⟨o,e,f⟩
   obtain⟨o,e,f⟩:=z;refine⟨⟨o,e,f.1⟩,λa h=>?_⟩;cases h;exact⟨o,e,f.2.1⟩
  .obtain⟨o,_,_,_,e,f,_⟩:=I.fx p _ d;refine⟨⟨o,e,f.1⟩,λa h=>?_⟩;cases h;exact⟨o,e,f.2.1⟩
 |_=>exact de ty
def tBM(K:av)(T:String)(r:V->bL->Hp->VK->Prop)(to:TE)(t:TA):TE:=λd H Q=>to d H λx c=>tyV K T x c/\t d c λf e=>r x f e Q
variable{o e:Expr}{es:List Expr}{to:TE}{t:TA}{name:Str}{apos cpos:Pos}{T id:String}{r:V->bL->Hp->VK->Prop}
def ac4(A:mU T)(slot:Slot T name id)(hty:typeOf (.builtin id)=pure (.type "method_descriptor"))(w:MtR X id r)(y:PE X o to)(u:PA X (e::es) t)
  (hbase:fJ o name X.b1 (eval o X.b1)=eval o X.b1:=by rfl)
  (hfew:((bD cpos (aA (e::es) X.b1)).all (λx=>!x.1)&&(backToKw cpos (dY [] X.b1)).all (λx=>x.1.isSome)
   && decide ((e::es).length+([]:List fM).length+(if ([]:List fM).isEmpty then 0 else 1)<30))=γ:=by rfl)
  (hline:(apos.endLine==cpos.line)=γ:=by rfl) (z:aA (e::es) X.b1=(δ,eval e X.b1)::aA es X.b1:=by rfl) (hplain:(bD cpos (aA es X.b1)).any (·.1)=δ:=by rfl):
  PE X (.Call (.Attribute o name apos) (e::es) [] cpos) (tBM X.K T r to t):=by
 intro c s d H Q I h;refine wpAny_Call_method_late hbase hfew hline O (f5 (y c s d H _ I h) λv F zz=>?_);obtain⟨x,j,f,i,ty,B⟩:=zz;obtain⟨p,q⟩:=Zl f i ty;refine⟨T,id,A,slot,hty,p,q,?_⟩;have hA:=u cpos c F d j _ f B;rw[z]at hA ⊢;refine iw (by show (δ||(bD cpos (aA es X.b1)).any (·.1))=δ;rw[hplain]<;>rfl) (iB ?_)
 exact f5 hA λM G ⟨N,l,m,E,C⟩=>w c G d l x N v M Q m i E C
end
def MtM(X:Cx)(id:String)(r:V->bL->Hp->VK->Prop):Prop:=
 ∀(a:cD) (s:ae) (d:St) (H:Hp) (x:V) (c:bL) (v:ab) (b:List ab) (Q:VK),c3 X a d H s->e8 x v->er c b->r x c H Q->
  ah (model X.prog X.w) X.A (call (.builtin id) (v::b)) (EP X a d Q) X.xe s
def er.one:∀{x:V} {a:List ab},er [x] a->∃u,a=[u]/\e8 x u
 |_,_,.cons r .nil=>⟨_,O,r⟩
theorem er.rep(h:er b a):∀k:Nat,er (bU k b).flatten (bU k a).flatten
 |0=>.nil
 |k+1=>by rw[fT,fT,gR,gR];exact er.append h (er.rep h k)
theorem H4(a:List ab):∀(k:Nat) (acc:List ab),
  mV (λc d=>c++d) acc.toArray (bU k a.toArray)=(acc++(bU k a).flatten).toArray
 |0,acc=>by simp
 |k+1,acc=>by
  have e:acc.toArray++a.toArray=(acc++a).toArray:=by simp
  have b:(acc++a)++(bU k a).flatten=acc++(bU (k+1) a).flatten:=by rw[fT,gR,bX]
  rw[<-b,<- H4 a k (acc++a),<- e,fT,iN]
section
variable{X:Cx}{pins:cD}{σ:St}{H:Hp}{s:ae}{l b:Addr}{xs ys zs:bL}
def c3.lset{a its':List ab}(I:c3 X pins σ H s)(hH:H l=Z (.bt xs))
  (e:s.heap.get? l=Z { cls:=.type "list", data:=.seq a.toArray n }) (hf:f a.toArray=its'.toArray) (d:er ys its') (h:ys.length<=aG):
  c3 X pins σ (fl H l (.bt ys)) { s with heap:=s.heap.update l (cN f),toks:=j }:=by
 have q:=PySem.IsL.update e f;rw[hf]at q;refine I.vr (x:=l) (e:=l) (by rw[hH];exact trivial) (.inl O) (λi u hb c=>(gH s.heap (cN f) (dj hb)).t c) ⟨_,q⟩ ?_;exact⟨h,its',_,d,q⟩
def c3.lnew(I:c3 X pins σ H s)(c:er ys a)(d:ys.length<=aG):
  c3 X pins σ (fl H s.heap.objs.size (.bt ys)) { s with heap:=s.heap.push { cls:=.type "list", data:=.seq a.toArray },toks:=t' }:=
 I.laid (λ_ _ q=>aK _ q) (aN _) ⟨d,a,0,c,bx _ O⟩
theorem c3.fresh(I:c3 X pins σ H s):H s.heap.objs.size=J:=I.fx.fresh (aN _)
def c3.T3(I:c3 X pins σ H s)(hH:H l=Z (.bt xs)):xs.length<=aG/\∃(a:List ab) (n:Nat),er xs a/\xs.length=a.length/\s.heap.get? l=Z { cls:=.type "list", data:=.seq a.toArray n }:=by obtain⟨z,a,n,r,e⟩:=I.fx l _ hH;exact⟨z,a,n,r,r.length,e⟩
def IF(h:n<=aG):gE n=δ:=by unfold gE;exact aT (by omega)
end
section
variable{X:Cx}
def LQ:V->bL->Hp->VK->Prop:=λx b H Q=>∃l a y,x=.ref l/\b=[y]/\H l=Z (.bt a)/\a.length<aG/\Q .E (fl H l (.bt (a++[y])))
theorem Ge:MtM X "list.append" LQ:=by intro c s w H x p v o Q I i f h;obtain⟨l,t,y,rfl,rfl,hH,m,q⟩:=h;cases i;obtain⟨u,rfl,d⟩:=f.one;obtain⟨z,a,n,r,j,e⟩:=I.T3 hH;refine iZ kY ⟨_,e,O⟩ F.entry_list_append (F.args_list_append_2 _ _) (PySem.list_append l a.toArray n u (by rw[bg];omega)) ⟨e,?_⟩;refine⟨.E,_,I.lset (its':=a++[u]) hH e (by simp) (r.append (.cons d .nil)) ?_,O,q⟩;rw[aC,cF];omega
def Py:V->bL->Hp->VK->Prop:=λx d H Q=>∃l b a c,x=.ref l/\d=[.ref b]/\H l=Z (.bt a)/\H b=Z (.bt c)/\a.length+c.length<=aG/\Q .E (fl H l (.bt (a++c)))
def Q4:MtM X "list.extend" Py:=by
 intro i s N H x E v C Q I y w h;obtain⟨l,b,F,M,rfl,rfl,hH,hB,B,q⟩:=h;cases y;obtain⟨u,rfl,t⟩:=w.one;cases t;obtain⟨z,c,n,r,A,e⟩:=I.T3 hH;obtain⟨G,a,o,p,m,j⟩:=I.T3 hB;have d:c.toArray.size+a.toArray.size<=aG:=by rw[bg,bg];omega
 have hlong:¬(!c.toArray.isEmpty&&gE (c.toArray.size+a.toArray.size))=γ:=by rw[IF d,ql];exact bu
 refine iZ jC ⟨_,e,O⟩ oR (oH _ _)
  (AutoSeq1.list_extend_list_list_0 l c.toArray n b a.toArray o hlong (by rw[bg];omega) (by omega)) ⟨e,j,?_⟩
 refine⟨.E,_,I.lset (its':=c++a) hH e (by simp) (r.append p) ?_,O,q⟩;rw[aC];omega
def rCat:R2:=λx y H Q=>∃l b a c,x=.ref l/\y=.ref b/\H l=Z (.bt a)/\H b=Z (.bt c)/\a.length+c.length<=aG/\∀p,H p=J->Q (.ref p) (fl H p (.bt (a++c)))
def Zm:j? X (cJ .Add) rCat:=by
 intro d s G H x y v u Q I o p h;obtain⟨l,b,C,F,rfl,rfl,hH,hB,w,q⟩:=h;cases o;cases p;obtain⟨z,c,n,r,t,e⟩:=I.T3 hH;obtain⟨E,a,A,m,j,f⟩:=I.T3 hB;refine PySem.P.add_list e f ?_ (by rw[bg,bg];omega);have i:c.toArray++a.toArray=(c++a).toArray:=by simp
 rw[i];exact⟨.ref _,_,I.lnew (t':=s.toks) (r.append m) (by rw[aC];omega),O,q _ I.fresh⟩
def rRep:R2:=λx y H Q=>∃l k a,x=.ref l/\y=.int k/\H l=Z (.bt a)/\-(2 ^ 63)<=k/\k<2 ^ 63/\a.length * k.toNat<=aG/\
 ∀p,H p=J->Q (.ref p) (fl H p (.bt (bU k.toNat a).flatten))
def len_rep{c:Type}(a:List c)(k:Nat):(bU k a).flatten.length=k * a.length:=by
 induction k with
 |zero=>simp
 |succ k b=>rw[fT,gR,aC,b,Nat.succ_mul,Nat.add_comm]
theorem Zn:j? X (cJ .Mult) rRep:=by
 intro j s P H x y v u Q I B C h;obtain⟨l,k,N,rfl,rfl,hH,p,w,i,q⟩:=h;cases B;obtain⟨t,rfl⟩:=C;obtain⟨z,b,n,r,A,e⟩:=I.T3 hH;have c:b.toArray.size * k.toNat<=aG:=by rw[bg,<- A];exact i
 have hcap:¬b.toArray.size * k.toNat > (2 ^ 63 - 1) / 8:=by
  have:(aG:Nat)<=(2 ^ 63 - 1) / 8:=by decide
  omega
 have hfit:¬(!Builtin.List.listFitsIndex k)=γ:=by rw[fitsIndex_both p w];exact bu
 have hlong:¬gE (b.toArray.size * k.toNat)=γ:=by rw[IF c];exact bu
 have hnew:mV (λd f=>d++f) #[] (bU (if b.toArray.isEmpty=γ then 0 else k.toNat) b.toArray)=(bU k.toNat b).flatten.toArray:=by
  have o:∀m:Nat,mV (λd f=>d++f) #[] (bU m b.toArray)=(bU m b).flatten.toArray:=λm=>by have:=H4 b m [];rw[cw]at this;exact this
  rw[o];cases b with
  |nil=>simp
  |cons a G=>rw[ao (by simp)]
 refine wpAny_binaryOp_repeat_ref (T:="list") (U:="int") (by decide) ⟨_,e,O⟩ (λE=>mT E k t) noFill_list_mul F.fills_int_mul pZ repeat_list F.slot_int_index.lookup
  (iZ pZ (mT s k t) F.entry_int_rmul (F.args_int_rmul_2 _ _) (int___rmul___int_list k t l b.toArray n)
   ⟨e,O,⟨_,e,O⟩,iZ F.slot_list_mul ⟨_,e,O⟩ F.entry_list_mul (F.args_list_mul_2 _ _) (AutoListH.list___mul___list_int_3 l b.toArray n k t hfit hcap hlong) ⟨e,?_⟩⟩)
 rw[hnew];exact⟨.ref _,_,I.lnew (t':=s.toks) (r.rep k.toNat) (by rw[len_rep,Nat.mul_comm];exact i),O,q _ I.fresh⟩
end
section
variable{prog:aH}{w:az}{A:aJ}{E:ab->ae->Prop}{s:ae}
set_option maxRecDepth 100000 in
end
section
variable{κ:Type}[DecidableEq κ]
def y9(kvs:List (κ×V))(k:κ):Option V:=(kvs.find? λkv=>decide (kv.1=k)).map (·.2)
def n3(kvs:List (κ×V))(k:κ)(v:V):List (κ×V):=
 if (kvs.any λkv=>decide (kv.1=k))=γ then kvs.map (λkv=>if kv.1=k then (kv.1,v)else kv)else kvs++[(k,v)]
def E3{p:κ×V}(e:p.1=k):y9 (p::r) k=Z p.2:=by simp[y9,dB,e]
def E4{p:κ×V}(e:¬p.1=k):y9 (p::r) k=y9 r k:=by simp[y9,dB,e]
theorem IG(k:κ):∀kvs:List (κ×V),(kvs.any λkv=>decide (kv.1=k))=(y9 kvs k).isSome
 |[]=>rfl
 |p::r=>by
  rw[gb];by_cases e:p.1=k
  .simp only[E3 e,aU e,Bool.true_or,Option.isSome_some]
  .rw[E4 e,aT e,Bool.false_or];exact IG k r
def De(kvs:List (κ×V))(k:κ)(v:V):(n3 kvs k v).length<=kvs.length+1:=by
 unfold n3;split
 .rw[ag];omega
 .rw[aC,aM,fF];omega
def SJ{kvs:List (κ×V)}{k:κ}(v:V)(h:y9 kvs k=J):n3 kvs k v=kvs++[(k,v)]:=by unfold n3;rw[IG,h];exact ao (by decide)
def Da.isSome_eq(r:Da o u):o.isSome=u.isSome:=by
 cases o with
 |none=>cases u with
  |none=>rfl
  |some _=>exact(show False from r).elim
 |some _=>cases u with
  |none=>exact(show False from r).elim
  |some _=>rfl
theorem Da.getD(r:Da o u)(b:e8 d a):e8 (o.getD d) (u.getD a):=by
 cases o with
 |none=>cases u with
  |none=>exact b
  |some _=>exact(show False from r).elim
 |some _=>cases u with
  |none=>exact(show False from r).elim
  |some _=>exact r
def KV.val(r:KV kvs j)(k:κ):Da (y9 kvs k) (valueAt j k):=by
 unfold KV at r
 induction r with
 |nil=>exact True.intro
 |@cons p q l c h t i=>
  obtain⟨d,f⟩:=h;by_cases e:p.1=k
  .have a:q.1=k:=d.symm.t e;have b:valueAt (q::c) k=Z q.2:=by simp[valueAt,dB,a]
   rw[E3 e,b];exact f
  .have a:¬q.1=k:=λz=>e (d.t z);have b:valueAt (q::c) k=valueAt c k:=by simp[valueAt,dB,a]
   rw[E4 e,b];exact i
theorem KV.any(r:KV kvs vs)(k:κ):(kvs.any λkv=>decide (kv.1=k))=vs.any λkv=>decide (kv.1=k):=by
 unfold KV at r
 induction r with
 |nil=>rfl
 |cons h t a=>rw[gb,gb,a,h.1]
def KV.repl(r:KV kvs f)(k:κ)(d:e8 y u):
  KV (kvs.map λkv=>if kv.1=k then (kv.1,y)else kv) (f.map λkv=>if kv.1=k then (kv.1,u)else kv):=by
 unfold KV at r ⊢
 induction r with
 |nil=>exact .nil
 |@cons p q i j h t c=>
  rw[aI,aI];refine .cons ?_ c;obtain⟨a,b⟩:=h;by_cases e:p.1=k
  .rw[aj e,aj (a.symm.t e)];exact⟨a,d⟩
  .rw[ao e,ao (λz=>e (a.t z))];exact⟨a,b⟩
def KV.put(r:KV kvs b)(k:κ)(a:e8 y u):KV (n3 kvs k y) (stored b k u):=by
 unfold n3 stored;rw[r.any k];by_cases e:(b.any λkv=>decide (kv.1=k))=γ
 .rw[aj e,aj e];exact r.repl k a
 .rw[ao e,ao e];exact qY r ⟨O,a⟩
theorem KV.length(r:KV kvs vs):kvs.length=vs.length:=l7 r
end
def GY(r:e8 (kV k) u):(vF P w).is k u=γ:=by
 cases k with
 |inl i=>obtain⟨t,e⟩:=(show ∃t,u=Value.int i t from r);subst e;exact MM P w i t
 |inr x=>obtain⟨t,e⟩:=(show ∃t,u=Value.str x t from r);subst e;exact MN P w x t
theorem KB:∀{a:List fh} {b:List ab},er (a.map kV) b->ItemsAre (vF P w) a b
 |[],_,r=>by rw[fK]at r;cases r;exact .nil
 |k::a,_,r=>by
  rw[aI]at r;cases r with
  |cons h t=>exact .cons (GY h) (KB t)
abbrev KT(H:Hp):List (List fh×V)->List (List fh×Addr×ab)->Prop:=hZ λp q=>p.1=q.1/\H q.2.1=Z (.d? (p.1.map kV))/\e8 p.2 q.2.2
def KT.val(r:KT H kvs xs)(k:List fh):Da (y9 kvs k) ((atKey xs k).map (·.2)):=by
 induction r with
 |nil=>exact True.intro
 |@cons p q j c h t i=>
  obtain⟨d,_,f⟩:=h;by_cases e:p.1=k
  .have a:q.1=k:=d.symm.t e;have b:atKey (q::c) k=Z q.2:=by simp[atKey,dB,a]
   rw[E3 e,b];exact f
  .have a:¬q.1=k:=λz=>e (d.t z);have b:atKey (q::c) k=atKey c k:=by simp[atKey,dB,a]
   rw[E4 e,b];exact i
def KT.repl(r:KT H kvs i)(k:List fh)(f:e8 y u):
  KT H (kvs.map λkv=>if kv.1=k then (kv.1,y)else kv) (i.map (putAt k u)):=by
 induction r with
 |nil=>exact .nil
 |@cons p q j l h t d=>
  rw[aI,aI];refine .cons ?_ d;obtain⟨a,b,c⟩:=h;unfold putAt;by_cases e:p.1=k
  .rw[aj e,aj (a.symm.t e)];exact⟨a,b,f⟩
  .rw[ao e,ao (λz=>e (a.t z))];exact⟨a,b,c⟩
def KT.put(r:KT H kvs a)(k:List fh)(d:H b=Z (.d? (k.map kV)))(c:e8 y u):
  KT H (n3 kvs k y) (storedH a k b u):=by
 have e:(kvs.any λkv=>decide (kv.1=k))=(atKey a k).isSome:=by rw[IG,(r.val k).isSome_eq,Option.isSome_map]
 unfold n3 storedH;rw[e];by_cases q:(atKey a k).isSome=γ
 .rw[aj q,aj q];exact r.repl k c
 .rw[ao q,ao q];exact qY r ⟨O,d,c⟩
def KT.keeps(r:KT H kvs e)(d:∀b a,H b=Z (.d? a)->c b=Z (.d? a)):KT c kvs e:=
 Paired.mapP r λ_ _ z=>⟨z.1,d _ _ z.2.1,z.2.2⟩
section
variable{P:aH}{w:az}{H:Hp}{h:Heap}{a:Addr}
def Yf(ok:rr P w H h)(e:Rd H a u):wL P w H h a u:=e.ok ok
def GZ(ok:rr P w H h)(e:Rd H a (.dK kvs)):kvs.length<=aG/\(a==dF)=δ/\∃b,KV kvs b/\h.DictOf (vF P w) a b:=
 show wL P w H h a (.dK kvs) from Yf ok e
def Yg(ok:rr P w H h)(e:H a=Z (.dK kvs)):kvs.length<=aG/\(a==dF)=δ/\∃b,KV kvs b/\h.DictOf (vF P w) a b:=GZ ok (.inl e)
def IH{c:List fh}(ok:rr P w H h)(e:H a=Z (.d? (c.map kV))):(tupleKind (vF P w)).is h c a:=by obtain⟨_,b,r,o,d,f,n,i⟩:=(show wL P w H h a (.d? (c.map kV)) from ok a _ e);exact⟨o,b.toArray,n,d,f,i,by simpa using KB r⟩
def KC(ok:rr P w H h)(e:Rd H a (.dT kvs)):kvs.length<=aG/\(a==dF)=δ/\
  ∃c,KT H kvs c/\h.DictOfH (tupleKind (vF P w)) a c:=by
 obtain⟨z,y,c,r,o,i,f,j,u,A,B,C⟩:=(show wL P w H h a (.dT kvs) from Yf ok e);refine⟨z,y,c,r,o,i,f,j,u,A,B,λx b=>?_,C⟩;have all:∀{l:List (List fh×V)} {m:List (List fh×Addr×ab)},KT H l m->∀x∈m,(tupleKind (vF P w)).is h x.1 x.2.1:=by
  intro l m q
  induction q with
  |nil=>intro x b;exact nomatch b
  |@cons p q F G d t E=>
   intro x b;rcases aO.1 b with e|b
   .subst e;exact IH ok (by rw[<-d.1];exact d.2.1)
   .exact E x b
 exact all r x b
def ac5(ok:rr P w H h)(e:H a=Z (.dT kvs)):kvs.length<=aG/\(a==dF)=δ/\
  ∃b,KT H kvs b/\h.DictOfH (tupleKind (vF P w)) a b:=KC ok (.inl e)
end
def ts(H:Hp)(a:Addr)(y:V)(r:Option V):Prop:=
 (∃kvs k,Rd H a (.dK kvs)/\y=kV k/\r=y9 kvs k)\/∃kvs k b,Rd H a (.dT kvs)/\y=.ref b/\H b=Z (.d? (k.map kV))/\r=y9 kvs k
def SK(H:Hp)(a:Addr)(y v:V)(c:Hp):Prop:=
 (∃kvs k,H a=Z (.dK kvs)/\y=kV k/\kvs.length<aG/\c=fl H a (.dK (n3 kvs k v)))\/
 ∃kvs k b,H a=Z (.dT kvs)/\y=.ref b/\H b=Z (.d? (k.map kV))/\kvs.length<aG/\c=fl H a (.dT (n3 kvs k v))
theorem SK.k{H:Hp}{a:Addr}{kvs:List (fh×V)}{k:fh}{v:V}(e:H a=Z (.dK kvs))(b:kvs.length<aG):SK H a (kV k) v (fl H a (.dK (n3 kvs k v))):=.inl ⟨kvs,k,e,O,b,O⟩
section
variable{X:Cx}{pins:cD}{σ:St}{H:Hp}{s:ae}{a:Addr}{y v:V}{u r:ab}{o:Option V}{A:aJ}{E:ab->ae->Prop}
def c3.big(I:c3 X pins σ H s):dF<s.heap.objs.size:=by have h:bf<s.heap.objs.size:=(I.G?.Dw.keeps I.bk).lt;exact Nat.lt_trans (by decide) h
def Q5(C:A.units+1<cLine)(I:c3 X pins σ H s)(g:ts H a y (Z v))(q:e8 y u)(h:∀d t,c3 X pins σ H t->e8 v d->Q d t):
  ah (model X.prog X.w) A (getItem (.ref a) u) Q E s:=by
 rcases g with ⟨kvs,k,e,i,l⟩|⟨kvs,k,b,e,i,x,l⟩
 .subst i;obtain⟨z,hd,F,rel,f⟩:=GZ I.fx e;obtain⟨d,m,c⟩:=Da.K3 (v:=v) (o:=valueAt F k) (by rw[l];exact rel.val k);exact wpAny_getItem_of (GY q) f.mapOf m (h d _ (I.x? _) c)
 .subst i;cases (show u=Value.ref b from q);obtain⟨z,hd,G,rel,f⟩:=KC I.fx e;obtain⟨d,m,c⟩:=Da.K3 (v:=v) (o:=(atKey G k).map (·.2)) (by rw[l];exact rel.val k)
  obtain⟨p,B,j⟩:=Option.map_eq_some_iff.1 m;refine wpAny_getItem_heap (jD C) (IH I.fx x) f B ?_;rw[j];exact h d _ (I.x? _) c
def LR(I:c3 X pins σ H s)(f:Mut (H a))(d:dD a s.heap h')(c:∃q,h'.get? a=Z q)(new:wL X.prog X.w (fl H a ob) h' a ob):
  c3 X pins σ (fl H a ob) { s with heap:=h',toks:=h }:=
 I.vr (x:=a) (e:=a) f (.inl O) (λb q hb z=>(d.2 b hb).t z) c new
def SL{b:Heap}{kvs:List (fh×V)}(z:kvs.length<=aG)(hd:(a==dF)=δ)(rel:KV kvs c)(d:b.DictOf (vF P w) a c):
  wL P w e b a (.dK kvs):=⟨z,hd,c,rel,d⟩
def Q6(hu:A.units+1<cLine)(I:c3 X pins σ H s)(g:SK H a y v P)(M:e8 y u)(G:e8 v r)(h:∀N,c3 X pins σ P N->Q () N):
  ah (model X.prog X.w) A (setItem (.ref a) u r) Q E s:=by
 rcases g with ⟨kvs,k,e,j,l,eH⟩|⟨kvs,k,b,e,j,B,l,eH⟩
 .subst j eH;obtain⟨z,hd,vs,rel,i⟩:=Yg I.fx e;have x:vs.length<=aG:=by rw[<-rel.length];exact z
  have m:(n3 kvs k v).length<=aG:=by have:=De kvs k v;omega
  refine wpAny_setItem_pairs (hsz:=x) (GY M) i λF d p=>h _ ?_;have he:∃q,F.get? a=Z q:=let ⟨q,_,_,f,_⟩:=d;⟨q,f⟩;exact LR I (by rw[e];exact True.intro) p he (SL m hd (rel.put k G) d)
 .subst j eH;cases (show u=Value.ref b from M);obtain⟨z,hd,xs,rel,i⟩:=ac5 I.fx e;have x:xs.length<=aG:=by rw[<-l7 rel];exact z
  have m:(n3 kvs k v).length<=aG:=by have:=De kvs k v;omega
  refine wpAny_setItem_heap (hsz:=x) (jD hu) (IH I.fx B) i λF d p=>h _ ?_;obtain⟨q,S,R,f,T,U,W,_,Y⟩:=d;refine LR I (by rw[e];exact True.intro) p ⟨q,f⟩ ⟨m,hd,_,(rel.put k B G).keeps λc ys C=>?_,q,S,R,f,T,U,W,Y⟩;rw[vt (acB C e (λz=>nomatch z))];exact C
end
section
variable{X:Cx}{pins:cD}{σ:St}{H:Hp}{s:ae}{a:Addr}{kvs:List (fh×V)}{k:fh}{u:ab}{A:aJ}{E:ab->ae->Prop}
def ac6(I:c3 X pins σ H s)(e:Rd H a (.dK kvs))(h:∀t b,c3 X pins σ H b->Q (.int kvs.length t) b):ah (model X.prog X.w) A (call (.builtin "len") [.ref a]) Q E s:=by obtain⟨z,hd,d,rel,c⟩:=GZ I.fx e;refine call_len_dict hd c (by rw[<-rel.length];rw[bQ]at z;omega) ?_;rw[<-rel.length];exact h _ _ (I.x? _)
end
def Zo(i:Expr):Prop:=∀b a,subscripted i δ b a=operate [b,a] (getItem b a)
def Wf{prog:aH}{w:az}{A:aJ}{E:ab->ae->Prop}{s:ae}{b1:Env}{value slice:Expr}{pos:Pos}{T id:String}{Q:ab->ae->Prop}
  (j:typeLookup (.type T) "__getitem__" = pure (Z (.builtin id))) (l:Zo slice)
  (h:ah (model prog w) A (eval value b1) (λo c=>ah (model prog w) A (eval slice b1) (λi a=>a.TypeIs o T/\ah (model prog w) A (getItem o i) Q E a) E c) E s):
  ah (model prog w) A (eval (.Subscript value slice pos) b1) Q E s:=by
 refine mS (b8 h (λo c e=>b8 e (λi a b=>?_) λ_ _ x=>x) λ_ _ x=>x);obtain⟨hT,b⟩:=b;unfold subscriptTail;refine af ?_;rw[getitemInPython_of_ne hT.not_modules];refine af (gW hT j ?_);have fin:ah (model prog w) A (subscripted slice δ o i) (λr d=>ah (model prog w) A (letTemporaryGo value o r>>=λ_=>pure r) Q E d) E a:=by rw[l o i];exact wpAny_operating (b8 b (λr d f=>af (wpAny_letTemporaryGo (ar f))) λ_ _ x=>x)
 first
  |exact ar (af fin)
  |exact af (ar (af fin))
  |exact af fin
def MX(I:c3 X d i H s)(g:ts H a y o):s.TypeIs (.ref a) "dict" := by
 rcases g with ⟨kvs,k,e,_,_⟩|⟨kvs,k,b,e,_,_,_⟩
 .obtain⟨_,_,f,_,c⟩:=GZ I.fx e;exact c.typeIs
 .obtain⟨_,_,h,_,c⟩:=KC I.fx e;exact c.typeIs
def ac7(e ty:TE):TE:=λc H Q=>e c H λx d=>ty c d λy b=>∃a v,x=.ref a/\ts b a y (Z v)/\Q v b
def Yh(h ty i:TE):TS:=λD b H=>i b H λv d=>h b d λx e=>ty b e λy f=>∃a c,x=.ref a/\SK f a y v c/\D.nx b c
section
variable{X:Cx}{o i e value:Expr}{pos pos' tpos:Pos}{td ty tv:TE}
theorem Wg(z:X.A.units+1<cLine)(t:PE X o td)(r:PE X i ty)(w:Zo i):PE X (.Subscript o i pos) (ac7 td ty):=by intro b s f H Q I h;refine Wf F.slot_dict_getitem.lookup w (f5 (t b s f H _ I h) λu M ⟨x,j,m,E,B⟩=>f5 (r b M f j _ m B) λN P zz=>?_);obtain⟨y,l,d,G,a,v,q,g,C⟩:=zz;subst q;obtain rfl:u=Value.ref a:=E;exact⟨MX d g,Q5 z d g G λS R p c=>⟨v,l,p,c,C⟩⟩
def Wh(C:X.A.units+1<cLine)(z:PE X o td)(w:PE X i ty)(E:PE X value tv)(B:dG value (Z (.Subscript o i pos')) pos.line X.b1=pure δ):
  PS X (.Assign [.Subscript o i pos'] value pos) (Yh td ty tv):=by
 intro b s c H D I h;refine wpAny_Assign_Subscript (f5 (E b s c H _ I h) λr Q ⟨v,d,l,M,F⟩=>f5 (z b Q c d _ l F) λu R ⟨x,f,m,N,G⟩=>f5 (w b R c f _ m G) λT U zz=>?_) B;obtain⟨y,S,p,P,a,j,t,g,q3⟩:=zz;subst t;obtain rfl:u=Value.ref a:=N;exact Q6 C p g P M λW q=>⟨c,j,q,q3⟩
end
def SM(h:Heap)(a:dF<h.objs.size):wL P w H (h.push { cls:=.type "dict", data:=.dict #[] }) h.objs.size (.dK []):=
 ⟨cp _,beq_eq_false_iff_ne.2 (dj (bb a)),[],.nil,uJ h⟩
def Ow:TE:=λ_ H Q=>∀p,H p=J->Q (.ref p) (fl H p (.dK []))
section
variable{X:Cx}{pos:Pos}
def MY:PE X (.Dict [] [] pos) Ow:=λb s d H Q I h=>
 wpAny_Dict_empty ⟨.ref s.heap.objs.size,_,I.laid (a:=s.heap.objs.size) (o:=.dK []) (t':=s.toks) (λ_ _ q=>aK _ q) (aN _) (SM s.heap I.big),O,h _ (I.fx.fresh (aN _))⟩
end
structure M1(X:Cx)(o:Expr)(m:Str)(apos:Pos)(e:Expr)(cpos:Pos):Prop where
 b?:fJ o m X.b1 (eval o X.b1)=eval o X.b1
 few:((bD cpos (aA [e] X.b1)).all (λx=>!x.1)&&(backToKw cpos (dY [] X.b1)).all (λx=>x.1.isSome)
  && decide (([e]:List Expr).length+([]:List fM).length+(if ([]:List fM).isEmpty then 0 else 1)<30))=γ
 line:(apos.endLine==cpos.line)=γ
 O?:bD cpos (aA [e] X.b1)=[(δ,eval e X.b1)]
structure M2(X:Cx)(o:Expr)(m:Str)(apos:Pos)(e f:Expr)(cpos:Pos):Prop where
 b?:fJ o m X.b1 (eval o X.b1)=eval o X.b1
 few:((bD cpos (aA [e,f] X.b1)).all (λx=>!x.1)&&(backToKw cpos (dY [] X.b1)).all (λx=>x.1.isSome)
  && decide (([e,f]:List Expr).length+([]:List fM).length+(if ([]:List fM).isEmpty then 0 else 1)<30))=γ
 line:(apos.endLine==cpos.line)=γ
 O?:bD cpos (aA [e,f] X.b1)=[(δ,eval e X.b1),(δ,eval f X.b1)]
def IsD(H:Hp)(a:Addr):Prop:=(∃kvs,Rd H a (.dK kvs))\/∃kvs,Rd H a (.dT kvs)
def LU(I:c3 X j o H s)(d:IsD H a):
  s.TypeIs (.ref a) "dict" /\ (∀b,Value.ref a=.ref b->∃c,s.heap.get? b=Z c/\c.dict=J)/\(a==dF)=δ:=by
 rcases d with ⟨kvs,e⟩|⟨kvs,e⟩
 .obtain⟨_,hd,l,_,f⟩:=GZ I.fx e;refine⟨f.typeIs,λb q=>?_,hd⟩;cases q;obtain⟨c,_,_,h,i,_⟩:=f;exact⟨c,h,i.2.1⟩
 .obtain⟨_,hd,m,_,f⟩:=KC I.fx e;refine⟨f.typeIs,λb q=>?_,hd⟩;cases q;obtain⟨c,_,_,h,i,_⟩:=f;exact⟨c,h,i.2.1⟩
section
variable{X:Cx}{pins:cD}{σ:St}{H:Hp}{s:ae}{a:Addr}{y d:V}{u r:ab}{o:Option V}{A:aJ}{E:ab->ae->Prop}
def SN(q:A.units+1<cLine)(I:c3 X pins σ H s)(g:ts H a y o)(i:e8 y u)(h:∀m j,c3 X pins σ H j->e8 (o.getD .E) m->Q m j):
  ah (model X.prog X.w) A (call (.builtin "dict.get") [.ref a,u]) Q E s:=by
 rcases g with ⟨kvs,k,e,f,l⟩|⟨kvs,k,b,e,f,p,l⟩
 .subst f;obtain⟨z,hd,x,rel,c⟩:=GZ I.fx e;refine hG fG c.typeIs iM (lg _ _) (qm (vF X.prog X.w) a (GY i) hd) ⟨_,c.mapOf,h _ _ (I.x? _) ?_⟩;rw[l];exact(rel.val k).getD O
 .subst f;cases (show u=Value.ref b from i);obtain⟨z,hd,t,rel,c⟩:=KC I.fx e;refine hG fG c.typeIs iM (lg _ _) (meetsH_dict_get (tupleKind (vF X.prog X.w)) a b hd) ⟨jD q,k,t,IH I.fx p,c,h _ _ (I.x? _) ?_⟩;rw[l];exact(rel.val k).getD O
def Zp(t:A.units+1<cLine)(I:c3 X pins σ H s)(g:ts H a y o)(j:e8 y u)(i:e8 d r)(h:∀p m,c3 X pins σ H m->e8 (o.getD d) p->Q p m):
  ah (model X.prog X.w) A (call (.builtin "dict.get") [.ref a,u,r]) Q E s:=by
 rcases g with ⟨kvs,k,e,f,l⟩|⟨kvs,k,b,e,f,q,l⟩
 .subst f;obtain⟨z,hd,B,rel,c⟩:=GZ I.fx e;refine hG fG c.typeIs iM (pz _ _ _) (meets_dict_get_default (vF X.prog X.w) a (GY j) hd r) ⟨_,c.mapOf,h _ _ (I.x? _) ?_⟩;rw[l];exact(rel.val k).getD i
 .subst f;cases (show u=Value.ref b from j);obtain⟨z,hd,x,rel,c⟩:=KC I.fx e;refine hG fG c.typeIs iM (pz _ _ _) (meetsH_dict_get_default (tupleKind (vF X.prog X.w)) a b hd r) ⟨jD t,k,x,IH I.fx q,c,h _ _ (I.x? _) ?_⟩;rw[l];exact(rel.val k).getD i
end
def Zq(e ty:TE):TE:=λd H Q=>e d H λx b=>∃a,x=.ref a/\IsD b a/\ty d b λy c=>∃o,ts c a y o/\Q (o.getD .E) c
def Zr(f ty h:TE):TE:=λb H Q=>f b H λx c=>∃a,x=.ref a/\IsD c a/\ty b c λy e=>h b e λz d=>∃o,ts d a y o/\Q (o.getD z) d
section
variable{X:Cx}{o e f:Expr}{apos cpos:Pos}{td ty tx:TE}
def SO(B:X.A.units+1<cLine)(z:PE X o td)(w:PE X e ty)(m:M1 X o "get" apos e cpos):PE X (.Call (.Attribute o "get" apos) [e] [] cpos) (Zq td ty):=by intro b s j H Q I h;refine jF m.b? m.few m.line jG fG lI (f5 (z b s j H _ I h) λu M zz=>?_);obtain⟨x,l,i,F,a,t,d,C⟩:=zz;subst t;obtain rfl:u=Value.ref a:=F;obtain⟨N,P,_⟩:=LU i d;refine⟨N,P,?_⟩;rw[m.O?];refine iw O (iB (eE (f5 (w b M j l _ i C) λR T ⟨y,p,q,G,S,g,E⟩=>fW ?_)));exact SN B q g G λW U r c=>⟨_,p,r,c,E⟩
def SQ(G:X.A.units+1<cLine)(F:PE X o td)(C:PE X e ty)(E:PE X f tx)(m:M2 X o "get" apos e f cpos):PE X (.Call (.Attribute o "get" apos) [e,f] [] cpos) (Zr td ty tx):=by
 intro b s i H Q I h;refine jF m.b? m.few m.line jG fG lI (f5 (F b s i H _ I h) λu T zz=>?_);obtain⟨x,l,j,P,a,B,d,M⟩:=zz;subst B;obtain rfl:u=Value.ref a:=P;obtain⟨W,Y,_⟩:=LU j d;refine⟨W,Y,?_⟩;rw[m.O?];refine iw O (iB (eE (f5 (C b T i l _ j M) λiv U ⟨y,p,r,R,N⟩=>
  eE (f5 (E b U i p _ r N) λfv s3 ⟨z,q,t,S,ov,g,q3⟩=>fW ?_))))
 exact Zp G t g R S λw' s4 w c=>⟨_,q,w,c,q3⟩
end
end L2
namespace Att
open PySem PySem.W PySem.Calls PyProof.Rows
def HW:∀(c:List Int) (d:List ab),WellAll P h d (c.map WData.int)->i6 d c:=by
 intro c
 induction c with
 |nil=>intro d w;rw[fK]at w;cases w;exact .nil
 |cons n c e=>
  intro d w;rw[aI]at w;cases w with
  |cons a b=>cases a;exact .cons _ _ (e _ b)
def Q7{l:ib}(t:l.most=Z n)
  (hpre:l.row.toRowW.claim.pre args=γ) (hwl:WellAll P h vals args):
  ∃a j b,vals=[Value.ref a]/\args=[WData.list (b.map WData.int)]/\h.get? a=Z { cls:=.type "list", data:=.seq j.toArray }/\i6 j b/\b.length<=n:=by
 have hsh:WShape.hasAll [] args [.list .int]=γ:=(pre_splitW hpre).1;have i:l.pre.holds [] { args:=args }=γ:=(pre_splitW hpre).2;obtain⟨d,r,rfl,m,o⟩:=hasAllW_cons hsh;obtain rfl:=hasAllW_nil o;obtain⟨z,rfl,p⟩:=hasW_list m;obtain⟨b,rfl⟩:=items_int p;have c:b.length<=n:=by
  unfold OpenLaw.pre at i;have e:(WTm.not (.lt (.lit (.int (n:Int))) (.len (.arg 0)))).holds [] { args:=[.list (b.map .int)] }=γ:=by have e:=(holds_andW i).1;rw[t]at e;exact e
  have f:=condW_of e (w_not (w_lt w_lit (w_len_list (w_arg O))));rw[ag]at f;refine pU λq=>?_;have w:(n:Int)<((b.length:Nat):Int):=by omega
  first
   |(rw[aU w]at f;exact aq f (by decide))
   |(simp at f;omega)
 cases hwl with
 |cons x y=>
  cases y;cases x with
  |list u hall=>exact⟨_,_,b,O,O,u,HW b _ hall,c⟩
def Q8(l:ib)(args:List WData):l.row.toRowW.claim.post args (.bool γ) args=γ:=
 postW_of (r:=l.row.toRowW) (X:=(γ==γ))
  (show ra [] (.bool γ) .bool=γ by first|rfl|decide|simp[ra,WShape.arms,WShape.armsAll])
  (show (WTm.eq .res (.lit (.bool γ))).value [] { args:=args,res:=Z (.bool γ),after:=args }=Z (.bool (γ==γ)) from w_eq_bool (w_res O) w_lit) O
def Rk{l:ib}{d:DefRec}
  (E:l.most=Z n) (hdf:d.params.defaults=[])
  (call:∀(w:az) (c b:ae) (m u:Str->Option ab) (h:Addr) (o:Obj) (x j doc:ab) (a:Addr) (e:List ab) (p:List Int),
   Ground q loose [] XP w c m u b.heap->YP w b.heap->
   b.heap.get? h=Z o->o.data=.func (docDef d.name d.params d.body d.scope x j doc)->b.heap.CodeRec j d.name->m d.name=Z (.ref h)->
   b.heap.get? a=Z { cls:=.type "list", data:=.seq e.toArray }->i6 e p->p.length<=n->b.gens=#[]->
   cy (model l.prog w) callerA (.call (.ref h) ⟨[.ref a],[]⟩) (λr t=>r=.ok (.ret (.bool γ))/\OldK b.heap t.heap/\t.os=b.os/\eS t.gens) b):
  WalkO q loose XP YP l.row.toRowW d [] (λf e=>mW f e):=by
 intro w c b m u G Y h o x j doc dV kV F hd hcd hD hmg B args vals as hpre hlay hrd hwl hlo;obtain rfl:dV=.none:=Dflts.none hD hdf;obtain rfl:kV=.none:=Dflts.noKw hD;obtain⟨a,e,p,rfl,rfl,hobj,hints,i⟩:=Q7 E hpre hwl;refine enter_call (hE (call w c b m u h o x j doc a e p G Y F (fd_plain hd) hcd hmg hobj hints i B) λr t H=>?_);obtain⟨rfl,y,z,A⟩:=H;exact⟨.inl ⟨.bool γ,.bool γ,[],O,λ_=>O,.bool γ,Q8 l _,λ_=>⟨List.Pairwise.nil,λ_ C=>(nomatch C)⟩⟩,y,z,A⟩
end Att
namespace L2
open PySem PySem.Spec PyProof.Rows
theorem KD:∀{b:List ab} {a:List Int},i6 b a->er (a.map V.int) b
 |_,_,.nil=>.nil
 |_,_,.cons n t h=>.cons ⟨t,O⟩ (KD h)
def Zs(H:Hp):Prop:=∀b,H b=J\/∃o a,H b=Z (.o? o (.bt a))
def SR{K:av}{c:ae}{j:List ab}
  (KX:K.In c.heap) (hns:c.heap.Ns bf A) (f:c.heap.Ns builtinsNs Q) (hbb:∀x:Str,x≠"__name__" -> Q x=dW x) (hlim:c.heap.NoLimit) (hg:c.gens=#[])
  (y:c.heap.get? a=Z { cls:=.type "list", data:=.seq j.toArray }) (M:i6 j B) (N:B.length<=aG) (hr:xB k callerA)
  (F:∀b?:Heap,K.In b?->b?.Ns bf A->zr P w K A b? CX k I W [x] sp) (hbind:∀(s:ae) (u:ab),ic s W ⟨[u],[]⟩ [(x,u)])
  (hsp:∀H:Hp,Zs H->gi K H a (B.map V.int)->sp [.ref a] H (λv _=>v=.I γ) λ_ _ _=>False)
  (hCX:∀H e i,CX [] H c (λ_ _ _=>False) e i->False):
  cy (model P w) callerA (.call (.ref I) ⟨[.ref a],[]⟩) (λr i=>r=.ok (.ret (.bool γ))/\OldK c.heap i.heap/\i.os=c.os/\eS i.gens) c:=by
 have R:=KD M;have lenV:=M.length;have core:∀H:Hp,Zs H->gi K H a (B.map V.int)->rr P w H c.heap->(∀b,H b≠J->b=a)->(H a≠J->K.lookup a=J)->
   cy (model P w) callerA (.call (.ref I) ⟨[.ref a],[]⟩) (λr i=>r=.ok (.ret (.bool γ))/\OldK c.heap i.heap/\i.os=c.os/\eS i.gens) c:=by
  intro H hO hS fx hA hK;have base_of:∀{b:Addr} {o:Obj},c.heap.get? b=Z o->H b=J->(LD c.heap H).get? b=Z o:=λe n=>Si e n;have noA:∀{b:Addr} {o:Obj} {p:Array DictEntry} {l:Nat},c.heap.get? b=Z o->o.data=.dict p l->H b=J:=λ{b o p l} e d=>by
   cases q:H b with
   |none=>rfl
   |some u=>have C:b=a:=hA b (by rw[q];simp);subst C;rw[y]at e;cases e;have S:Data.seq j.toArray _=Data.dict p l:=d;cases S
  have nsK:∀{b:Addr} {m:Str->Option ab},c.heap.Ns b m->(LD c.heap H).Ns b m:=λ{b m} ⟨o,p,l,e,d,r⟩=>⟨o,p,l,base_of e (noA e d),d,r⟩;have hKb:K.In (LD c.heap H):=λb o e=>base_of (KX b o e) (by
   cases q:H b with
   |none=>rfl
   |some u=>
    have C:b=a:=hA b (by rw[q];simp);subst C;rw[hK (by rw[q];simp)]at e;cases e)
  have hM:Mod K A (LD c.heap H):=⟨hKb,nsK hns,⟨Q,nsK f,hbb⟩,let ⟨mc,Y,h2⟩:=hlim;⟨mc,nsK Y,h2⟩⟩;have T:Os P w K A (LD c.heap H) callerA [] c H:=⟨O,hM,λb o e=>VT e,qH (QP _ _),trivial,λb f=>aq (show b∈([]:List Addr) from f) (by simp),fx,.of_eq hg⟩;refine hE ((F _ hKb (nsK hns)).run callerA [] c H ⟨[.ref a],[]⟩ [.ref a] [.ref a] _ _ hr T (hbind c (.ref a)) (.cons O .nil) (hsp H hO hS)) λr i h=>?_;cases r with
  |error e=>exact(hCX H e i h).elim
  |ok X=>
   cases X with
   |next=>exact de h
   |brk=>exact de h
   |cont=>exact de h
   |ret u=>
    obtain⟨v,H',os,mn,un,hok',r',q⟩:=h;have q':v=.I γ:=q;subst q';obtain rfl:u=Value.bool γ:=r';refine⟨O,OldK.of_keep λb o e=>?_,os,mn⟩;cases q:H b with
    |none=>exact un.keep b o e q (by intro z;exact aq (show b∈([]:List Addr) from z) (by simp)) (by simp)
    |some u=>
     rcases hO b with z|⟨ob,xs,z⟩
     .rw[q]at z;cases z
     .have z2:=un.C' b ob _ z;obtain⟨G,_⟩:=fx b _ z;obtain⟨U,_⟩:=hok' b _ z2;rw[e]at G;cases G;exact U
 cases E:K.lookup a with
 |some o=>have e:=KX a o E;rw[y]at e;cases e;refine core (λ_=>J) (λ_=>.inl O) (.inr ⟨_,j.toArray,_,E,O,O,O,by rw[bg,lenV];exact N,by simpa using R⟩) (λb u z=>by have t:(J:Option HO)=Z u:=z;cases t) (λb z=>aq O z) λz=>aq O z
 |none=>
  refine core (λb=>if b=a then Z (.o? { cls:=.type "list", data:=.seq j.toArray } (.bt (B.map V.int)))else J) (λb=>?_) (.inl (.inr ⟨{ cls:=.type "list", data:=.seq j.toArray },aj O⟩)) (λb u z=>?_) (λb z=>?_) λ_=>E
  .by_cases f:b=a
   .exact .inr ⟨_,_,aj f⟩
   .exact .inl (ao f)
  .by_cases f:b=a
   .have t:=(aj f).symm.t z;cases t;subst f;exact⟨y,by rw[ag];exact N,j,_,R,y⟩
   .have t:=(ao f).symm.t z;cases t
  .by_cases f:b=a
   .exact f
   .exact aq (ao f) z
def Wi{l:ib}{n k:Nat}{q:aH}{loose:aE}{XP:(Str->Option ab)->Heap->Prop}{YP:az->Heap->Prop}{d:DefRec}{K:Params->av}{CX:az->CXT}{sp:az->Sp}{x:Str}
  (E:l.most=Z n) (t:n<=aG) (hdf:d.params.defaults=[]) (I:xB k callerA)
  (hY:∀(w:az) (h:Heap),YP w h->(K w.params).In h)
  (F:∀(w:az) (i:Str->Option ab) (m:Addr) (h:Heap),(K w.params).In h->h.Ns bf i->i d.name=Z (.ref m)->
   ∃r:bV,(∀(s:ae) (u:ab),ic s r ⟨[u],[]⟩ [(x,u)])/\
    ∀b?:Heap,(K w.params).In b?->b?.Ns bf i->zr l.prog w (K w.params) i b? (CX w) k m r [x] (sp w))
  (hsp:∀(w:az) (H:Hp) (a:Addr) (p:List Int),p.length<=n->Zs H->gi (K w.params) H a (p.map V.int)->sp w [.ref a] H (λv _=>v=.I γ) λ_ _ _=>False)
  (hCX:∀(w:az) (H:Hp) (s:ae) (e:ab) (y:ae),CX w [] H s (λ_ _ _=>False) e y->False):
  W.WalkO q loose XP YP l.row.toRowW d [] (λf A=>mW f A):=by
 refine Att.Rk E hdf λw z j i P m o Q M doc a A p G Y N hd hcd hmg hobj hints c C=>?_;have KX:=hY w _ Y;obtain⟨r,B,hF⟩:=F w i m _ KX G.T.g hmg;exact SR KX G.T.g G.T.b G.T.builtins G.T.nolimit C hobj hints (bG c t) I hF B (λH hO hS=>hsp w H a p c hO hS) λH e y=>hCX w H j e y
def dr(s:Stmt)(j:Nat):Stmt:=match s with
 |.ClassDef _ _ _ body _ _ _ _ _ _ _=>body.getD j (.Pass ⟨0,0,0,0⟩)
 |_=>.Pass ⟨0,0,0,0⟩
def za(s:Stmt):Arguments:=match s with
 |.FunctionDef _ a _ _ _ _ _ _ _ _=>a
 |_=>{ posonlyargs:=[],args:=[],vararg:=J,kwonlyargs:=[],kw_defaults:=[],kwarg:=J,defaults:=[] }
def vY(s:Stmt):List Stmt:=match s with
 |.FunctionDef _ _ b _ _ _ _ _ _ _=>b
 |_=>[]
def vw(s:Stmt):cK:=match s with
 |.FunctionDef _ _ _ _ _ _ a _ _ _=>a
 |_=>{ kind:=.function,names:=[],isGenerator:=δ,isCoroutine:=δ }
abbrev H?:CXT:=λ_ _ _ _ _ _=>False
abbrev E0:XK:=λ_ _ _=>False
def II:rp H? X E0:=λ_ _ _ _ _ _ _ h=>h.elim
structure χ(K:av)(x qual:Str)(st:Stmt)(f:Addr)(fd:bV):Prop where
 ex:∃(oc:ab) (od:Option Addr) (kV doc pm:ab) (an:Option Addr) (cdv ct:ab) (osl:Array (Option ab)),
  fd=eU x qual (za st) (vY st) (vw st) .none kV doc pm an cdv ct/\K.lookup f=Z ⟨oc,od,.func fd,osl⟩/\ia K cdv qual=γ
 kp:dZ K (.ref f)=γ
section
variable{P:aH}{w:az}{K:av}{mg:Str->Option ab}{b?:Heap}
theorem χ.ok{x qual:Str}{st:Stmt}{f:Addr}{c:bV}{N ps:aE}{k:Nat}{b:Sp}(F:χ K x qual st f c)(S:xK N ps (vw st))(len:∀a H Q E,b a H Q E->a.length=ps.length)
  (hbody:∀(cdv:ab) (A:aJ) (da:List Env) (s:ae) (H:Hp) (a:bL) (Q:VK) (E:XK),xB k (A.deeper (envOfC qual (vw st) s.heap.objs.size f cdv))->b a H Q E->
   ∃t,qi (MR H? P w K mg b? N qual (vw st) f cdv A da s H E).nox (vY st) t/\t { nx:=λ_ d=>Q .E d,rt:=Q } (start N a) H):zr P w K mg b? H? (k+1) f c ps b:=by
 obtain⟨m,o,kV,doc,p,j,cdv,l,osl,rfl,i,hcd⟩:=F.ex;refine Yc i hcd S len λA da s H a Q E e hsp=>?_;obtain⟨t,h,q⟩:=hbody cdv A da s H a Q E e hsp;exact⟨t,h.nox,q⟩
theorem χ.tp{x qual:Str}{st:Stmt}{f:Addr}{i:bV}{d:aE}(F:χ K x qual st f i)
  (h:∀(kV doc c:ab) (a:Option Addr) (cdv b:ab) (e:List ab),e.length=d.length->bindArgs (eU x qual (za st) (vY st) (vw st) .none kV doc c a cdv b) ⟨e,[]⟩=pure (d.zip e)):m1 K i d []:=by
 obtain⟨l,m,kV,doc,c,a,cdv,b,osl,rfl,j,hcd⟩:=F.ex;exact .all (h kV doc c a cdv b)
end
def MZ(a:xB k A):A.units+1<cLine:=jE (Nat.add_le_add_left (by decide:1<=64) _) a.units
def DW(h:n<=1000):n<aG:=jE h (by decide)
section
variable{X:Cx}
def pv(i:Nat)(hN:X.N[i]?=Z x:=by rfl)(a:Vis X.b1.scope x:=by first|exact Or.inl O|exact Or.inr (Or.inl O)|exact Or.inr (Or.inr O))(hd:(x==("__debug__" : Str))=δ:=by decide)
  (hcd:(x==("__classdict__" : Str))=δ:=by decide):PE X (.Name x pos) (BY i):=YN hN a hd hcd
end
def LV{A B:Prop}(h:B):if δ=γ then A else B:=by rw[ao bu];exact h
def LW{A B:Prop}(h:A):if γ=γ then A else B:=by rw[aj O];exact h
def vm(H a:Hp):Prop:=∀b o,H b=Z o->a b=Z o
def vm.refl(H:Hp):vm H H:=λ_ _ h=>h
def vm.t(a:vm H d)(b:vm d e):vm H e:=λc o h=>b c o (a c o h)
def vm.seq{K:av}{H b:Hp}{a:Addr}{xs:bL}(e:vm H b)(h:gi K H a xs):gi K b a xs:=by
 rcases h with (h|⟨o,h⟩)|h
 .exact .inl (.inl (e _ _ h))
 .exact .inl (.inr ⟨o,e _ _ h⟩)
 .exact .inr h
end L2
set_option maxHeartbeats 4000000
namespace L3
open PySem PySem.Spec PyProof.Rows L2
abbrev St:=L2.St
theorem IJ{d a:Type}{f:d->a->Sem (ForInStep a)}{g:a->d->a}:∀(l:List d) (b:a),(∀x∈l,∀c,f x c=pure (ForInStep.yield (g c x)))->(forIn l b f:Sem a)=pure (l.foldl g b)
 |[],b,_=>by simp
 |x::r,b,h=>by rw[List.forIn_cons,h x aX b];show (forIn r (g b x) f:Sem a)=_;rw[IJ r (g b x) λy e c=>h y (ba _ e) c];rfl
def CL(cells:List (Str×Addr))(cs:List (Str×Addr))(x:Str×d8):List (Str×Addr):=if (x.2==NameKind.free)=γ then (x.1,(cells.lookup x.1).getD 0)::cs else cs
def zX(cells:List (Str×Addr))(names:List (Str×d8)):List (Str×Addr):=names.foldl (CL cells) []
def J8{scope:cK}{b1:Env}(h:∀x∈scope.names,x.2=.free->∃c,b1.cells.lookup x.1=Z c):
  closureFor scope b1=pure (zX b1.cells scope.names):=by
 simp only[closureFor];rw[IJ (g:=CL b1.cells) scope.names [] λx i c=>by
  obtain⟨n,k⟩:=x;by_cases b:k=.free
  .subst b;obtain⟨a,e⟩:=h _ i O;have d:b1.cells.lookup n=Z a:=e;simp only[CL,cellOf,d,beq_self_eq_true,if_true,pV];rfl
  .have f:(k==NameKind.free)=δ:=by simpa using b
   simp only[CL,f,eG,if_false]]
 rfl
theorem M0{cells:List (Str×Addr)}:∀(names:List (Str×d8)) (acc:List (Str×Addr)),(∀x∈names,x.2=.free->∃c,cells.lookup x.1=Z c)->(∀x c,acc.lookup x=Z c->cells.lookup x=Z c)->
  ∀x c,(names.foldl (CL cells) acc).lookup x=Z c->cells.lookup x=Z c
 |[],acc,_,j,x,c,e=>j x c e
 |y::r,acc,h,j,x,c,e=>by
  refine M0 r (CL cells acc y) (λz p=>h z (ba _ p)) (λz d b=>?_) x c e;obtain⟨n,k⟩:=y;unfold CL at b;split at b
  .rename_i o;obtain⟨a,m⟩:=h (n,k) aX (by simpa using o);have f:cells.lookup n=Z a:=m;rw[fD]at b;cases l:z==n with
   |true=>rw[l]at b;have i:Z ((cells.lookup n).getD 0)=Z d:=b;rw[f]at i;rw[gr l,f];exact i
   |false=>rw[l]at b;exact j z d b
  .exact j z d b
theorem KE:∀(names:List (Str×d8)) (acc:List (Str×Addr)) (x:Str),(∃c,acc.lookup x=Z c)->∃c,(names.foldl (CL cells) acc).lookup x=Z c
 |[],_,_,h=>h
 |y::r,acc,x,h=>by
  refine KE r (CL cells acc y) x ?_;unfold CL;split
  .rw[fD];cases x==y.1 with
   |true=>exact⟨_,O⟩
   |false=>exact h
  .exact h
theorem IK:∀(names:List (Str×d8)) (acc:List (Str×Addr)) (x:Str),(x,NameKind.free)∈names->∃c,(names.foldl (CL cells) acc).lookup x=Z c
 |[],_,_,h=>by cases h
 |y::r,acc,x,h=>by
  rcases aO.1 h with e|h
  .subst e;refine KE r _ x ?_;unfold CL;rw[aj (by simp),fD];simp
  .exact IK r _ x h
theorem B2{b1:Env}(x:Str):∀(names:List (Str×d8)),
  (names.map λ(n,k)=>if (k==NameKind.free&&b1.scope.kind==.function&&b1.kindOf n==Z .cell)then (n,NameKind.cell)else (n,k)).lookup x=
   (names.lookup x).map λk=>if (k==NameKind.free&&b1.scope.kind==.function&&b1.kindOf x==Z .cell)=γ then NameKind.cell else k
 |[]=>rfl
 |(n,k)::r=>by
  have c:=B2 (b1:=b1) x r;rw[aI,fD (k:=n)];show dE x ((if (k==NameKind.free&&b1.scope.kind==.function&&b1.kindOf n==Z .cell)=γ then (n,NameKind.cell)else (n,k))::_)=_;cases a:x==n with
  |true=>
   have e:=gr a;subst e;split
   .rename_i b;simp only[fD,a,fZ,b,if_true]
   .rename_i b;simp only[fD,a,fZ];rw[ao b]
  |false=>
   rw[<-c];split
   .simp only[fD,a]
   .simp only[fD,a]
def Ox{scope:cK}(hcell:∀y∈scope.names,y.2≠.cell)(h:(relabel scope b1).names.lookup x=Z .cell\/(relabel scope b1).names.lookup x=Z .free):(x,NameKind.free)∈scope.names:=by
 have e:=B2 (b1:=b1) x scope.names;have a:(scope.names.lookup x).map (λk=>if (k==NameKind.free&&b1.scope.kind==.function&&b1.kindOf x==Z .cell)=γ then NameKind.cell else k)=Z .cell\/
   (scope.names.lookup x).map (λk=>if (k==NameKind.free&&b1.scope.kind==.function&&b1.kindOf x==Z .cell)=γ then NameKind.cell else k)=Z .free:=by
  rw[<-e];exact h
 cases q:scope.names.lookup x with
 |none=>rw[q]at a;rcases a with z|z<;>cases z
 |some k=>
  rw[q]at a;have b:=mem_of_lookup q;have c:=hcell _ b;cases k with
  |free=>exact b
  |cell=>exact aq O c
  |_=>rcases a with z|z<;>cases z
def J9{scope:cK}(h:scope.names.lookup x=Z .free):(relabel scope b1).names.lookup x=Z .cell\/(relabel scope b1).names.lookup x=Z .free:=by
 have e:=B2 (b1:=b1) x scope.names;have a:(relabel scope b1).names.lookup x=(scope.names.lookup x).map λk=>if (k==NameKind.free&&b1.scope.kind==.function&&b1.kindOf x==Z .cell)=γ then NameKind.cell else k:=e
 rw[a,h,fZ];split
 .exact .inl O
 .exact .inr O
def xa(X:Cx)(a:aE)(scope:cK)(cl:List (Str×Addr))(C:Addr)(fp:List Addr)(s:ae)(H:Hp):Cx:=
 { X with N:=a,s₀:=s,H₀:=H,b1:=compEnvC scope cl C X.b1,da:=X.kb,ex:=fp,fn:=λ_=>δ,pn:=[],xe:=λ_ _=>False }
def PIf(X:Cx)(ifs:List Expr)(t:TT):Prop:=
 ∀(a:cD) (s:ae) (b:St) (H:Hp) (Q:Bool->Hp->Prop),c3 X a b H s->t b H Q->
  ah (model X.prog X.w) X.A (forIn ifs γ λc r=>if r=γ then do let ok<-isTrue c X.b1 (eval c X.b1);pure (ForInStep.yield ok)else pure (ForInStep.yield r)) (TP X a b Q) X.xe s
def tIf0:TT:=λ_ H Q=>Q γ H
def Wj:PIf X [] tIf0:=λ_ _ _ H _ I h=>wpAny_tests_nil ⟨H,I,h⟩
def Wk(h:PT X c t):PIf X [c] t:=λa s d H Q I b=>wpAny_tests_one (h a s d H Q I b)
section
variable{prog:aH}{w:az}{A:aJ}{R:gv->ae->Prop}{s:ae}
def LX(t:Nat->ae->Prop)
  (turn:∀n s,t n s->ah (model prog w) A (pyNext B) (λr b=>match r with
   |none=>R (.ok .next) b
   |some v=>ah (model prog w) A (gV target B v) (λ_ d=>ah (model prog w) A (assign target b1 v) (λ_ l=>
     ah (model prog w) A (forIn ifs γ λc r=>if r=γ then do let ok<-isTrue c b1 (eval c b1);pure (ForInStep.yield ok)else pure (ForInStep.yield r)) (λok f=>
      if ok=γ then ah (model prog w) A (eval elt b1) (λx o=>
       ah (model prog w) A (call (.builtin "list.append") [acc,x]) (λ_ p=>∃m,m<n/\t m p) (notedBy (model prog w) A b1 λe s'=>R (.error e) s') o) (notedBy (model prog w) A b1 λe s'=>R (.error e) s') f
      else ∃m,m<n/\t m f) (notedBy (model prog w) A b1 λe s'=>R (.error e) s') l) (notedBy (model prog w) A b1 λe s'=>R (.error e) s') d)
      (notedBy (model prog w) A b1 λe s'=>R (.error e) s') b) (notedBy (model prog w) A b1 λe s'=>R (.error e) s') s)
  (n:Nat) (h:t n s):
  cy (model prog w) A (.compLoop (.ListComp elt [⟨target,iter,ifs,0⟩] scope pos) 0 B acc b1) R s:=by
 refine codeAny_loop O t (λn s hI=>?_) n h;show ah _ A ((compTurn (.ListComp elt [⟨target,iter,ifs,0⟩] scope pos) 0 B acc b1).onRaise (λx=>do noteFrame x b1;theTreesLotGoes x)) _ _ s;refine wpAny_noted ?_;rw[compTurn_list];refine af (jO (af (b8 (turn n s hI) (λr b i=>?_) λ_ _ a=>a)));cases r with
 |none=>exact ar i
 |some v=>
  refine af (b8 i (λ_ d q=>?_) λ_ _ a=>a);refine af (b8 q (λ_ l u=>af (b8 u (λok f j=>?_) λ_ _ a=>a)) λ_ _ a=>a);cases ok with
  |false=>exact ar ⟨O,j⟩
  |true=>exact af (af (b8 j (λx o y=>af (b8 y (λ_ p z=>ar (ar ⟨O,z⟩)) λ_ _ a=>a)) λ_ _ a=>a))
end
def zb(k:Nat)(e?:List Nat)(a:St):St:=bU k J++e?.map λj=>(a[j]?).join
def KF(h:(zb k e? b)[i]?=Z (Z v)):k<=i:=by
 by_cases a:k<=i
 .exact a
 .unfold zb at h;rw[fS (by rw[cZ];omega),js]at h;split at h<;>cases h
def Q9{k:Nat}{e?:List Nat}{b:St}{N a:aE}{i:Nat}{v:V}{x:Str}(hcap:(a.drop k).map Z=e?.map λj=>N[j]?)(f:a[i]?=Z x)(h:(zb k e? b)[i]?=Z (Z v)):
  ∃j:Nat,N[j]?=Z x/\b[j]?=Z (Z v)/\x∈a.drop k:=by
 have d:=KF h;unfold zb at h;rw[fR (by rw[cZ];exact d),cZ,bB]at h;have hd:(a.drop k)[i - k]?=Z x:=by rw[fj,show k+(i - k)=i by omega];exact f
 have e:=bH (λl=>l[i - k]?) hcap;simp only[bB,hd,fZ]at e;cases q:e?[i - k]? with
 |none=>rw[q]at h;cases h
 |some j=>
  rw[q]at h e;simp only[fZ,uD]at h e;refine⟨j,e.symm,?_,cj hd⟩;cases z:b[j]? with
  |none=>rw[z]at h;cases h
  |some o=>rw[z]at h;have c:o=Z v:=h;rw[c]
def G0(u:TI)(g:TG)(t:TT)(r:TE)(k:Nat)(e?:List Nat):TE:=λf H Q=>u f H λe h=>∀p,h p=J->
 ∃W:Nat->Nat->bL->Hp->Prop,(∃m,W 0 m [] (fl h p (.bt [])))/\∀i m acc c,W i m acc c->
  (e.Q' i c/\Q (.ref p) c)\/
   (e.go i c/\∀x j,e.yld i c x j->g x (zb k e? f) j λa q=>a.drop k=(zb k e? f).drop k/\t a q λb l=>
    if b=γ then r a l λy o=>∃acc',o p=Z (.bt acc')/\acc'.length<aG/\∃d,d<m/\W (i+1) d (acc'++[y]) (fl o p (.bt (acc'++[y])))
    else ∃d,d<m/\W (i+1) d acc l)
def KG{X:Cx}{e?:List Nat}
  (hc:X.n6=γ) (hi:PI X tg iter wi)
  (body:∀(cl:List (Str×Addr)) (C:Addr) (fp:List Addr) (s:ae) (H:Hp),PG (xa X E scope cl C fp s H) tg g/\PIf (xa X E scope cl C fp s H) ifs tt/\PE (xa X E scope cl C fp s H) elt te)
  (hkind:scope.kind=.function) (hcell:(scope.names.all λy=>y.2 != .cell)=γ)
  (hloc:(scope.names.all λy=>y.2 != .local||scope.names.lookup y.1==Z .local)=γ)
  (hfree:(scope.names.all λy=>y.2 != .free||(X.b1.kindOf y.1==Z .cell||X.b1.kindOf y.1==Z .free))=γ)
  (hlen:E.length=k+e?.length) (hcap:(E.drop k).map Z=e?.map λj=>X.N[j]?)
  (hcf:((E.drop k).all λx=>scope.names.lookup x==Z .free)=γ)
  (hs:∀x,iH iter X.b1 x=pure x)
  (I:c3 X pins σ H s) (h:G0 wi g tt te k e? σ H Q)
  (fin:∀a C m u s4 H3,s4.heap.Ns C m->c3 X pins σ H3 s4->LH X pins H3 C->Q (.ref a) H3->compPost (model X.prog X.w) X.A X.xe use P (.ref a) C (.ok u) s4):
  ah (model X.prog X.w) X.A (comprehension (.ListComp elt [⟨tg,iter,ifs,0⟩] scope pos) scope X.b1 (firstIterPos [⟨tg,iter,ifs,0⟩] pos) (newList []) δ (eval iter X.b1) use) P X.xe s:=by
 have hcell':∀y∈scope.names,y.2≠.cell:=λy M e=>by have z:=aQ.1 hcell y M;rw[e]at z;exact aq z (by decide)
 have hloc':∀y∈scope.names,y.2=.local->scope.names.lookup y.1=Z .local:=λy M e=>by have z:=aQ.1 hloc y M;rw[e]at z;simpa using z
 have hfree':∀y∈scope.names,y.2=.free->X.b1.kindOf y.1=Z .cell\/X.b1.kindOf y.1=Z .free:=λy M e=>by have z:=aQ.1 hfree y M;rw[e]at z;simpa using z
 have hcl:∀y∈scope.names,y.2=.free->∃c,X.b1.cells.lookup y.1=Z c:=λy M e=>I.ok.has y.1 (hfree' y M e);refine wpAny_comprehension_free O hs (J8 hcl) hkind hloc' (f5 (hi pins s σ H _ I h) λxv s₁ B=>f5 B λit l h₂=>?_);obtain⟨ita,fp,tn,At,H2,e,I2,T,st2,G,R2⟩:=h₂;subst e;obtain⟨W,⟨m0,w0⟩,turn⟩:=R2 l.heap.objs.size (I2.fx.fresh (aN _));refine dO (wpAny_newFunctionEnv hcell' (by intro y M;simp at M) (λB hns₁ hsb₁=>?_) hkind);dsimp only at hns₁ hsb₁ ⊢;generalize hp:l.heap.push { cls:=.type "list", dict:=J,data:=.seq ([]:List ab).toArray }=hpL at hns₁ hsb₁ ⊢;have hsz:hpL.objs.size=l.heap.objs.size+1:=by rw[<-hp,dc]
 have t:c3 X pins σ (fl H2 l.heap.objs.size (.bt [])) { l with heap:=hpL }:=by rw[<-hp];exact I2.laid (t':=l.toks) (λb u e=>aK _ e) (aN _) ⟨cp _,[],0,.nil,bx _ O⟩
 have old:∀b o,hpL.get? b=Z o->B.get? b=Z o:=λb o e=>hsb₁.extBut b o (bb (aR e)) (aK _ e);have older:∀b o,l.heap.get? b=Z o->hpL.get? b=Z o:=λb o e=>by rw[<-hp];exact aK _ e
 have hfpS:∀b∈fp,b<l.heap.objs.size:=λb hb=>let ⟨o,e,_⟩:=T.obj _ _ st2 b hb;aR e;have sub:∀x c,(zX X.b1.cells scope.names).lookup x=Z c->X.b1.cells.lookup x=Z c:=M0 scope.names [] hcl (λx c e=>by cases e);have R:(xa X E scope (zX X.b1.cells scope.names) hpL.objs.size fp { l with heap:=hpL } (fl H2 l.heap.objs.size (.bt []))).Ok:={
  G?:=t.ok.G?
  kind:=hkind
  Dw:=t.ok.Dw
  blt:=t.ok.blt
  above:=aN _
  inj:=λx y c h1 h2=>t.ok.inj x y c (sub x c h1) (sub y c h2)
  has:=λx F=>IK scope.names [] x (Ox hcell' F)
  cab:=λx c hf _=>aq (show δ=γ from hf) bu
  hd:=t.ok.hd
  frames:=t.ok.frames
  stk:=.inl O
  exf:=λb hb=>⟨(by
   show b≠hpL.objs.size;rw[hsz];exact bb (eI (hfpS b hb))),λx c e=>(G b hb).2.2.2.2.1 x c (sub x c e)⟩
  bs:=t.bs
  bsz:=bG t.ok.bsz t.sz
  η:=λb o e hb=>by
   rcases(G b hb).2.2.2.1 with z|z
   .exact t.ok.η b o e z
   .exact aq (cv (aR e) (bG t.ok.bsz z)) (eK _)
  ξ:=λb hb z=>(aO.1 (t.V? b z)).elim (G b hb).2.1 (G b hb).2.2.1
  u7:=t.kb
  frf:=t.ZY }
 have IX:c3 (xa X E scope (zX X.b1.cells scope.names) hpL.objs.size fp { l with heap:=hpL } (fl H2 l.heap.objs.size (.bt []))) [] (zb k e? σ) (fl H2 l.heap.objs.size (.bt []))
   { l with heap:=B,toks:=l.toks+([]:List (Str×ab)).length }:={
  ok:=R
  os:=rfl
  mn:=t.mn
  b?:=Un.g? old
  L':=⟨_,hns₁,λi x v e1 e2 _=>by
   obtain⟨j,hj,hσ,hm⟩:=Q9 hcap e1 e2;have F:scope.names.lookup x=Z .free:=by simpa using aQ.1 hcf x hm
   have hk:=hfree' (x,.free) (mem_of_lookup F) O;obtain⟨m,hn,hl⟩:=t.L';obtain⟨u,r,lk⟩:=hl j x v hj hσ (hk.elim (λz=>.inr (.inl z)) λz=>.inr (.inr z));refine⟨u,r,.inr ⟨J9 F,?_⟩⟩;rcases lk with ⟨z,_⟩|⟨_,c,e,o,ho,hd⟩
   .rcases hk with y|y
    .rw[y]at z;cases z
    .rw[y]at z;cases z
   .obtain⟨c',e'⟩:=IK (cells:=X.b1.cells) scope.names [] x (mem_of_lookup F);have ec:=sub x c' e';rw[e]at ec;have ec':c=c':=cI ec;subst ec';exact⟨c,e',o,old _ _ ho,hd⟩⟩
  cell:=λx c e=>by obtain⟨v,o,ho,hd⟩:=t.cell x c (sub x c e);exact⟨v,o,old _ _ ho,hd⟩
  free:=t.fx.fresh (aN _)
  nq:=λx c e=>t.nq x c (sub x c e)
  M':=λp hp=>aq (show p∈([]:cD) from hp) (by simp)
  fx:=t.fx.g? old
  len:=by
   show (zb k e? σ).length=E.length;rw[hlen];unfold zb;rw[aC,cZ,ag] }
 have stat:∀{H':Hp},(∀b∈fp,H' b=J)->∀b∈fp,LH (xa X E scope (zX X.b1.cells scope.names) hpL.objs.size fp { l with heap:=hpL } (fl H2 l.heap.objs.size (.bt []))) [] H' b:=λhn b hb=>⟨hn b hb,(R.exf b hb).1,R.ξ b hb,.inl hb,(R.exf b hb).2,λp hp=>aq (show p∈([]:cD) from hp) (by simp)⟩
 have st4:tn 0 B:=T.keep _ _ _ st2 λb _ o e=>old b o (older b o e);have loop:cy (model X.prog X.w) X.A (.compLoop (.ListComp elt [⟨tg,iter,ifs,0⟩] scope pos) 0 (.ref ita) (.ref l.heap.objs.size) (compEnvC scope (zX X.b1.cells scope.names) hpL.objs.size X.b1))
   (compPost (model X.prog X.w) X.A X.xe use P (.ref l.heap.objs.size) hpL.objs.size) { l with heap:=B,toks:=l.toks+([]:List (Str×ab)).length }:=by
  refine LX (λn s'=>∃i acc H',c3 (xa X E scope (zX X.b1.cells scope.names) hpL.objs.size fp { l with heap:=hpL } (fl H2 l.heap.objs.size (.bt []))) [] (zb k e? σ) H' s'/\tn i s'.heap/\(∀b∈fp,H' b=J)/\W i n acc H')
   ?_ m0 ⟨0,[],_,IX,st4,λb hb=>?_,w0⟩
  .rintro n s3 ⟨i,acc,H3,I4,st3,fr3,w3⟩;rcases turn i n acc H3 w3 with ⟨Q',qn⟩|⟨go,step⟩
   .refine f5 (T.done (xa X E scope (zX X.b1.cells scope.names) hpL.objs.size fp { l with heap:=hpL } (fl H2 l.heap.objs.size (.bt []))) O O O hc i [] s3 _ H3 _ I4 (stat fr3) st3 Q') λr s4 zz=>?_;obtain⟨hr,Y⟩:=zz;subst hr;obtain⟨m,hn,_⟩:=id Y.L';have U:=Y.b?;refine fin _ _ m _ _ _ hn (t.call' (s':=s4) (ch:=fp) Y.os ⟨λb o e n hb F=>U.keep b o e n hb F,λb o e n hb F=>U.slot b o e n hb F,U.free,λb o e F=>U.there b o e F,U.zE,U.C',U.I1⟩ Y.fx Y.mn
     λb hb=>⟨(G b hb).2.2.2.1,(G b hb).2.1,(G b hb).2.2.2.2.1,(G b hb).2.2.2.2.2⟩) (t.ζ (aN _) Y.free) qn
   .refine f5 (T.item (xa X E scope (zX X.b1.cells scope.names) hpL.objs.size fp { l with heap:=hpL } (fl H2 l.heap.objs.size (.bt []))) O O O hc i [] s3 _ H3 _ I4 (stat fr3) st3 go) λr s4 zz=>?_;obtain⟨u,hr,h4⟩:=zz;subst hr;refine f5 h4 λ_ s5 zz=>?_;obtain⟨x,H5,Y,r5,y5,st5,fr5⟩:=zz;have I5':=Y.T' (stat fr5) (T.obj _ _ st5);have again:∀{H8:Hp} {s8:ae} {S:St} {acc8:bL} {m':Nat},c3 (xa X E scope (zX X.b1.cells scope.names) hpL.objs.size fp { l with heap:=hpL } (fl H2 l.heap.objs.size (.bt []))) ([]++IB fp s5.heap) S H8 s8->S.drop k=(zb k e? σ).drop k->m'<n->W (i+1) m' acc8 H8->
      ∃m,m<n/\∃i acc H',c3 (xa X E scope (zX X.b1.cells scope.names) hpL.objs.size fp { l with heap:=hpL } (fl H2 l.heap.objs.size (.bt []))) [] (zb k e? σ) H' s8/\tn i s8.heap/\(∀b∈fp,H' b=J)/\W i m acc H':=λ{H8 s8 S acc8 m'} I8 hd8 hm8 w8=>by
     refine⟨m',hm8,i+1,acc8,H8,I8.p5.en (IX.len.t I8.len.symm) (λj v e=>?_),T.keep _ _ _ st5 λb hb o e=>(I8.M' (b,o) (bA _ (bA _ (As hb e)))).1,λb hb=>?_,w8⟩
     .have hj:=KF e;have q:(S.drop k)[j - k]?=((zb k e? σ).drop k)[j - k]?:=by rw[hd8]
      rw[fj,fj,show k+(j - k)=j by omega]at q;rw[q];exact e
     .obtain⟨o,e,d⟩:=T.obj _ _ st5 b hb;exact(I8.M' (b,o) (bA _ (bA _ (As hb e)))).2.1
    refine b8 ((body _ _ _ _ _).1 _ s5 _ H5 x u _ I5' r5 (step x H5 y5)) (λ_ s6 h6=>?_) λ_ _ f=>f.elim;obtain⟨σ6,H6,I6,hd6,q6⟩:=h6;refine b8 ((body _ _ _ _ _).2.1 _ s6 σ6 H6 _ I6 q6) (λb s7 h7=>?_) λ_ _ f=>f.elim;obtain⟨H7,I7,q7⟩:=h7;cases b with
    |false=>rw[ao bu]at q7;rw[ao bu];obtain⟨m',hm',w7⟩:=q7;exact again I7 hd6 hm' w7
    |true=>rw[aj O]at q7;rw[aj O];refine b8 ((body _ _ _ _ _).2.2 _ s7 σ6 H7 _ I7 q7) (λyv s8 h8=>?_) λ_ _ f=>f.elim;obtain⟨y,H8,I8,r8,acc',hp8,hl8,m',hm',w8⟩:=h8;refine b8 (Ge (X:=xa X E scope (zX X.b1.cells scope.names) hpL.objs.size fp { l with heap:=hpL } (fl H2 l.heap.objs.size (.bt []))) _ s8 σ6 H8 (.ref l.heap.objs.size) [y] (.ref l.heap.objs.size) [yv] (λ_ Hx=>Hx=fl H8 l.heap.objs.size (.bt (acc'++[y]))) I8 O (.cons r8 .nil) ⟨_,acc',y,O,O,hp8,hl8,O⟩) (λ_ s9 h9=>?_) λ_ _ f=>f.elim;obtain⟨_,H9,I9,_,e9⟩:=h9;subst e9;exact again I9 hd6 hm' w8
  .have z:b≠l.heap.objs.size:=bb (hfpS b hb);rw[vt z];exact(G b hb).1
 exact codeAny_compStart_list loop (T.self _ 0 _ _ _ st4 loop)
def Wl{X:Cx}{e?:List Nat}
  (t:X.n6=γ) (w:PI X p iter M)
  (body:∀(d:List (Str×Addr)) (C:Addr) (f:List Addr) (s:ae) (H:Hp),PG (xa X N' scope d C f s H) p g/\PIf (xa X N' scope d C f s H) ifs G/\PE (xa X N' scope d C f s H) elt F)
  (hkind:scope.kind=.function:=by rfl) (hcell:(scope.names.all λy=>y.2 != .cell)=γ:=by rfl)
  (hloc:(scope.names.all λy=>y.2 != .local||scope.names.lookup y.1==Z .local)=γ:=by rfl)
  (hfree:(scope.names.all λy=>y.2 != .free||(X.b1.kindOf y.1==Z .cell||X.b1.kindOf y.1==Z .free))=γ:=by rfl)
  (c:N'.length=k+e?.length:=by rfl) (hcap:(N'.drop k).map Z=e?.map λj=>X.N[j]?:=by rfl)
  (hcf:((N'.drop k).all λx=>scope.names.lookup x==Z .free)=γ:=by rfl)
  (A:∀x,iH iter X.b1 x=pure x:=by intro _;rfl):
  PE X (.ListComp elt [⟨p,iter,ifs,0⟩] scope pos) (G0 M g G F k e?):=by
 intro l s S H Q I h;exact KG t w body hkind hcell hloc hfree c hcap hcf A I h λa C m u E q z J' fpC B=>⟨m,z,λP i=>⟨.ref a,q,J'.lb (t':=E.toks) (λb o r e=>(i.2 b r).t e) fpC.1 fpC.2.1 fpC.2.2.2.1 fpC.2.2.2.2.1 fpC.2.2.2.2.2,O,B⟩⟩
def Its(x:Str):It:=⟨λi _=>i<x.cps.size,λi H v a=>a=H/\∃c,x.cps[i]?=Z c/\v=.str ⟨#[c]⟩,λi _=>i=x.cps.size⟩
def Zt(hQ:Q () s):ah M A (gV a (.ref b) (.str c t)) Q E s:=by unfold gV;cases a<;>exact ar hQ
def M3{K:av}(it:Addr)(ty:String)(x:Str)(t:Tok)
  (hW:∀A:aJ,A.handled=J->Walks P w A it [it] [it] x.cps.size (SignAt x) (λi h=>h.IsStrIter it ty x t i))
  (hS:∀(A:aJ) (i:Nat) (s:ae) (Q:ab->ae->Prop) (E:ab->ae->Prop),s.heap.IsStrIter it ty x t i->Q (.ref it) s->ah (model P w) A (pyIter (.ref it)) Q E s):
  π P w K tg (Its x) [it] it (λi h=>h.IsStrIter it ty x t i) where
 mem:=by simp
 obj:=λi h st b hb=>by
  have e:b=it:=by simpa using hb
  subst e;obtain⟨o,e,c,d⟩:=st;exact⟨o,e,λv z=>by rw[d]at z;cases z⟩
 keep:=λi h h' st k=>by obtain⟨o,e,r⟩:=st;exact⟨o,k it (by simp) o e,r⟩
 item:=by intro X hP hw hK p i pins s σ H E I hf st hg;subst hP hw hK;obtain⟨a,f,F,j,l,m⟩:=hf it (by simp);refine(hW _ (I.ok.hd p)).item i s _ _ hg st λv h' tk G B y=>?_;obtain⟨c,M,q,rfl⟩:=G;have C:c3 X pins σ H { s with heap:=h',toks:=tk }:=I.lb (λb o hb e=>y b o (by simpa using hb) e) a f j l m;exact⟨_,O,Zt ⟨.str ⟨#[c]⟩,H,C,⟨M,O⟩,⟨O,c,q,O⟩,B,λb hb=>(hf b hb).1⟩⟩
 done:=by intro X hP hw hK p i pins s σ H E I hf st hg;subst hP hw hK;obtain⟨a,f,F,j,l,m⟩:=hf it (by simp);have u:i=x.cps.size:=hg;subst u;exact(hW _ (I.ok.hd p)).done s _ _ st λh' tk y=>⟨O,I.lb (λb o hb e=>y b o (by simpa using hb) e) a f j l m⟩
 self:=hS
section
variable{X:Cx}{tg:Expr}
def iStr(b:TE):TI:=λc H R=>b c H λv a=>∃x,v=.str x/\R (Its x) a
def Zu(r:PE X l B):PI X tg l (iStr B):=by
 intro a s C H R I h;refine f5 (r a s C H _ I h) λv c zz=>?_;obtain⟨x,f,d,w,u⟩:=zz;obtain⟨z,e,q⟩:=u;subst e;obtain⟨t,rfl⟩:=w;have j:∀b∈[c.heap.objs.size],LH X a f b:=λb p=>by
  have e:b=c.heap.objs.size:=by simpa using p
  subst e;exact d.ζ (aN _) (d.fx.fresh (aN _))
 cases m:z.cps.all (· < 128)
 .refine wpAny_pyIter_wide m ⟨c.heap.objs.size,[c.heap.objs.size],_,_,f,O,d.g? (t':=c.toks) λb o e=>aK _ e,M3 _ "str_iterator" z t (λA hA=>Walks.strWide hA _ z t) (λA i s Q E st hQ=>wpAny_pyIter_striter_wide st hQ),⟨_,bx _ O,O,O⟩,j,q⟩
 .refine wpAny_pyIter_ascii m ⟨c.heap.objs.size,[c.heap.objs.size],_,_,f,O,d.g? (t':=c.toks) λb o e=>aK _ e,M3 _ "str_ascii_iterator" z t (λA hA=>Walks.strAscii hA _ z t) (λA i s Q E st hQ=>wpAny_pyIter_striter_ascii st hQ),⟨_,bx _ O,O,O⟩,j,q⟩
end
section
variable{X:Cx}
def Rb:j? X (bw .LtE) (λx y H Q=>∃i j,x=.str i/\y=.str j/\Q (.I (!decide (j.cps.toList<i.cps.toList))) H):=by intro a s e H x y v u Q I b c h;obtain⟨i,j,rfl,rfl,q⟩:=h;obtain⟨t,rfl⟩:=b;obtain⟨d,rfl⟩:=c;exact PySem.P.le_str (vS I q O)
def SU(y:X.n6=γ):wR X (.builtin "all") (λx H Q=>∃(p:Addr) (bs:List Bool),x=[.ref p]/\gi X.K H p (bs.map V.I)/\Q (.I (bs.all id)) H):=by
 intro t s W H x U Q I r h;obtain⟨p,bs,rfl,E,q⟩:=h;obtain⟨u,rfl,l⟩:=mq r;cases l;obtain⟨a,w,pl,R⟩:=I.list E;have hlt:p<s.heap.objs.size:=by obtain⟨o,C,_⟩:=pl.isList;exact aR C
 have B:bs.length=a.length:=by have:=w.length;rw[ag]at this;exact this
 refine call_all_walk (fV pl.isList ⟨s.heap.objs.size,_,_,_,_,_,λi=>(bs[i]?).getD γ,O,i3 (show X.A.in1.handled=J from I.ok.hd y) _ p (bb hlt) a.toArray,⟨⟨_,bx _ O,O,O⟩,?_⟩,?_,λP G z=>?_⟩)
 .exact pl.isList.at λo e=>aK _ e
 .intro i v S N M F hQ';have d:a[i]?=Z v:=by simpa using F
  have c:i<a.length:=(cg.1 d).1;have f:(bs.map V.I)[i]?=Z (.I (bs[i]'(by omega))):=by simp[show i<bs.length by omega]
  obtain⟨u,m,l⟩:=w.get f;rw[d]at m;cases m;cases l;refine dw ?_;have e:(bs[i]?).getD γ=bs[i]'(by omega):=by simp[show i<bs.length by omega]
  rw[<-e];exact hQ'
 .refine⟨.I (bs.all id),H,?_,?_,q⟩
  .exact I.g? (t':=G) λb o e=>z b o (by simp;exact bb (aR e)) (aK _ e)
  .show Value.bool _=Value.bool _;congr 1;rw[bg,<- B];rw[c9];simp only[aQ,bN,id];constructor
   .intro j b f;obtain⟨i,c,rfl⟩:=kN.1 f;have:=j i c;simpa [c]using this
   .intro j i c;simp only[bh c,pV];exact j _ (fA c)
end
inductive Dq where
 |E|I (b:Bool)|int (i:Int)|str (x:Str)|d? (ds:List Dq)|bt (ds:List Dq)
mutual
def cb(K:av)(H:Hp):Dq->V->Prop
 |.E,v=>v=.E
 |.I b,v=>v=.I b
 |.int i,v=>v=.int i
 |.str x,v=>v=.str x
 |.d? d,v=>∃a c,v=.ref a/\ij K H a c/\uS K H d c
 |.bt d,v=>∃a c,v=.ref a/\gi K H a c/\uS K H d c
def uS(K:av)(H:Hp):List Dq->bL->Prop
 |[],a=>a=[]
 |d::b,a=>∃v r,a=v::r/\cb K H d v/\uS K H b r
end
mutual
def nj:Dq->Dq->Bool
 |.E,.E=>γ
 |.I a,.I b=>a==b
 |.I a,.int b=>(if a then 1 else 0)==b
 |.int a,.I b=>a==(if b then 1 else 0)
 |.int a,.int b=>a==b
 |.str a,.str b=>a==b
 |.d? a,.d? b=>BG a b
 |.bt a,.bt b=>BG a b
 |_,_=>δ
def BG:List Dq->List Dq->Bool
 |[],[]=>γ
 |a::r,b::q=>nj a b&&BG r q
 |_,_=>δ
end
mutual
def ll:Dq->Nat
 |.d? a=>wM a+1
 |.bt a=>wM a+1
 |_=>0
def wM:List Dq->Nat
 |[]=>0
 |d::r=>max (ll d) (wM r)
end
mutual
theorem M4:∀d:Dq,nj d d=γ
 |.E=>by unfold nj;rfl
 |.I b=>by unfold nj;simp
 |.int i=>by unfold nj;simp
 |.str x=>by unfold nj;simp
 |.d? a=>by unfold nj;exact Gf a
 |.bt a=>by unfold nj;exact Gf a
theorem Gf:∀a:List Dq,BG a a=γ
 |[]=>by unfold BG;rfl
 |d::r=>by unfold BG;rw[M4 d,Gf r];rfl
end
theorem uX{K:av}:∀{b:List Dq} {a:bL},uS K H b a->b.length=a.length
 |[],a,h=>by unfold uS at h;subst h;rfl
 |d::b,a,h=>by unfold uS at h;obtain⟨v,r,rfl,_,c⟩:=h;rw[aM,aM,uX c]
def eAt(d c:List Dq)(j:Nat):Bool:=match d[j]?,c[j]? with
 |some a,Z b=>nj a b
 |_,_=>γ
theorem IL:∀(d c:List Dq),BG d c=γ ↔ d.length=c.length/\∀j,j<d.length->eAt d c j=γ
 |[],[]=>by simp[BG]
 |[],b::q=>by simp[BG]
 |a::r,[]=>by simp[BG]
 |a::r,b::q=>by
  have l:=IL r q;unfold BG;rw[aY,l,aM,aM];constructor
  .rintro⟨f,e,h⟩;refine⟨by omega,λj i=>?_⟩;cases j with
   |zero=>exact f
   |succ j=>exact h j (by omega)
  .rintro⟨f,e⟩;exact⟨e 0 (by omega),by omega,λj i=>e (j+1) (by omega)⟩
def B3{b a:List Dq}(l:b.length=n)(i:a.length=m):((aZ (min n m)).all (eAt b a)&&n==m)=BG b a:=by
 rw[c9,IL,aY,aQ];subst l i;constructor
 .rintro⟨d,f⟩;have e:b.length=a.length:=by simpa using f
  exact⟨e,λj c=>d j (bN.2 (by omega))⟩
 .rintro⟨e,h⟩;exact⟨λj c=>h j (by have:=bN.1 c;omega),by simpa using e⟩
def Dg{b a:List Dq}(d:b.length=n)(c:a.length=n):(aZ n).all (eAt b a)=BG b a:=by rw[<-B3 d c];simp
def IM{b a:List Dq}(h:b.length≠a.length):BG b a=δ:=by
 cases e:BG b a with
 |false=>rfl
 |true=>exact aq ((IL b a).1 e).1 h
section
variable{X:Cx}{pins:cD}{σ:St}{H:Hp}{s:ae}
def Yi(I:c3 X pins σ H s)(h:gi X.K H a f)(c:ij X.K H a i):False:=by obtain⟨d,_,p,_⟩:=I.list h;obtain⟨b,_,e,_⟩:=I.tuple c;exact SeqAt.ne_of_list_tuple p.isList (show s.heap.IsTuple a b.toArray from e) O
mutual
theorem IP(I:c3 X pins σ H s):∀(d i:Dq) (v:V),cb X.K H d v->cb X.K H i v->nj d i=γ
 |.E,i,v,h,c=>by unfold cb at h;subst h;cases i<;>unfold cb at c<;>first|rfl|(exact nomatch c)|(obtain⟨_,_,e,_⟩:=c;exact nomatch e)
 |.I b,i,v,h,c=>by unfold cb at h;subst h;cases i<;>unfold cb at c<;>first|(obtain⟨_,_,e,_⟩:=c;cases e)|(cases c<;>simp[nj])
 |.int b,i,v,h,c=>by unfold cb at h;subst h;cases i<;>unfold cb at c<;>first|(obtain⟨_,_,e,_⟩:=c;cases e)|(cases c<;>simp[nj])
 |.str b,i,v,h,c=>by unfold cb at h;subst h;cases i<;>unfold cb at c<;>first|(obtain⟨_,_,e,_⟩:=c;cases e)|(cases c<;>simp[nj])
 |.d? q,i,v,h,c=>by
  unfold cb at h;obtain⟨a,u,rfl,o,t⟩:=h;cases i with
  |d? j=>unfold cb at c;obtain⟨p,m,e,f,l⟩:=c;cases e;have r:=I.D? o f;subst r;unfold nj;exact Gg I q j u t l
  |bt j=>unfold cb at c;obtain⟨p,m,e,f,l⟩:=c;cases e;exact(Yi I f o).elim
  |_=>unfold cb at c;exact nomatch c
 |.bt q,i,v,h,c=>by
  unfold cb at h;obtain⟨a,u,rfl,o,t⟩:=h;cases i with
  |bt j=>unfold cb at c;obtain⟨p,m,e,f,l⟩:=c;cases e;have r:=I.P0 o f;subst r;unfold nj;exact Gg I q j u t l
  |d? j=>unfold cb at c;obtain⟨p,m,e,f,l⟩:=c;cases e;exact(Yi I o f).elim
  |_=>unfold cb at c;exact nomatch c
theorem Gg(I:c3 X pins σ H s):∀(c a:List Dq) (f:bL),uS X.K H c f->uS X.K H a f->BG c a=γ
 |[],a,f,h,b=>by
  unfold uS at h;subst h;cases a with
  |nil=>rfl
  |cons d r=>unfold uS at b;obtain⟨_,_,e,_⟩:=b;exact nomatch e
 |d::c,a,f,h,b=>by
  unfold uS at h;obtain⟨v,r,rfl,m,o⟩:=h;cases a with
  |nil=>unfold uS at b;exact nomatch b
  |cons l p=>unfold uS at b;obtain⟨t,q,e,i,j⟩:=b;cases e;unfold BG;rw[IP I d l v m i,Gg I c p r o j];rfl
end
mutual
theorem SV(I:c3 X pins σ H s):∀(d E:Dq) (x y:V) (u v:ab) (A:aJ),cb X.K H d x->cb X.K H E y->e8 x u->e8 y v->A.units+ll d+ll E<cLine->iY A s u v (nj d E)
 |.d? F,E,x,y,u,v,A,B,h,w,o,S=>by
  unfold cb at B;obtain⟨a,T,rfl,R,N⟩:=B;cases w;obtain⟨M,Q,p,_⟩:=I.tuple R;have p:s.heap.IsTuple a M.toArray:=p;cases E with
  |E=>unfold cb at h;subst h;cases o;exact tQ p (by omega)
  |I b=>unfold cb at h;subst h;cases o;exact tR b p (by omega)
  |int b=>unfold cb at h;subst h;obtain⟨t,rfl⟩:=o;exact tZ b t p (by omega)
  |str b=>unfold cb at h;subst h;obtain⟨t,rfl⟩:=o;exact ua b t p (by omega)
  |bt i=>unfold cb at h;obtain⟨b,G,rfl,l,m⟩:=h;cases o;obtain⟨f,C,r,_⟩:=I.list l;exact tS p r.isList (by omega)
  |d? i=>
   have P:=h;unfold cb at h;obtain⟨b,G,rfl,l,m⟩:=h;cases o;obtain⟨f,C,r,_⟩:=I.tuple l;have r:s.heap.IsTuple b f.toArray:=r;by_cases hab:a=b
   .subst hab;have e:nj (.d? F) (.d? i)=γ:=IP I _ _ (.ref a) (by unfold cb;exact⟨a,T,O,R,N⟩) P;rw[e];exact lG _
   .have hd:ll (.d? F)=wM F+1:=by rw[ll]
    have hd':ll (.d? i)=wM i+1:=by rw[ll]
    have q:=uE (A:=A) (e:=eAt F i) p r (by omega) λj W Y=>by have z:=B4 I F i T G M f A.in1 N m Q C (by show A.units+1+wM F+wM i<cLine;omega) j (by simpa using W) (by simpa using Y);simpa using z
    rw[B3 (by rw[uX N,Q.length];simp) (by rw[uX m,C.length];simp)]at q;exact kZ hab (by unfold nj;exact q)
 |.bt F,E,x,y,u,v,A,B,h,w,o,S=>by
  unfold cb at B;obtain⟨a,T,rfl,R,N⟩:=B;cases w;obtain⟨M,Q,p,_⟩:=I.list R;have p:=p.isList;cases E with
  |E=>unfold cb at h;subst h;cases o;exact uc p (by omega)
  |I b=>unfold cb at h;subst h;cases o;exact ud b p (by omega)
  |int b=>unfold cb at h;subst h;obtain⟨t,rfl⟩:=o;exact uo b t p (by omega)
  |str b=>unfold cb at h;subst h;obtain⟨t,rfl⟩:=o;exact uq b t p (by omega)
  |d? i=>unfold cb at h;obtain⟨b,G,rfl,l,m⟩:=h;cases o;obtain⟨f,C,r,_⟩:=I.tuple l;exact tT p (show s.heap.IsTuple b f.toArray from r) (by omega)
  |bt i=>
   have P:=h;unfold cb at h;obtain⟨b,G,rfl,l,m⟩:=h;cases o;obtain⟨f,C,r,_⟩:=I.list l;have r:=r.isList;by_cases hab:a=b
   .subst hab;have e:nj (.bt F) (.bt i)=γ:=IP I _ _ (.ref a) (by unfold cb;exact⟨a,T,O,R,N⟩) P;rw[e];exact lG _
   .have hd:ll (.bt F)=wM F+1:=by rw[ll]
    have hd':ll (.bt i)=wM i+1:=by rw[ll]
    by_cases U:M.length=f.length
    .have q:=uI (A:=A) (e:=eAt F i) p r (by simpa using U) (by omega) λj W Y=>by have z:=B4 I F i T G M f A.in1 N m Q C (by show A.units+1+wM F+wM i<cLine;omega) j (by simpa using W) (by simpa using Y);simpa using z
     rw[Dg (by rw[uX N,Q.length];simp) (by rw[uX m,C.length,<- U];simp)]at q;exact kZ hab (by unfold nj;exact q)
    .have e:nj (.bt F) (.bt i)=δ:=by unfold nj;exact IM (by rw[uX N,uX m,Q.length,C.length];exact U)
     rw[e];exact kZ hab (tK p r (by simpa using U) (by omega))
 |.E,E,x,y,u,v,A,B,h,w,o,S=>by
  unfold cb at B;subst B;cases E with
  |d? i=>unfold cb at h;obtain⟨b,G,rfl,l,m⟩:=h;cases o;cases w;obtain⟨f,C,r,_⟩:=I.tuple l;exact tU (show s.heap.IsTuple b f.toArray from r) (by omega)
  |bt i=>unfold cb at h;obtain⟨b,G,rfl,l,m⟩:=h;cases o;cases w;obtain⟨f,C,r,_⟩:=I.list l;exact ue r.isList (by omega)
  |_=>unfold cb at h;subst h;exact IE w o O O
 |.I c,E,x,y,u,v,A,B,h,w,o,S=>by
  unfold cb at B;subst B;cases E with
  |d? i=>unfold cb at h;obtain⟨b,G,rfl,l,m⟩:=h;cases o;cases w;obtain⟨f,C,r,_⟩:=I.tuple l;exact tV c (show s.heap.IsTuple b f.toArray from r) (by omega)
  |bt i=>unfold cb at h;obtain⟨b,G,rfl,l,m⟩:=h;cases o;cases w;obtain⟨f,C,r,_⟩:=I.list l;exact uf c r.isList (by omega)
  |_=>unfold cb at h;subst h;exact IE w o O O
 |.int c,E,x,y,u,v,A,B,h,w,o,S=>by
  unfold cb at B;subst B;cases E with
  |d? i=>unfold cb at h;obtain⟨b,G,rfl,l,m⟩:=h;cases o;obtain⟨t,rfl⟩:=w;obtain⟨f,C,r,_⟩:=I.tuple l;exact ug c t (show s.heap.IsTuple b f.toArray from r) (by omega)
  |bt i=>unfold cb at h;obtain⟨b,G,rfl,l,m⟩:=h;cases o;obtain⟨t,rfl⟩:=w;obtain⟨f,C,r,_⟩:=I.list l;exact ur c t r.isList (by omega)
  |_=>unfold cb at h;subst h;exact IE w o O O
 |.str c,E,x,y,u,v,A,B,h,w,o,S=>by
  unfold cb at B;subst B;cases E with
  |d? i=>unfold cb at h;obtain⟨b,G,rfl,l,m⟩:=h;cases o;obtain⟨t,rfl⟩:=w;obtain⟨f,C,r,_⟩:=I.tuple l;exact uh c t (show s.heap.IsTuple b f.toArray from r) (by omega)
  |bt i=>unfold cb at h;obtain⟨b,G,rfl,l,m⟩:=h;cases o;obtain⟨t,rfl⟩:=w;obtain⟨f,C,r,_⟩:=I.list l;exact uu c t r.isList (by omega)
  |_=>unfold cb at h;subst h;exact IE w o O O
theorem B4(I:c3 X pins σ H s):∀(b a:List Dq) (i l:bL) (c e:List ab) (A:aJ),uS X.K H b i->uS X.K H a l->er i c->er l e->A.units+wM b+wM a<cLine->
  ∀(j:Nat) (m:j<c.length) (o:j<e.length),iY A s c[j] e[j] (eAt b a j)
 |[],a,i,l,c,e,A,f,h,p,q,B,j,m,o=>by
  have:=uX f;have:=p.length;simp only[fF]at *
  omega
 |d::b,[],i,l,c,e,A,f,h,p,q,B,j,m,o=>by
  have:=uX h;have:=q.length;simp only[fF]at *
  omega
 |d::b,r::a,i,l,c,e,A,f,h,p,q,B,j,m,o=>by
  unfold uS at f h;obtain⟨x,M,rfl,t,u⟩:=f;obtain⟨y,N,rfl,w,z⟩:=h;have P:wM (d::b)=max (ll d) (wM b):=by rw[wM]
  have Q:wM (r::a)=max (ll r) (wM a):=by rw[wM]
  cases p with
  |cons F G=>
   cases q with
   |cons C E=>
    cases j with
    |zero=>exact SV I d r x y _ _ A t w F C (by omega)
    |succ j=>exact B4 I b a M N _ _ A u z G E (by omega) j (by simpa using m) (by simpa using o)
end
def Pz:Dq->Dq->Bool
 |.d? _,.d? _=>γ
 |.bt _,.bt _=>γ
 |_,_=>δ
def Oy(K:av)(neg:Bool):R2:=λx y H Q=>∃d a,cb K H d x/\cb K H a y/\Pz d a=γ/\ll d<=20/\ll a<=20/\Q (.I (if neg then !nj d a else nj d a)) H
def Zv(hu:X.A.units+64<cLine):j? X (bw .Eq) (Oy X.K δ):=by
 intro pins s σ H x y u v Q I W Y h;obtain⟨d,U,F,G,hd,B,C,q⟩:=h;cases d with
 |d? l=>
  cases U with
  |d? c=>
   have N:ll (.d? l)=wM l+1:=by rw[ll]
   have P:ll (.d? c)=wM c+1:=by rw[ll]
   unfold cb at F G;obtain⟨a,S,rfl,R,r⟩:=F;obtain⟨b,T,rfl,o,i⟩:=G;cases W;cases Y;obtain⟨m,t,p,_⟩:=I.tuple R;obtain⟨f,w,M,_⟩:=I.tuple o;refine SeqAt.eq_tupleAt (e:=eAt l c) (show s.heap.IsTuple a m.toArray from p) (show s.heap.IsTuple b f.toArray from M) (by omega) (λj B C=>?_) ?_
   .have z:=B4 I l c S T m f X.A.in1 r i t w (by show X.A.units+1+wM l+wM c<cLine;omega) j (by simpa using B) (by simpa using C);simpa using z
   .rw[B3 (by rw[uX r,t.length];simp) (by rw[uX i,w.length];simp)];unfold nj at q;exact vS I q O
  |_=>exact nomatch hd
 |bt l=>
  cases U with
  |bt c=>
   have N:ll (.bt l)=wM l+1:=by rw[ll]
   have P:ll (.bt c)=wM c+1:=by rw[ll]
   unfold cb at F G;obtain⟨a,S,rfl,R,r⟩:=F;obtain⟨b,T,rfl,o,i⟩:=G;cases W;cases Y;obtain⟨m,t,p,_⟩:=I.list R;obtain⟨f,w,M,_⟩:=I.list o;by_cases E:m.length=f.length
   .refine SeqAt.eq_listAt (e:=eAt l c) p.isList M.isList (by simpa using E) (by omega) (λj B C=>?_) ?_
    .have z:=B4 I l c S T m f X.A.in1 r i t w (by show X.A.units+1+wM l+wM c<cLine;omega) j (by simpa using B) (by simpa using C);simpa using z
    .rw[Dg (by rw[uX r,t.length];simp) (by rw[uX i,w.length,<- E];simp)];unfold nj at q;exact vS I q O
   .refine oa p.isList M.isList (by simpa using E) (by omega) ?_;have e:BG l c=δ:=IM (by rw[uX r,uX i,t.length,w.length];exact E);unfold nj at q;rw[e]at q;exact vS I q O
  |_=>exact nomatch hd
 |_=>exact nomatch hd
def Zw(hu:X.A.units+64<cLine):j? X (bw .NotEq) (Oy X.K γ):=by
 intro pins s σ H x y u v Q I Y rv h;obtain⟨d,W,G,M,hd,C,E,q⟩:=h;cases d with
 |d? l=>
  cases W with
  |d? c=>
   have P:ll (.d? l)=wM l+1:=by rw[ll]
   have R:ll (.d? c)=wM c+1:=by rw[ll]
   unfold cb at G M;obtain⟨a,T,rfl,S,r⟩:=G;obtain⟨b,U,rfl,o,i⟩:=M;cases Y;cases rv;obtain⟨m,t,p,_⟩:=I.tuple S;obtain⟨f,B,N,_⟩:=I.tuple o;have w:=uv (A:=X.A) (e:=eAt l c) (show s.heap.IsTuple a m.toArray from p) (show s.heap.IsTuple b f.toArray from N) (by omega) (λj C E=>by
    have z:=B4 I l c T U m f X.A.in1 r i t B (by show X.A.units+1+wM l+wM c<cLine;omega) j (by simpa using C) (by simpa using E);simpa using z)
   rw[B3 (by rw[uX r,t.length];simp) (by rw[uX i,B.length];simp)]at w;unfold nj at q;exact w X.prog X.w X.xe _ (vS I q O)
  |_=>exact nomatch hd
 |bt l=>
  cases W with
  |bt c=>
   have P:ll (.bt l)=wM l+1:=by rw[ll]
   have R:ll (.bt c)=wM c+1:=by rw[ll]
   unfold cb at G M;obtain⟨a,T,rfl,S,r⟩:=G;obtain⟨b,U,rfl,o,i⟩:=M;cases Y;cases rv;obtain⟨m,t,p,_⟩:=I.list S;obtain⟨f,B,N,_⟩:=I.list o;by_cases F:m.length=f.length
   .have w:=uz (A:=X.A) (e:=eAt l c) p.isList N.isList (by simpa using F) (by omega) (λj C E=>by
     have z:=B4 I l c T U m f X.A.in1 r i t B (by show X.A.units+1+wM l+wM c<cLine;omega) j (by simpa using C) (by simpa using E);simpa using z)
    rw[Dg (by rw[uX r,t.length];simp) (by rw[uX i,B.length,<- F];simp)]at w;unfold nj at q;exact w X.prog X.w X.xe _ (vS I q O)
   .have e:BG l c=δ:=IM (by rw[uX r,uX i,t.length,B.length];exact F);unfold nj at q;rw[e]at q;exact sI p.isList N.isList (by simpa using F) (by omega) X.prog X.w X.xe _ (vS I q O)
  |_=>exact nomatch hd
 |_=>exact nomatch hd
end
inductive AZ:List Expr->bL->Prop
 |nil:AZ [] []
 |cons {x:Str} {j:Nat} {pos:Pos} {es:List Expr} {vs:bL} (h:AZ es vs):AZ (.Constant (.str x) j pos::es) (.str x::vs)
def yd(h:n<=1000):n<=aG:=iU (DW h)
def vm.new(x:vm H a)(c:a p=J)(o:HO):vm H (fl a p o):=λb u e=>by have z:=x b u e;rw[vt (yc z c)];exact z
structure Re(K:av)(x qual:Str)(st:Stmt)(f:Addr)(fd:bV)(T:Addr):Prop where
 ex:∃(oc:ab) (od:Option Addr) (kV doc pm:ab) (an:Option Addr) (cdv ct:ab) (osl:Array (Option ab)),
  fd=eU x qual (za st) (vY st) (vw st) (.ref T) kV doc pm an cdv ct/\K.lookup f=Z ⟨oc,od,.func fd,osl⟩/\ia K cdv qual=γ
 kp:dZ K (.ref f)=γ
section
variable{P:aH}{w:az}{K:av}{mg:Str->Option ab}{b?:Heap}
theorem Re.ok{st:Stmt}(F:Re K x qual st f d T)(S:xK N ps (vw st))(len:∀a H Q E,b a H Q E->a.length=ps.length)
  (hbody:∀(cdv:ab) (A:aJ) (da:List Env) (s:ae) (H:Hp) (a:bL) (Q:VK) (E:XK),xB k (A.deeper (envOfC qual (vw st) s.heap.objs.size f cdv))->b a H Q E->
   ∃t,qi (MR H? P w K mg b? N qual (vw st) f cdv A da s H E).nox (vY st) t/\t { nx:=λ_ c=>Q .E c,rt:=Q } (L2.start N a) H):zr P w K mg b? H? (k+1) f d ps b:=by
 obtain⟨m,o,kV,doc,p,j,cdv,l,osl,rfl,i,hcd⟩:=F.ex;refine Yc i hcd S len λA da s H a Q E e hsp=>?_;obtain⟨t,h,q⟩:=hbody cdv A da s H a Q E e hsp;exact⟨t,h.nox,q⟩
end
theorem Re.tp{K:av}{st:Stmt}{i:aE}{d:List ab}(F:Re K x qual st f j T)(q:K.lookup T=Z o)(r:o.data=.seq items n)
  (h:∀(kV doc e:ab) (b:Option Addr) (cdv c:ab) (a:List ab),a.length=i.length - d.length->∃k,bindArgs (eU x qual (za st) (vY st) (vw st) (.ref T) kV doc e b cdv c) ⟨a,[]⟩=seqItems? (.ref T)>>=k/\k (Z items)=pure (i.zip (a++d))):m1 K j i d:=by
 obtain⟨u,w,kV,doc,e,b,cdv,c,osl,rfl,t,hcd⟩:=F.ex;intro s a KX p;obtain⟨k,l,m⟩:=h kV doc e b cdv c a (by rw[aC]at p;omega);exact BindsTo.of_defaults (k:=k) O (KX _ _ q) r l m
section
variable{X:Cx}
def Oz:j? X (cJ .Mult) (λx y H Q=>∃z n,x=.str z/\y=.int n/\MulOk z n/\Q (.str (m6 z n)) H):=by intro a s i H x y v u Q I c d h;obtain⟨z,n,rfl,rfl,b,q⟩:=h;obtain⟨t,rfl⟩:=c;obtain⟨f,rfl⟩:=d;exact SB.mul b λe k=>⟨.str _,H,I.x? _,⟨e,O⟩,q⟩
end
section
variable{X:Cx}(K:av)
def SW(hK:X.K=K:=by rfl):IxR X (Wc K):=by subst hK;exact Px
def M5(a:PE X l b)(hK:X.K=K:=by rfl):PI X c l (Sq K b):=by subst hK;exact VZ a
def Wm(a:PE X l b)(hK:X.K=K:=by rfl):PI X c l (Y2 K b):=by subst hK;exact Y3 a
def Wn(b:X.n6=γ)(h:R' X a t)(c:(b9 a X.b1).length=n:=by rfl)(hst:(b9 a X.b1).findIdx? (·.1)=J:=by rfl)(hK:X.K=K:=by rfl):PG X (.Tuple a k pos) (YY K n t):=by subst hK;exact YZ b h c hst
variable{o e:Expr}{es:List Expr}{to:TE}{t:TA}{name:Str}{apos cpos:Pos}{T id:String}{r:V->bL->Hp->VK->Prop}
def SX(f:mU T)(slot:Slot T name id)(hty:typeOf (.builtin id)=pure (.type "method_descriptor"))(b:MtR X id r)(c:PE X o to)(a:PA X (e::es) t)
  (hbase:fJ o name X.b1 (eval o X.b1)=eval o X.b1:=by rfl)
  (hfew:((bD cpos (aA (e::es) X.b1)).all (λx=>!x.1)&&(backToKw cpos (dY [] X.b1)).all (λx=>x.1.isSome)
   && decide ((e::es).length+([]:List fM).length+(if ([]:List fM).isEmpty then 0 else 1)<30))=γ:=by rfl)
  (hline:(apos.endLine==cpos.line)=γ:=by rfl) (d:aA (e::es) X.b1=(δ,eval e X.b1)::aA es X.b1:=by rfl) (hplain:(bD cpos (aA es X.b1)).any (·.1)=δ:=by rfl) (hK:X.K=K:=by rfl):
  PE X (.Call (.Attribute o name apos) (e::es) [] cpos) (tBM K T r to t):=by subst hK;exact ac4 f slot hty b c a hbase hfew hline d hplain
end
end L3
namespace L2
open PySem PySem.Spec PyProof.Rows
section
variable{X:Cx}{pins:cD}{σ:St}{H:Hp}{s:ae}
def BH(e:H a=Z u)(q:H c=Z v)(d:u≠v)(n:HO):fl H a n c=Z v:=by rw[vt (λz=>by subst z;rw[e]at q;exact d (cI q))];exact q
def c3.rm(I:c3 X pins σ H s)(e:H a=Z (.dK kvs)):∃o,c3 X pins σ (fl H a (.o? o (.dK kvs))) s:=by
 obtain⟨z,y,Q,r,f,F,E,l,c⟩:=(show wL X.prog X.w H s.heap a (.dK kvs) from I.fx a _ e);refine⟨f,?_⟩;have j:=I.step (H':=fl H a (.o? f (.dK kvs))) (h':=s.heap) (g':=s.gens) (d':=s.drawn) (t':=s.toks) (ch:=[]) (λ_ z=>nomatch z) (λb o _ _ _ q _=>q) (λb o _ _ _ q _=>⟨o.slots,q⟩)
  (λb o _ _ n=>by rw[vt (λz=>by subst z;rw[e]at n;cases n)];exact n) (λb o _ q=>⟨o,q⟩) (λb p q=>BH e q (λz=>nomatch z) _) (λb o u q=>BH e q (λz=>nomatch z) _)
  (λb N q=>⟨#[],by rw[BH e q (λz=>nomatch z) _];simp⟩) (λm q=>q) ?_ I.mn
 .obtain⟨h,g,d,t,os⟩:=s;exact j
 .intro b u q;have st:∀{b:Addr} {u:HO},wL X.prog X.w H s.heap b u->wL X.prog X.w (fl H a (.o? f (.dK kvs))) s.heap b u:=λ{b u} x=>x.stay (λ_ _ _ q=>q) (λc q=>BH e q (λz=>nomatch z) _) λc p q=>BH e q (λz=>nomatch z) _
  by_cases i:b=a
  .subst i;rw[ve]at q;cases q;exact⟨l,st (I.fx b _ e)⟩
  .rw[vt i]at q;exact st (I.fx b u q)
def PE.ghost(h:PE X e t):PE X e (λσ H Q=>t σ H λx b=>Q x b\/∃a kvs,b a=Z (.dK kvs)/\∀o,Q x (fl b a (.o? o (.dK kvs)))):=λpins s σ H Q I i=>
 f5 (h pins s σ H _ I i) λu l ⟨x,b,c,d,j⟩=>by
  rcases j with q|⟨a,kvs,e,q⟩
  .exact⟨x,b,c,d,q⟩
  .obtain⟨o,f⟩:=c.rm e;exact⟨x,_,f,d,q o⟩
end
end L2
namespace L4
open PySem PySem.Spec PyProof.Rows L2 L3
abbrev St:=L2.St
inductive D where
 |E|I (b:Bool)|int (i:Int)|str (x:Str)
 |d? (ds:List D)|bt (ds:List D)
 |R (ds:List D)
 |obj (c:Nat) (ns:aE) (ds:List D)
 |Q (ks:List fh) (ds:List D)
abbrev bj:=List D
structure Bg where
 K:av
 ca:Nat->Addr
mutual
def cb(G:Bg)(H:Hp):D->V->Prop
 |.E,v=>v=.E
 |.I b,v=>v=.I b
 |.int i,v=>v=.int i
 |.str x,v=>v=.str x
 |.d? e,v=>∃a d,v=.ref a/\ij G.K H a d/\uS G H e d
 |.bt e,v=>∃a d,v=.ref a/\H a=Z (.bt d)/\uS G H e d
 |.R e,v=>∃a d,v=.ref a/\gi G.K H a d/\uS G H e d
 |.obj c h e,v=>∃a j d,v=.ref a/\H a=Z (.nr (G.ca c) j (h.zip d))/\h.length=d.length/\uS G H e d
 |.Q f e,v=>∃a o d,v=.ref a/\H a=Z (.o? o (.dK (f.zip d)))/\f.length=d.length/\uS G H e d
def uS(G:Bg)(H:Hp):bj->bL->Prop
 |[],a=>a=[]
 |d::b,a=>∃v r,a=v::r/\cb G H d v/\uS G H b r
end
def ij.mono{K:av}(e:vm H b)(h:ij K H a c):ij K b a c:=by
 rcases h with (h|⟨o,h⟩)|h
 .exact .inl (.inl (e _ _ h))
 .exact .inl (.inr ⟨o,e _ _ h⟩)
 .exact .inr h
mutual
theorem cb.mono(e:vm H q):∀(d:D) (v:V),cb G H d v->cb G q d v
 |.E,v,h=>by unfold cb at h ⊢;exact h
 |.I b,v,h=>by unfold cb at h ⊢;exact h
 |.int i,v,h=>by unfold cb at h ⊢;exact h
 |.str x,v,h=>by unfold cb at h ⊢;exact h
 |.d? j,v,h=>by unfold cb at h ⊢;obtain⟨a,f,rfl,l,m⟩:=h;exact⟨a,f,O,ij.mono e l,uS.mono e j f m⟩
 |.bt j,v,h=>by unfold cb at h ⊢;obtain⟨a,f,rfl,l,m⟩:=h;exact⟨a,f,O,e _ _ l,uS.mono e j f m⟩
 |.R j,v,h=>by unfold cb at h ⊢;obtain⟨a,f,rfl,l,m⟩:=h;exact⟨a,f,O,e.seq l,uS.mono e j f m⟩
 |.obj c u j,v,h=>by unfold cb at h ⊢;obtain⟨a,r,f,rfl,l,m,p⟩:=h;exact⟨a,r,f,O,e _ _ l,m,uS.mono e j f p⟩
 |.Q t j,v,h=>by unfold cb at h ⊢;obtain⟨a,o,f,rfl,l,m,p⟩:=h;exact⟨a,o,f,O,e _ _ l,m,uS.mono e j f p⟩
theorem uS.mono(e:vm H c):∀(a:bj) (b:bL),uS G H a b->uS G c a b
 |[],b,h=>by unfold uS at h ⊢;exact h
 |d::a,b,h=>by unfold uS at h ⊢;obtain⟨v,r,rfl,f,i⟩:=h;exact⟨v,r,O,cb.mono e d v f,uS.mono e a r i⟩
end
section
variable{G:Bg}{H:Hp}
def vN:uS G H [] []:=by unfold uS;rfl
def vU(h:cb G H d v)(r:uS G H b a):uS G H (d::b) (v::a):=by unfold uS;exact⟨v,a,O,h,r⟩
theorem uX:∀{b:bj} {a:bL},uS G H b a->b.length=a.length
 |[],a,h=>by unfold uS at h;subst h;rfl
 |d::b,a,h=>by unfold uS at h;obtain⟨v,r,rfl,_,c⟩:=h;rw[aM,aM,uX c]
theorem xk:∀{e a:bj} {b c:bL},uS G H e b->uS G H a c->uS G H (e++a) (b++c)
 |[],a,b,c,h,f=>by unfold uS at h;subst h;exact f
 |d::e,a,b,c,h,f=>by unfold uS at h;obtain⟨v,r,rfl,i,j⟩:=h;exact vU i (xk j f)
theorem zN:∀{b:bj} {a:bL} {i:Nat} {d:D},uS G H b a->b[i]?=Z d->∃v,a[i]?=Z v/\cb G H d v
 |[],a,i,d,h,e=>by simp at e
 |j::b,a,i,d,h,e=>by
  unfold uS at h;obtain⟨v,r,rfl,c,f⟩:=h;cases i with
  |zero=>simp at e;subst e;exact⟨v,O,c⟩
  |succ i=>simpa using zN (i:=i) (d:=d) f (by simpa using e)
theorem M6:∀{b:bj} {a:bL} (i:Nat) {d:D} {v:V},uS G H b a->cb G H d v->uS G H (b.set i d) (a.set i v)
 |[],a,i,d,v,h,e=>by unfold uS at h;subst h;exact vN
 |j::b,a,i,d,v,h,e=>by
  unfold uS at h;obtain⟨l,r,rfl,f,c⟩:=h;cases i with
  |zero=>exact vU e c
  |succ i=>exact vU f (M6 i c e)
theorem KH:∀{ds:bj} {a:bL} (n:Nat),uS G H ds a->uS G H (ds.drop n) (a.drop n)
 |ds,a,0,h=>h
 |[],a,n+1,h=>by unfold uS at h;subst h;exact vN
 |d::ds,a,n+1,h=>by unfold uS at h;obtain⟨v,r,rfl,c,b⟩:=h;exact KH n b
theorem KI:∀{ds:bj} {a:bL} (n:Nat),uS G H ds a->uS G H (ds.take n) (a.take n)
 |ds,a,0,h=>vN
 |[],a,n+1,h=>by unfold uS at h;subst h;exact vN
 |d::ds,a,n+1,h=>by unfold uS at h;obtain⟨v,r,rfl,b,c⟩:=h;exact vU b (KI n c)
def E5(h:ij G.K H a b)(r:uS G H c b):cb G H (.d? c) (.ref a):=by unfold cb;exact⟨a,b,O,h,r⟩
def B5(h:H a=Z (.bt b))(r:uS G H c b):cb G H (.bt c) (.ref a):=by unfold cb;exact⟨a,b,O,h,r⟩
def xy(i:Int):cb G H (.int i) (.int i):=by unfold cb;rfl
def xZ(i:Bool):cb G H (.I i) (.I i):=by unfold cb;rfl
def zJ(i:Str):cb G H (.str i) (.str i):=by unfold cb;rfl
def A0:cb G H .E .E:=by unfold cb;rfl
end
inductive Sl where
 |un
 |z (d:D)
 |O (ds:bj)
 |pm (ds:bj)
 |dk (ks:List fh) (ds:bj)
 |ob (c:Nat) (ns:aE) (ds:bj)
abbrev aS:=List Sl
def Sl.jj:Sl->Bool
 |.O _=>γ
 |.pm _=>γ
 |.dk _ _=>γ
 |.ob _ _ _=>γ
 |_=>δ
structure Fr where
 B0:Hp
 B:Hp
 A:List Addr
def Ka(G:Bg)(F:Fr)(e H:Hp)(o:Option V):Sl->Prop
 |.un=>True
 |.z d=>∃v,o=Z v/\cb G e d v
 |.O f=>∃a b,o=Z (.ref a)/\H a=Z (.bt b)/\e a=J/\F.B a=J/\uS G e f b
 |.pm f=>∃a b,o=Z (.ref a)/\H a=Z (.bt b)/\e a=J/\a∈F.A/\uS G e f b
 |.dk h f=>∃a b,o=Z (.ref a)/\H a=Z (.dK (h.zip b))/\e a=J/\F.B a=J/\h.length=b.length/\uS G e f b
 |.ob c i f=>∃a j b,o=Z (.ref a)/\H a=Z (.nr (G.ca c) j (i.zip b))/\e a=J/\a∈F.A/\i.length=b.length/\uS G e f b
structure vA(G:Bg)(F:Fr)(σ:St)(ρ:aS)(H0 H:Hp):Prop where
 sub:vm H0 H
 g0:vm F.B0 H0
 keep:∀b o,F.B b=Z o->b∉F.A->H b=Z o
 fr:∀b o,H0 b=Z o->F.B0 b=Z o\/F.B b=J
 am:∀a∈F.A,∃o,H a=Z o
 len:σ.length=ρ.length
 sl:∀(i:Nat) (s:Sl),ρ[i]?=Z s->Ka G F H0 H (σ[i]?).join s
 ap:∀(i j:Nat) (s t:Sl) (a:Addr),i≠j->ρ[i]?=Z s->ρ[j]?=Z t->s.jj=γ->t.jj=γ->(σ[i]?).join=Z (.ref a)->(σ[j]?).join=Z (.ref a)->False
theorem Ka.at(h:Ka G F p H o s)(e:s.jj=γ):∃a u,o=Z (.ref a)/\H a=Z u/\p a=J/\(F.B a=J\/a∈F.A):=by
 cases s with
 |un=>cases e
 |z d=>cases e
 |O l=>obtain⟨a,m,b,f,i,j,_⟩:=h;exact⟨a,_,b,f,i,.inl j⟩
 |pm l=>obtain⟨a,m,b,f,i,j,_⟩:=h;exact⟨a,_,b,f,i,.inr j⟩
 |dk r l=>obtain⟨a,m,b,f,i,j,_⟩:=h;exact⟨a,_,b,f,i,.inl j⟩
 |ob c t l=>obtain⟨a,q,m,b,f,i,j,_⟩:=h;exact⟨a,_,b,f,i,.inr j⟩
def Ka.i1(h:Ka G F x H o s)(p:vm x m)(q:∀a u,o=Z (.ref a)->s.jj=γ->H a=Z u->y a=Z u)
  (r:∀a u,o=Z (.ref a)->s.jj=γ->H a=Z u->x a=J->m a=J):Ka G F m y o s:=by
 cases s with
 |un=>trivial
 |z d=>obtain⟨v,b,e⟩:=h;exact⟨v,b,cb.mono p _ _ e⟩
 |O t=>obtain⟨a,l,b,e,f,i,j⟩:=h;exact⟨a,l,b,q _ _ b O e,r _ _ b O e f,i,uS.mono p _ _ j⟩
 |pm t=>obtain⟨a,l,b,e,f,i,j⟩:=h;exact⟨a,l,b,q _ _ b O e,r _ _ b O e f,i,uS.mono p _ _ j⟩
 |dk A t=>obtain⟨a,l,b,e,f,i,j,w⟩:=h;exact⟨a,l,b,q _ _ b O e,r _ _ b O e f,i,j,uS.mono p _ _ w⟩
 |ob c B t=>obtain⟨a,z,l,b,e,f,i,j,w⟩:=h;exact⟨a,z,l,b,q _ _ b O e,r _ _ b O e f,i,j,uS.mono p _ _ w⟩
section
variable{G:Bg}{F:Fr}{σ:St}{ρ:aS}{H0 H H0' H':Hp}
theorem vA.i0(R:vA G F σ ρ H0 H)(h:H b=J):F.B b=J:=by
 cases e:F.B b with
 |none=>rfl
 |some o=>
  by_cases a:b∈F.A
  .obtain⟨c,q⟩:=R.am b a;rw[q]at h;cases h
  .have q:=R.keep b o e a;rw[q]at h;cases h
theorem vA.i1(R:vA G F σ ρ H0 H)(c:vm H H')(d:vm H0 H0')(sub':vm H0' H')(hf:∀b o,H0' b=Z o->H0 b=Z o\/H b=J):vA G F σ ρ H0' H' where
 sub:=sub'
 g0:=R.g0.t d
 keep:=λb o e n=>c _ _ (R.keep b o e n)
 fr:=λb o e=>by
  rcases hf b o e with q|q
  .exact R.fr b o q
  .exact .inr (R.i0 q)
 am:=λa ha=>let ⟨xs,q⟩:=R.am a ha;⟨xs,c _ _ q⟩
 len:=R.len
 sl:=λi s e=>(R.sl i s e).i1 d (λa u _ _ q=>c _ _ q) λa u _ _ q f=>by
  cases z:H0' a with
  |none=>rfl
  |some o=>
   rcases hf a o z with y|y
   .rw[y]at f;cases f
   .rw[y]at q;cases q
 ap:=R.ap
def vy(a:H p=J)(o:HO):vm H (fl H p o):=vm.new (vm.refl H) a o
def vA.f3(R:vA G F σ ρ H0 H)(a:H p=J):H0 p=J:=by
 cases e:H0 p with
 |none=>rfl
 |some o=>have:=R.sub _ _ e;rw[this]at a;cases a
def SY(s:vm H0 H)(p:Addr)(o:HO):vm (fl H0 p o) (fl H p o):=λb u e=>by
 by_cases a:b=p
 .subst a;rw[ve]at e ⊢;exact e
 .rw[vt a]at e ⊢;exact s _ _ e
def vA.O'(R:vA G F σ ρ H0 H)(a:H p=J)(o:HO):vA G F σ ρ (fl H0 p o) (fl H p o):=
 R.i1 (vy a o) (vy (R.f3 a) o) (SY R.sub p o) λb u e=>by
  by_cases c:b=p
  .subst c;exact .inr a
  .rw[vt c]at e;exact .inl e
def vA.l'(R:vA G F σ ρ H0 H)(a:H p=J)(o:HO):vA G F σ ρ H0 (fl H p o):=
 R.i1 (vy a o) (vm.refl _) (λb u e=>by rw[vt (yc (R.sub _ _ e) a)];exact R.sub _ _ e) λb u e=>.inl e
def ri(σ:St)(ρ:aS)(p:Addr):Prop:=∀(i:Nat) (s:Sl),ρ[i]?=Z s->s.jj=γ->(σ[i]?).join≠Z (.ref p)
def vA.apart(R:vA G F σ ρ H0 H)(d:H p=J):ri σ ρ p:=λi s e so z=>by obtain⟨a,u,b,c,_⟩:=(R.sl i s e).at so;rw[z]at b;cases b;rw[d]at c;cases c
theorem vA.rm(R:vA G F σ ρ H0 H)(f:H p=Z o)(d:H0 p=J)(hb:F.B p=J)(ap:ri σ ρ p):vA G F σ ρ (fl H0 p o) H where
 sub:=λb u e=>by
  by_cases hb:b=p
  .subst hb;rw[ve]at e;cases e;exact f
  .rw[vt hb]at e;exact R.sub _ _ e
 g0:=R.g0.t (vy d o)
 keep:=R.keep
 fr:=λb u e=>by
  by_cases c:b=p
  .subst c;exact .inr hb
  .rw[vt c]at e;exact R.fr _ _ e
 am:=R.am
 len:=R.len
 sl:=λi s e=>(R.sl i s e).i1 (vy d o) (λa u _ _ q=>q) λa u z so q h=>by rw[vt (λy=>ap i s e so (by rw[z,y]))];exact h
 ap:=R.ap
def M7{σ:St}(a:i<σ.length):((σ.set i v)[j]?).join=if j=i then v else (σ[j]?).join:=by
 rw[b0];by_cases h:i=j
 .subst h;simp[a]
 .rw[ao h,ao (λz=>h z.symm)]
theorem vA.set(R:vA G F σ ρ H0 H)(B:Ka G F H0 H (Z v) s)(ap:s.jj=γ->∀a,v=.ref a->∀(j:Nat) (t:Sl),j≠i->ρ[j]?=Z t->t.jj=γ->(σ[j]?).join≠Z (.ref a)):
  vA G F (σ.set i (Z v)) (ρ.set i s) H0 H where
 sub:=R.sub
 g0:=R.g0
 keep:=R.keep
 fr:=R.fr
 am:=R.am
 len:=by rw[eJ,eJ,R.len]
 sl:=λj t e=>by
  rw[b0]at e;by_cases h:i=j
  .subst h;rw[aj O]at e;split at e
   .rename_i hi;cases e;rw[M7 (by rw[R.len];exact hi),aj O];exact B
   .cases e
  .rw[ao h]at e;have A:=R.sl j t e;rw[b0,ao h];exact A
 ap:=λj k t u a hjk q f p tk b vk=>by
  have sx:∀{m:Nat} {x:Sl},(ρ.set i s)[m]?=Z x->m≠i->ρ[m]?=Z x/\((σ.set i (Z v))[m]?).join=(σ[m]?).join:=λ{m x} e hm=>by rw[b0,ao (λz=>hm z.symm)]at e;exact⟨e,by rw[b0,ao (λz=>hm z.symm)]⟩
  have self:∀{x:Sl},(ρ.set i s)[i]?=Z x->x=s/\((σ.set i (Z v))[i]?).join=Z v:=λ{x} e=>by
   rw[b0,aj O]at e;split at e
   .rename_i hi;cases e;exact⟨O,by rw[M7 (by rw[R.len];exact hi),aj O]⟩
   .cases e
  by_cases o:j=i
  .subst o;obtain⟨rfl,l⟩:=self q;rw[l]at b;cases b;obtain⟨c,d⟩:=sx f (λz=>hjk z.symm);rw[d]at vk;exact ap p a O k u (λz=>hjk z.symm) c tk vk
  .obtain⟨c,d⟩:=sx q o;by_cases r:k=i
   .subst r;obtain⟨rfl,l⟩:=self f;rw[l]at vk;cases vk;rw[d]at b;exact ap tk a O j t o c p b
   .obtain⟨w,y⟩:=sx f r;rw[d]at b;rw[y]at vk;exact R.ap j k t u a hjk c w p tk b vk
def vA.setIm(R:vA G F σ ρ H0 H)(i:Nat)(h:cb G H0 d v):vA G F (σ.set i (Z v)) (ρ.set i (.z d)) H0 H:=R.set ⟨v,O,h⟩ λz=>by cases z
theorem vA.setLs(R:vA G F σ ρ H0 H)(i:Nat)(o:H p=Z (.bt b))(l:H0 p=J)(m:F.B p=J)(c:ri σ ρ p)(h:uS G H0 d b):vA G F (σ.set i (Z (.ref p))) (ρ.set i (.O d)) H0 H:=
 R.set ⟨p,b,O,o,l,m,h⟩ λ_ a e j t _ f q=>by cases e;exact c j t f q
def vA.mut(R:vA G F σ ρ H0 H)(hi:ρ[i]?=Z s)(so:s.jj=γ)(ha:(σ[i]?).join=Z (.ref a))(ok:∀H',H' a=Z o->Ka G F H0 H' (Z (.ref a)) c)
  (M:c.jj=γ):vA G F σ (ρ.set i c) H0 (fl H a o):=by
 obtain⟨Q,u,d,S,f,l⟩:=(R.sl i s hi).at so;rw[ha]at d;cases d;exact {
  sub:=λb w e=>by rw[vt (λz=>by rw[z,f]at e;cases e)];exact R.sub _ _ e
  g0:=R.g0
  keep:=λb w e n=>by
   have C:b≠a:=λz=>by
    subst z;rcases l with q|q
    .rw[q]at e;cases e
    .exact n q
   rw[vt C];exact R.keep b w e n
  fr:=R.fr
  am:=λb hb=>by
   by_cases z:b=a
   .subst z;exact⟨o,ve⟩
   .rw[vt z];exact R.am b hb
  len:=by rw[eJ];exact R.len
  sl:=λj t e=>by
   rw[b0]at e;by_cases h:i=j
   .subst h;rw[aj O]at e;split at e
    .cases e;rw[ha];exact ok _ ve
    .cases e
   .rw[ao h]at e;refine(R.sl j t e).i1 (vm.refl _) (λb w z to q=>?_) λb w _ _ _ q=>q;rw[vt (λy=>by subst y;exact R.ap j i t s b (λy=>h y.symm) e hi to so z ha)];exact q
  ap:=λj k t u b hjk p r N tk P vk=>by
   have sx:∀{m:Nat} {x:Sl},(ρ.set i c)[m]?=Z x->∃y,ρ[m]?=Z y/\(x.jj=γ->y.jj=γ):=λ{m x} e=>by
    rw[b0]at e;by_cases h:i=m
    .subst h;exact⟨s,hi,λ_=>so⟩
    .rw[ao h]at e;exact⟨x,e,λq=>q⟩
   obtain⟨y,A,E⟩:=sx p;obtain⟨z,B,I⟩:=sx r;exact R.ap j k y z b hjk A B (E N) (I tk) P vk }
end
abbrev FE:=aS->Option (D×aS)
abbrev FT:=aS->Option (Bool×aS)
abbrev FA:=aS->Option (bj×aS)
def tF(G:Bg)(f:FE):TE:=λi H Q=>∃F h e d b,vA G F i h e H/\f h=Z (d,b)/\∀v a c,vm e a->vA G F i b a c->cb G a d v->Q v c
def pa(G:Bg)(f:FT):TT:=λi H Q=>∃F h e d b,vA G F i h e H/\f h=Z (d,b)/\∀a c,vm e a->vA G F i b a c->Q d c
def vf(G:Bg)(f:FA):TA:=λj H Q=>∃F i d e b,vA G F j i d H/\f i=Z (e,b)/\∀h a c,vm d a->vA G F j b a c->uS G a e h->Q h c
def z0(G:Bg)(f:FA):TE:=λd H Q=>∃F j e h b,vA G F d j e H/\f j=Z (h,b)/\∀p i a c,vm e a->vA G F d b a c->c p=Z (.bt i)->a p=J->F.B p=J->ri d b p->uS G a h i->Q (.ref p) c
def PE.en(h:PE X e t)(w:∀b H Q,t' b H Q->t b H Q):PE X e t':=λa s b H Q I c=>h a s b H Q I (w _ _ _ c)
def PT.en(h:PT X e t)(w:∀b H Q,t' b H Q->t b H Q):PT X e t':=λa s b H Q I c=>h a s b H Q I (w _ _ _ c)
def PW.en(h:PW X e t)(w:∀b H Q,t' b H Q->t b H Q):PW X e t':=λd a s b H Q I c=>h d a s b H Q I (w _ _ _ c)
def PA.en(h:PA X e t)(w:∀b H Q,t' b H Q->t b H Q):PA X e t':=λpos a s b H Q I c=>h pos a s b H Q I (w _ _ _ c)
noncomputable def cC(d:D):FE:=λa=>Z (d,a)
noncomputable def cV(i:Nat):FE:=λa=>match a[i]? with
 |some (.z d)=>Z (d,a)
 |_=>J
noncomputable def c1(g:D->Option D) (f:FE):FE:=λb=>match f b with
 |some (d,a)=>match g d with
  |some x=>Z (x,a)
  |none=>J
 |none=>J
noncomputable def c2(g:D->D->Option D) (f c:FE):FE:=λd=>match f d with
 |some (x,a)=>match c a with
  |some (y,b)=>match g x y with
   |some z=>Z (z,b)
   |none=>J
  |none=>J
 |none=>J
def E6(h:c1 g f c=Z (z,b)):∃d,f c=Z (d,b)/\g d=Z z:=by
 unfold c1 at h;cases e:f c with
 |none=>rw[e]at h;cases h
 |some p=>
  obtain⟨d,i⟩:=p;rw[e]at h;cases a:g d with
  |none=>simp only[a]at h;cases h
  |some x=>simp only[a]at h;cases h;exact⟨d,O,a⟩
def E7(h:c2 g f i j=Z (z,d)):∃x y a,f j=Z (x,a)/\i a=Z (y,d)/\g x y=Z z:=by
 unfold c2 at h;cases e:f j with
 |none=>rw[e]at h;cases h
 |some p=>
  obtain⟨x,a⟩:=p;simp only[e]at h;cases b:i a with
  |none=>simp only[b]at h;cases h
  |some q=>
   obtain⟨y,l⟩:=q;simp only[b]at h;cases c:g x y with
   |none=>simp only[c]at h;cases h
   |some w=>simp only[c]at h;cases h;exact⟨x,y,a,O,b,c⟩
section
variable{X:Cx}{G:Bg}
def Zx{i j pos}:PE X (.Constant (.int i) j pos) (tF G (cC (.int i))):=PE.en LF λf H Q h=>by obtain⟨F,c,b,d,a,R,e,k⟩:=h;cases e;exact k _ _ _ (vm.refl _) R (xy i)
def ac9{i j pos}:PE X (.Constant (.bool i) j pos) (tF G (cC (.I i))):=PE.en acC λf H Q h=>by obtain⟨F,c,b,d,a,R,e,k⟩:=h;cases e;exact k _ _ _ (vm.refl _) R (xZ i)
def Zy{i j pos}:PE X (.Constant (.str i) j pos) (tF G (cC (.str i))):=PE.en YQ λf H Q h=>by obtain⟨F,c,b,d,a,R,e,k⟩:=h;cases e;exact k _ _ _ (vm.refl _) R (zJ i)
def Zz{j pos}:PE X (.Constant .none j pos) (tF G (cC .E)):=PE.en YO λf H Q h=>by obtain⟨F,c,b,d,a,R,e,k⟩:=h;cases e;exact k _ _ _ (vm.refl _) R A0
def Wo(h:cV i b=Z (d,a)):b[i]?=Z (.z d)/\a=b:=by
 unfold cV at h;split at h
 .rename_i e;cases h;exact⟨e,O⟩
 .cases h
def zc{a:Type}{o:Option (Option a)}{v:a}(h:o.join=Z v):o=Z (Z v):=by
 cases o with
 |none=>cases h
 |some u=>cases u with
  |none=>cases h
  |some w=>cases h;rfl
def OA(h:PE X e (BY i)):PE X e (tF G (cV i)):=PE.en h λo H Q f=>by obtain⟨F,m,l,d,j,R,e,k⟩:=f;obtain⟨a,rfl⟩:=Wo e;obtain⟨v,b,c⟩:=R.sl i _ a;exact⟨v,zc b,k _ _ _ (vm.refl _) R c⟩
def Wp(h:PE X e (tC v))(r:∀H,cb G H d v):PE X e (tF G (cC d)):=PE.en h λj H Q a=>by obtain⟨F,i,c,f,b,R,e,k⟩:=a;cases e;exact k _ _ _ (vm.refl _) R (r _)
def l?(G:Bg)(r:R2)(g:D->D->Option D):Prop:=∀x y z b H v u (Q:VK),g x y=Z z->vm b H->cb G b x v->cb G b y u->(∀w,(∀a,vm b a->cb G a z w)->Q w H)->r v u H Q
def PB(C:l? G r g):∀h H Q,tF G (c2 g f A) h H Q->tOp r (tF G f) (tF G A) h H Q:=λh H Q B=>by obtain⟨F,P,l,d,c,R,e,k⟩:=B;obtain⟨x,y,b,q,t,z⟩:=E7 e;refine⟨F,P,l,x,b,R,q,λv m o N p I=>⟨F,b,m,y,c,p,t,λu i a j R2 M=>?_⟩⟩;exact C x y d i a v u Q z R2.sub (cb.mono j _ _ I) M λw E=>k w i a (N.t j) R2 (E _ (vm.refl _))
def ada(i:j? X (cJ j) r)(h:l? G r g)(d:PE X a (tF G f))(e:PE X b (tF G c)):PE X (.BinOp a j b pos) (tF G (c2 g f c)):=PE.en (Pl i d e) (PB h)
def ZC(l:j? X (bw c) r)(j:l? G r g)(e:PE X a (tF G f))(h:PE X b (tF G d))(i:f7 c b=δ):PE X (.Compare a [c] [b] pos) (tF G (c2 g f d)):=PE.en (V4 l e h i) (PB j)
def adb(i:IxR X r)(h:l? G r g)(d:PE X a (tF G f))(e:PE X b (tF G c))(j:Pw b):PE X (.Subscript a b pos) (tF G (c2 g f c)):=PE.en (Yd i d e j) (PB h)
def cT(f:FE):FT:=λc=>match f c with
 |some (.I b,a)=>Z (b,a)
 |_=>J
def PD(h:cT f c=Z (b,a)):f c=Z (.I b,a):=by
 unfold cT at h;split at h
 .rename_i e;cases h;exact e
 .cases h
def PF:∀b H Q,pa G (cT f) b H Q->Sv (tF G f) b H Q:=λb H Q j=>by obtain⟨F,l,c,d,a,R,e,k⟩:=j;refine⟨F,l,c,_,a,R,PD e,λv h m s i r=>?_⟩;unfold cb at r;exact⟨d,r,k _ _ s i⟩
def Wq(u:j? X (bw h) r)(t:l? G r g)(m:PE X a (tF G f))(o:PE X b (tF G l))(q:f7 h b=δ):
  PT X (.Compare a [h] [b] pos) (pa G (cT (c2 g f l))):=PT.en (V5 u m o q) λi H Q p=>by
 obtain⟨F,w,j,d,c,R,e,k⟩:=PF i H Q p;exact PB t i H _ ⟨F,w,j,d,c,R,e,k⟩
def Wr(h:PE X e (tF G f))(j:∀whole,isTrue e X.b1 whole=(do let v<-whole;standAt e.pos;holding [v] (truthy v)):=by intro _;rfl):PT X e (pa G (cT f)):=PT.en (YR h j) λp H Q l=>by obtain⟨F,m,b,d,a,R,e,k⟩:=l;refine⟨F,m,b,_,a,R,PD e,λv c o s i r=>?_⟩;unfold cb at r;exact⟨d,r,k _ _ s i⟩
def wt(f:FT):FT:=λc=>match f c with
 |some (b,a)=>Z (!b,a)
 |none=>J
def xl(f g:FT):FT:=λb=>match f b with
 |some (γ,a)=>g a
 |r=>r
def xM(f g:FT):FT:=λb=>match f b with
 |some (δ,a)=>g a
 |r=>r
def Ws(h:PT X a (pa G f)):PT X (.UnaryOp .Not a pos) (pa G (wt f)):=PT.en (YU h) λu H Q o=>by
 obtain⟨F,i,j,d,q,R,e,k⟩:=o;unfold wt at e;cases c:f i with
 |none=>simp only[c]at e;cases e
 |some p=>obtain⟨b,r⟩:=p;simp only[c]at e;cases e;exact⟨F,i,j,b,_,R,c,λl t s m=>k _ _ s m⟩
def ZD:∀m H Q,pa G (xl f g) m H Q->tAnd (pa G f) (pa G g) m H Q:=λm H Q t=>by
 obtain⟨F,j,o,d,l,R,e,k⟩:=t;unfold xl at e;cases c:f j with
 |none=>simp only[c]at e;cases e
 |some p=>
  obtain⟨b,h⟩:=p;cases b with
  |true=>simp only[c]at e;exact⟨F,j,o,γ,h,R,c,λa q s i=>LW ⟨F,h,a,d,l,i,e,λw r u R2=>k _ _ (s.t u) R2⟩⟩
  |false=>simp only[c]at e;cases e;exact⟨F,j,o,δ,_,R,c,λa q s i=>LV (k _ _ s i)⟩
def ade:∀m H Q,pa G (xM f g) m H Q->tOr (pa G f) (pa G g) m H Q:=λm H Q t=>by
 obtain⟨F,j,o,d,l,R,e,k⟩:=t;unfold xM at e;cases c:f j with
 |none=>simp only[c]at e;cases e
 |some p=>
  obtain⟨b,h⟩:=p;cases b with
  |false=>simp only[c]at e;exact⟨F,j,o,δ,h,R,c,λa q s i=>LV ⟨F,h,a,d,l,i,e,λw r u R2=>k _ _ (s.t u) R2⟩⟩
  |true=>simp only[c]at e;cases e;exact⟨F,j,o,γ,_,R,c,λa q s i=>LW (k _ _ s i)⟩
def SZ(h:PT X a (pa G f)):PW X (.BoolOp .And [a] pos) (pa G f):=VW h
def Wt(h:PT X a (pa G f)):PW X (.BoolOp .Or [a] pos) (pa G f):=YS h
def Wu{ey:List Expr}(c:PT X a (pa G f))(d:PW X (.BoolOp .And (b::ey) pos) (pa G g)):PW X (.BoolOp .And (a::b::ey) pos) (pa G (xl f g)):=PW.en (YT c d) ZD
def S0{ey:List Expr}(c:PT X a (pa G f))(d:PW X (.BoolOp .Or (b::ey) pos) (pa G g)):PW X (.BoolOp .Or (a::b::ey) pos) (pa G (xM f g)):=PW.en (acE c d) ade
def wa(f g:FE):FE:=λb=>match f b with
 |some (.I γ,a)=>g a
 |some (.I δ,a)=>Z (.I δ,a)
 |_=>J
def S'(f g:FE):FE:=λb=>match f b with
 |some (.I δ,a)=>g a
 |some (.I γ,a)=>Z (.I γ,a)
 |_=>J
def D9(f:FE):FE:=λc=>match f c with
 |some (.I b,a)=>Z (.I !b,a)
 |_=>J
def y?(c:FT)(f g:FE):FE:=λb=>match c b with
 |some (γ,a)=>f a
 |some (δ,a)=>g a
 |none=>J
def ZJ{b}(h:PE X a (tF G f)):PE X (.BoolOp b [a] pos) (tF G f):=YV h
def M8{f:FE}{ρ:aS}:(∃a,f ρ=Z (.I γ,a))\/(∃a,f ρ=Z (.I δ,a))\/(∀b a,f ρ≠Z (.I b,a)):=by
 by_cases c:∃a,f ρ=Z (.I γ,a)
 .exact .inl c
 by_cases d:∃a,f ρ=Z (.I δ,a)
 .exact .inr (.inl d)
 refine .inr (.inr λb a z=>?_);cases b with
 |true=>exact c ⟨a,z⟩
 |false=>exact d ⟨a,z⟩
def Rf(h:∀b a,f ρ≠Z (.I b,a)):wa f g ρ=J:=by
 unfold wa;split
 .rename_i e;exact aq e (h _ _)
 .rename_i e;exact aq e (h _ _)
 .rfl
def S4(h:∀b a,f ρ≠Z (.I b,a)):S' f g ρ=J:=by
 unfold S';split
 .rename_i e;exact aq e (h _ _)
 .rename_i e;exact aq e (h _ _)
 .rfl
def ZL{ey:List Expr}(w:PE X a (tF G f))(x:PE X (.BoolOp .And (b::ey) pos) (tF G g)):PE X (.BoolOp .And (a::b::ey) pos) (tF G (wa f g)):=PE.en (YW w x) λC H Q y=>by
 obtain⟨F,j,p,d,i,R,e,k⟩:=y;rcases M8 (f:=f) (ρ:=j)with ⟨c,h⟩|⟨c,h⟩|h
 .have o:g c=Z (d,i):=by unfold wa at e;simp only[h]at e;exact e
  refine⟨F,j,p,_,c,R,h,λv q l s m r=>?_⟩;unfold cb at r;refine⟨γ,r,?_⟩;exact LW ⟨F,c,q,d,i,m,o,λv B u A R2 z=>k _ _ _ (s.t A) R2 z⟩
 .have o:Z (D.I δ,c)=Z (d,i):=by unfold wa at e;simp only[h]at e;exact e
  cases o;refine⟨F,j,p,_,_,R,h,λv q l s m r=>?_⟩;have t:=r;unfold cb at t;refine⟨δ,t,?_⟩;exact LV (k _ _ _ s m (xZ δ))
 .rw[Rf h]at e;cases e
def adf{ey:List Expr}(u:PE X a (tF G f))(w:PE X (.BoolOp .Or (b::ey) pos) (tF G g)):PE X (.BoolOp .Or (a::b::ey) pos) (tF G (S' f g)):=PE.en (acH u w) λB H Q x=>by
 obtain⟨F,j,p,d,i,R,e,k⟩:=x;rcases M8 (f:=f) (ρ:=j)with ⟨c,h⟩|⟨c,h⟩|h
 .have o:Z (D.I γ,c)=Z (d,i):=by unfold S' at e;simp only[h]at e;exact e
  cases o;refine⟨F,j,p,_,_,R,h,λv q l s m r=>?_⟩;unfold cb at r;refine⟨γ,r,?_⟩;exact LW (k _ _ _ s m (xZ γ))
 .have o:g c=Z (d,i):=by unfold S' at e;simp only[h]at e;exact e
  refine⟨F,j,p,_,c,R,h,λv q l s m r=>?_⟩;unfold cb at r;refine⟨δ,r,?_⟩;exact LV ⟨F,c,q,d,i,m,o,λv A t z R2 y=>k _ _ _ (s.t z) R2 y⟩
 .rw[S4 h]at e;cases e
def ZM(l:PE X a (tF G f)):PE X (.UnaryOp .Not a pos) (tF G (D9 f)):=PE.en (YX l) λu H Q m=>by
 obtain⟨F,o,c,d,p,R,e,k⟩:=m;unfold D9 at e;split at e
 .rename_i b q j;cases e;refine⟨F,o,c,_,_,R,j,λv t h s i r=>?_⟩;unfold cb at r;exact⟨b,r,k _ _ _ s i (xZ _)⟩
 .cases e
def adg(B:PT X c (pa G h))(z:PE X a (tF G f))(A:PE X b (tF G g)):PE X (.IfExp c a b pos) (tF G (y? h f g)):=PE.en (Sj B z A) λE H Q C=>by
 obtain⟨F,u,w,d,j,R,e,k⟩:=C;unfold y? at e;cases l:h u with
 |none=>simp only[l]at e;cases e
 |some p=>
  obtain⟨b,i⟩:=p;refine⟨F,u,w,b,i,R,l,λr x s t=>?_⟩;cases b with
  |true=>simp only[l]at e;exact LW ⟨F,i,r,d,j,t,e,λv y m q R2 o=>k _ _ _ (s.t q) R2 o⟩
  |false=>simp only[l]at e;exact LV ⟨F,i,r,d,j,t,e,λv y m q R2 o=>k _ _ _ (s.t q) R2 o⟩
noncomputable def vC:FA:=λa=>Z ([],a)
noncomputable def ax(f:FE) (g:FA):FA:=λe=>match f e with
 |some (d,a)=>match g a with
  |some (c,b)=>Z (d::c,b)
  |none=>J
 |none=>J
def OB(h:ax f g i=Z (j,c)):∃d r a,f i=Z (d,a)/\g a=Z (r,c)/\j=d::r:=by
 unfold ax at h;cases e:f i with
 |none=>rw[e]at h;cases h
 |some p=>
  obtain⟨x,a⟩:=p;simp only[e]at h;cases b:g a with
  |none=>simp only[b]at h;cases h
  |some q=>obtain⟨y,l⟩:=q;simp only[b]at h;cases h;exact⟨x,y,a,O,b,O⟩
def yh:PA X [] (vf G vC):=PA.en zW λh H Q a=>by obtain⟨F,f,c,d,b,R,e,k⟩:=a;cases e;exact k _ _ _ (vm.refl _) R vN
def wU(t:PE X e (tF G f))(w:PA X b (vf G g))(y:aA (e::b) X.b1=(δ,eval e X.b1)::aA b X.b1:=by rfl):PA X (e::b) (vf G (ax f g)):=PA.en (xj t w y) λE H Q u=>by obtain⟨F,A,i,d,c,R,e,k⟩:=u;obtain⟨x,r,a,p,q,rfl⟩:=OB e;exact⟨F,A,i,x,a,R,p,λv j l s o z=>⟨F,a,j,r,c,o,q,λC B m h R2 rs=>k _ _ _ (s.t h) R2 (vU (cb.mono h _ _ z) rs)⟩⟩
def vE(g:FA):FE:=λc=>match g c with
 |some (b,a)=>if b.length<=1000 then Z (.d? b,a)else J
 |none=>J
def vx(g:FA):FA:=λc=>match g c with
 |some (b,a)=>if b.length<=1000 then Z (b,a)else J
 |none=>J
def ZP{q}(h:PA X l (vf G g)):PE X (.Tuple l q pos) (tF G (vE g)):=PE.en (SC h) λy H Q m=>by
 obtain⟨F,f,i,d,r,R,e,k⟩:=m;unfold vE at e;cases b:g f with
 |none=>simp only[b]at e;cases e
 |some p=>
  obtain⟨w,t⟩:=p;simp only[b]at e;split at e
  .rename_i o;cases e;refine⟨F,f,i,_,_,R,b,λx u j s a rs=>⟨by rw[<-uX rs];exact yd o,λp c=>?_⟩⟩;exact k _ _ _ (s.t (vy (a.f3 c) _)) (a.O' c _) (E5 (ij.of ve) (uS.mono (vy (a.f3 c) _) _ _ rs))
  .cases e
def Wv(h:PA X l (vf G g)):PE X (.List l pos) (z0 G (vx g)):=PE.en (SD h) λx H Q m=>by
 obtain⟨F,f,i,d,q,R,e,k⟩:=m;unfold vx at e;cases c:g f with
 |none=>simp only[c]at e;cases e
 |some p=>
  obtain⟨u,r⟩:=p;simp only[c]at e;split at e
  .rename_i o;cases e;refine⟨F,f,i,_,_,R,c,λw t j s a rs=>⟨by rw[<-uX rs];exact yd o,λp b=>?_⟩⟩;exact k _ _ _ _ s (a.l' b _) ve (a.f3 b) (a.i0 b) (a.apart b) rs
  .cases e
def cL(g:FA):FE:=λc=>match g c with
 |some (b,a)=>Z (.bt b,a)
 |none=>J
def Ww(h:cL g c=Z (d,b)):∃a,g c=Z (a,b)/\d=.bt a:=by
 unfold cL at h;cases e:g c with
 |none=>simp only[e]at h;cases h
 |some p=>obtain⟨a,f⟩:=p;simp only[e]at h;cases h;exact⟨a,O,O⟩
def tN_F:∀c H Q,tF G (cL g) c H Q->z0 G g c H Q:=λc H Q q=>by obtain⟨F,t,f,d,b,R,e,k⟩:=q;obtain⟨l,m,rfl⟩:=Ww e;refine⟨F,t,f,l,b,R,m,λp w u h s i r a o j rs=>?_⟩;exact k _ _ _ (s.t (vy a _)) (i.rm r a o j) (B5 ve (uS.mono (vy a _) _ _ rs))
def ZQ(h:PE X e (z0 G g)):PE X e (tF G (cL g)):=PE.en h tN_F
end
inductive tz where
 |nx (ρ:aS)|bk (ρ:aS)|ct (ρ:aS)
 |rt (d:D) (ρ:aS)
 |X (ds:bj) (ρ:aS)
abbrev FS:=aS->Option tz
def PH(G:Bg)(F:Fr)(f:Hp)(E:ν):tz->Prop
 |.nx c=>∀b a e,vm f a->vA G F b c a e->E.nx b e
 |.bk c=>∀b a e,vm f a->vA G F b c a e->E.bk b e
 |.ct c=>∀b a e,vm f a->vA G F b c a e->E.ct b e
 |.rt d c=>∀v b a e,vm f a->vA G F b c a e->cb G a d v->E.rt v e
 |.X i c=>∀p h b a e,vm f a->vA G F b c a e->e p=Z (.bt h)->a p=J->F.B p=J->ri b c p->uS G a i h->E.rt (.ref p) e
def mu(G:Bg)(f:FS):TS:=λE c H=>∃F b a o,vA G F c b a H/\f b=Z o/\PH G F a E o/\(∀p,E.rt p=E.rt p)
def PH.J'(h:PH G F i E o)(s:vm i j):PH G F j E o:=by
 cases o with
 |nx f=>exact λb a c e R=>h b a c (s.t e) R
 |bk f=>exact λb a c e R=>h b a c (s.t e) R
 |ct f=>exact λb a c e R=>h b a c (s.t e) R
 |rt d f=>exact λv b a c e R=>h v b a c (s.t e) R
 |X m f=>exact λp l b a c e R=>h p l b a c (s.t e) R
def PS.en(h:PS X e t)(w:∀E b H,t' E b H->t E b H):PS X e t':=λa s b H D I c=>h a s b H D I (w _ _ _ c)
def qi.en(h:qi X e t)(w:∀E b H,t' E b H->t E b H):qi X e t':=λa s b H D I c=>h a s b H D I (w _ _ _ c)
def u4:FS:=λa=>Z (.nx a)
noncomputable def uQ(f g:FS):FS:=λb=>match f b with
 |some (.nx a)=>g a
 |r=>r
section
variable{X:Cx}{G:Bg}
def ZR(h:mu G u4 E a H):E.nx a H:=by obtain⟨F,c,b,o,R,e,k,_⟩:=h;cases e;exact k _ _ _ (vm.refl _) R
def Wx:qi X [] (mu G u4):=qi.en VX λE a H h=>ZR h
def S5{st:Stmt}{ey:List Stmt}(p:PS X st (mu G f))(q:qi X ey (mu G g)):qi X (st::ey) (mu G (uQ f g)):=qi.en (IA p q) λE w H h=>by
 obtain⟨F,i,j,o,R,e,k,c⟩:=h;unfold uQ at e;cases a:f i with
 |none=>simp only[a]at e;cases e
 |some r=>
  cases r with
  |nx b=>simp only[a]at e;exact⟨F,i,j,_,R,a,λt l u s m=>⟨F,b,l,o,m,e,k.J' s,c⟩,c⟩
  |bk b=>simp only[a]at e;cases e;exact⟨F,i,j,_,R,a,k,c⟩
  |ct b=>simp only[a]at e;cases e;exact⟨F,i,j,_,R,a,k,c⟩
  |rt d b=>simp only[a]at e;cases e;exact⟨F,i,j,_,R,a,k,c⟩
  |X d b=>simp only[a]at e;cases e;exact⟨F,i,j,_,R,a,k,c⟩
def WA{st:Stmt}(a:PS X st (mu G f)):qi X [st] (mu G f):=LG a
noncomputable def uV(f:FE):FS:=λb=>match f b with
 |some (d,a)=>Z (.rt d a)
 |none=>J
noncomputable def wD(f:FA):FS:=λb=>match f b with
 |some (d,a)=>Z (.X d a)
 |none=>J
def vH{b:Type}{f:aS->Option (b×aS)}{ρ:aS}:f ρ=J\/∃d a,f ρ=Z (d,a):=by
 cases e:f ρ with
 |none=>exact .inl O
 |some p=>exact .inr ⟨p.1,p.2,O⟩
def WB(h:PE X e (tF G f)):PS X (.Return (Z e) pos) (mu G (uV f)):=PS.en (Of h) λE t H m=>by
 obtain⟨F,b,i,o,R,e,k,q⟩:=m;unfold uV at e;rcases vH (f:=f) (ρ:=b)with a|⟨d,c,a⟩<;>simp only[a]at e
 .cases e
 .cases e;exact⟨F,b,i,d,c,R,a,λv j p s l r=>k _ _ _ _ s l r⟩
def S6(h:PE X e (z0 G f)):PS X (.Return (Z e) pos) (mu G (wD f)):=PS.en (Of h) λE A H w=>by
 obtain⟨F,b,i,o,R,e,k,y⟩:=w;unfold wD at e;rcases vH (f:=f) (ρ:=b)with a|⟨d,c,a⟩<;>simp only[a]at e
 .cases e
 .cases e;exact⟨F,b,i,d,c,R,a,λp z j x s l m q r t u=>k _ _ _ _ _ s l m q r t u⟩
noncomputable def vJ(f:FE):FS:=λb=>match f b with
 |some (_,a)=>Z (.nx a)
 |none=>J
def S7{pos:Pos}(h:PE X e (tF G f))(p:dG e J pos.line X.b1=pure δ:=by rfl):PS X (.Expr e pos) (mu G (vJ f)):=PS.en (Pi h p) λE u H m=>by
 obtain⟨F,b,i,o,R,e,k,t⟩:=m;unfold vJ at e;rcases vH (f:=f) (ρ:=b)with a|⟨d,c,a⟩<;>simp only[a]at e
 .cases e
 .cases e;exact⟨F,b,i,d,c,R,a,λv j q s l r=>k _ _ _ s l⟩
noncomputable def fm(c:FT) (f g:FS):FS:=λb=>match c b with
 |some (γ,a)=>f a
 |some (δ,a)=>g a
 |none=>J
def ZU(w:PT X c (pa G h))(t:qi X a (mu G f))(u:qi X b (mu G g)):PS X (.If c a b pos) (mu G (fm h f g)):=PS.en (acK w t u) λE z H x=>by
 obtain⟨F,m,r,o,R,e,k,q⟩:=x;unfold fm at e;rcases vH (f:=h) (ρ:=m)with l|⟨d,i,l⟩
 .simp only[l]at e;cases e
 .refine⟨F,m,r,d,i,R,l,λj y s p=>?_⟩;cases d with
  |true=>simp only[l]at e;exact LW ⟨F,i,j,o,p,e,k.J' s,q⟩
  |false=>simp only[l]at e;exact LV ⟨F,i,j,o,p,e,k.J' s,q⟩
abbrev FG:=D->aS->Option aS
def tFG(G:Bg)(n:Nat)(g:FG):TG:=λv f H Q=>∃F e c d b,vA G F f e c H/\cb G c d v/\g d e=Z b/\∀a,a.drop n=f.drop n->vA G F a b c H->Q a H
def Rg(G:Bg)(n:Nat)(g:bj->aS->Option aS):TGs:=λh f H Q=>∃F e c d b,vA G F f e c H/\uS G c d h/\g d e=Z b/\∀a,a.drop n=f.drop n->vA G F a b c H->Q a H
def PG.en(h:PG X e t)(w:∀v b H Q,t' v b H Q->t v b H Q):PG X e t':=λa s b H x u Q I r c=>h a s b H x u Q I r (w _ _ _ _ c)
def R'.en(h:R' X e t)(w:∀v b H Q,t' v b H Q->t v b H Q):R' X e t':=λa s b H x u Q I r c=>h a s b H x u Q I r (w _ _ _ _ c)
def gN(i:Nat):FG:=λd a=>Z (a.set i (.z d))
def M9{a:Type}{l:List a}{i n:Nat}{x:a}(h:i<n):(l.set i x).drop n=l.drop n:=by apply la;intro j;rw[fj,fj,b0,ao (by omega)]
def S8(n:Nat)(h:PG X c (AY i))(b:i<n):PG X c (tFG G n (gN i)):=PG.en h λv m H Q a=>by obtain⟨F,l,j,d,f,R,r,e,k⟩:=a;cases e;exact k _ (M9 b) (R.setIm i r)
def KJ:bj->aS->Option aS:=λa b=>match a with
 |[]=>Z b
 |_=>J
def yM(g:FG)(c:bj->aS->Option aS):bj->aS->Option aS:=λb e=>match b with
 |d::r=>match g d e with
  |some a=>c r a
  |none=>J
 |[]=>J
def WC(h:R' X [] gNil):R' X [] (Rg G n KJ):=R'.en h λv j H Q b=>by
 obtain⟨F,i,f,a,c,R,r,e,k⟩:=b;cases a with
 |nil=>cases e;unfold uS at r;exact⟨r,k _ O R⟩
 |cons d a=>cases e
def S9(h:R' X (e::p) (X7 (tFG G n g) (Rg G n q))):R' X (e::p) (Rg G n (yM g q)):=R'.en h λv B H Q t=>by
 obtain⟨F,l,j,c,i,R,r,e,k⟩:=t;cases c with
 |nil=>cases e
 |cons d c=>
  unfold uS at r;obtain⟨z,x,rfl,u,w⟩:=r;unfold yM at e;cases f:g d l with
  |none=>simp only[f]at e;cases e
  |some a=>simp only[f]at e;exact⟨z,x,O,F,l,j,d,a,R,u,f,λA s o=>⟨F,a,j,c,i,o,w,e,λm y b=>k _ (y.t s) b⟩⟩
def gT(b:bj->aS->Option aS)(n:Nat):FG:=λd c=>match d with
 |.d? a=>if a.length=n then b a c else J
 |_=>J
def WE(h:PG X (.Tuple j k pos) (YY G.K m (Rg G n l))):PG X (.Tuple j k pos) (tFG G n (gT l m)):=PG.en h λv w H Q p=>by
 obtain⟨F,u,f,d,b,R,r,e,k⟩:=p;cases d with
 |d? i=>
  unfold gT at e;simp only at e;split at e
  .rename_i q;unfold cb at r;obtain⟨a,t,rfl,o,c⟩:=r;exact⟨a,t,O,ij.mono R.sub o,by rw[<-uX c];exact q,F,u,f,i,b,R,c,e,k⟩
  .cases e
 |_=>cases e
def Kb(f:FE)(g:FG):FS:=λc=>match f c with
 |some (d,a)=>match g d a with
  |some b=>Z (.nx b)
  |none=>J
 |none=>J
def WG{st:Stmt}(h:PS X st (Ex (tF G f) (tFG G n g))):PS X st (mu G (Kb f g)):=PS.en h λE x H q=>by
 obtain⟨F,j,m,o,R,e,k,w⟩:=q;unfold Kb at e;rcases vH (f:=f) (ρ:=j)with c|⟨d,a,c⟩<;>simp only[c]at e
 .cases e
 .cases i:g d a with
  |none=>simp only[i]at e;cases e
  |some l=>simp only[i]at e;cases e;exact⟨F,j,m,d,a,R,c,λv b u s p r=>⟨F,a,b,d,l,p,r,i,λt _ R2=>k _ _ _ s R2⟩⟩
def vd(i:Nat)(f:FE):FS:=λb=>match f b with
 |some (d,a)=>Z (.nx (a.set i (.z d)))
 |none=>J
def PJ{st:Stmt}(h:PS X st (Ex (tF G f) (AY i))):PS X st (mu G (vd i f)):=PS.en h λE u H p=>by
 obtain⟨F,b,j,o,R,e,k,t⟩:=p;unfold vd at e;rcases vH (f:=f) (ρ:=b)with a|⟨d,c,a⟩<;>simp only[a]at e
 .cases e
 .cases e;exact⟨F,b,j,d,c,R,a,λv l q s m r=>k _ _ _ s (m.setIm i r)⟩
def yz(i:Nat)(f:FA):FS:=λb=>match f b with
 |some (d,a)=>Z (.nx (a.set i (.O d)))
 |none=>J
def Na{st:Stmt}(h:PS X st (Ex (z0 G f) (AY i))):PS X st (mu G (yz i f)):=PS.en h λE B H x=>by
 obtain⟨F,b,j,o,R,e,k,z⟩:=x;unfold yz at e;rcases vH (f:=f) (ρ:=b)with a|⟨d,c,a⟩<;>simp only[a]at e
 .cases e
 .cases e;exact⟨F,b,j,d,c,R,a,λp A l y s m q r t u w=>k _ _ _ s (m.setLs i q r t u w)⟩
def D'(n:Nat)(a:bj):aS:=a.map Sl.z++bU (n - a.length) .un
def fc(b n:Nat)(f:FS):bj->Option D:=λa=>if a.length=b then match f (D' n a)with
 |some (.rt d _)=>Z d
 |some (.X a _)=>Z (.bt a)
 |some (.nx _)=>Z .E
 |_=>J
 else J
def xr(b n:Nat)(f:FS):bj->Option bj:=λa=>if a.length=b then match f (D' n a)with
 |some (.X a _)=>Z a
 |_=>J
 else J
def fy(G:Bg)(g:bj->Option D):Sp:=λh H Q _=>∃c f d,vm c H/\uS G c f h/\g f=Z d/\
 ∀v a e,vm c a->vm a e->vm H e->(∀b o,a b=Z o->c b=Z o\/H b=J)->cb G a d v->Q v e
def ub(G:Bg)(g:bj->Option bj):Sp:=λi H Q _=>∃e f d,vm e H/\uS G e f i/\g f=Z d/\
 ∀p h a c,vm e a->vm a c->vm H c->(∀b o,a b=Z o->e b=Z o\/H b=J)->H p=J->c p=Z (.bt h)->a p=J->uS G a d h->Q (.ref p) c
def Ik{n:Nat}{b:bj}{i:Nat}{s:Sl}(h:(D' n b)[i]?=Z s):s=.un\/∃d,b[i]?=Z d/\s=.z d:=by
 unfold D' at h;by_cases a:i<b.length
 .rw[fS (by simpa using a),bB,bh a]at h;cases h;exact .inr ⟨_,bh a,O⟩
 .rw[fR (by simpa using a),js]at h;split at h
  .cases h;exact .inl O
  .cases h
def BI{N:aE}{a:bL}{i:Nat}{v:V}(h:a[i]?=Z v):((L2.start N a)[i]?).join=Z v:=by unfold L2.start;have b:=(cg.1 h).1;rw[fS (by simpa using b),bB,h];rfl
def KL{N:aE}(s:vm H0 H)(r:uS G H0 ds vs)(p:vs.length<=N.length):vA G ⟨H0,H,[]⟩ (L2.start N vs) (D' N.length ds) H0 H where
 sub:=s
 g0:=vm.refl _
 keep:=λb o e _=>e
 fr:=λb o e=>.inl e
 am:=λa h=>by cases h
 len:=by unfold L2.start D';rw[aC,aC,ag,ag,cZ,cZ,uX r]
 sl:=λi t e=>by
  rcases Ik e with rfl|⟨d,c,rfl⟩
  .trivial
  .obtain⟨v,f,l⟩:=zN r c;exact⟨v,BI f,l⟩
 ap:=λi j t u a _ e _ m=>by rcases Ik e with rfl|⟨d,_,rfl⟩<;>cases m
def Nc(h:fc j n f b=Z d):b.length=j/\((∃a,f (D' n b)=Z (.rt d a))\/(∃c a,f (D' n b)=Z (.X c a)/\d=.bt c)\/∃a,f (D' n b)=Z (.nx a)/\d=.E):=by
 unfold fc at h;split at h
 .rename_i i;refine⟨i,?_⟩;split at h
  .rename_i e;cases h;exact .inl ⟨_,e⟩
  .rename_i e;cases h;exact .inr (.inl ⟨_,_,e,O⟩)
  .rename_i e;cases h;exact .inr (.inr ⟨_,e,O⟩)
  .cases h
 .cases h
def Nd(h:xr c n f a=Z d):a.length=c/\∃i,f (D' n a)=Z (.X d i):=by
 unfold xr at h;split at h
 .rename_i b;refine⟨b,?_⟩;split at h
  .rename_i e;cases h;exact⟨_,e⟩
  .cases h
 .cases h
end
def WH{N:aE}(hN:I<=N.length)(h:fy G (fc I N.length f) P H Q E):mu G f { nx:=λ_ c=>Q .E c,rt:=Q } (L2.start N P) H:=by
 obtain⟨l,S,d,s,r,e,k⟩:=h;obtain⟨C,A⟩:=Nc e;clear e;have R:=KL (N:=N) s r (by rw[<-uX r,C];exact hN);have fin:∀{j:St} {x:aS} {a c:Hp},vA G ⟨l,H,[]⟩ j x a c->vm H c/\vm a c/\∀b o,a b=Z o->l b=Z o\/H b=J:=λi=>⟨λb o e=>i.keep b o e (by simp),i.sub,i.fr⟩;rcases A with ⟨y,e⟩|⟨T,y,e,rfl⟩|⟨y,e,rfl⟩
 .refine⟨_,_,l,_,R,e,λv j a c u i M=>?_,λ_=>O⟩;obtain⟨m,q,t⟩:=fin i;exact k v a c u q m t M
 .refine⟨_,_,l,_,R,e,λp U j a c u i F w B z rs=>?_,λ_=>O⟩;have R2:=i.rm F w B z;obtain⟨m,q,t⟩:=fin R2;exact k _ _ c (u.t (vy w _)) q m t (B5 ve (uS.mono (vy w _) _ _ rs))
 .refine⟨_,_,l,_,R,e,λj a c u i=>?_,λ_=>O⟩;obtain⟨m,q,t⟩:=fin i;exact k _ a c u q m t A0
def WI{N:aE}(hN:u<=N.length)(h:ub G (xr u N.length f) x H Q E):mu G f { nx:=λ_ a=>Q .E a,rt:=Q } (L2.start N x) H:=by obtain⟨j,B,d,s,r,e,k⟩:=h;obtain⟨q,C,e⟩:=Nd e;have R:=KL (N:=N) s r (by rw[<-uX r,q];exact hN);refine⟨_,_,j,_,R,e,λp y z c a w i t l m A rs=>?_,λ_=>O⟩;exact k p y c a w i.sub (λb o e=>i.keep b o e (by simp)) i.fr m t l rs
def adi(c:∀a d,g a=Z d->a.length=f):∀b H Q E,fy G g b H Q E->b.length=f:=λb H Q E h=>by obtain⟨i,a,d,_,r,e,_⟩:=h;rw[<-uX r];exact c _ _ e
def adj(c:∀a d,g a=Z d->a.length=f):∀b H Q E,ub G g b H Q E->b.length=f:=λb H Q E h=>by obtain⟨i,a,d,_,r,e,_⟩:=h;rw[<-uX r];exact c _ _ e
def WJ:∀a d,fc b n f a=Z d->a.length=b:=λ_ _ h=>(Nc h).1
def WK:∀a d,xr b n f a=Z d->a.length=b:=λ_ _ h=>(Nd h).1
def Gh{c:Type}(g:bj->Option c)(a:FA):aS->Option (c×aS):=λf=>match a f with
 |some (e,b)=>match g e with
  |some d=>Z (d,b)
  |none=>J
 |none=>J
abbrev uO(g:bj->Option D)(a:FA):FE:=Gh g a
abbrev vM(g:bj->Option bj)(a:FA):FA:=Gh g a
def Ey{j:Type}{g:bj->Option j}{a:FA}{ρ c:aS}{d:j}(h:Gh g a ρ=Z (d,c)):∃b,a ρ=Z (b,c)/\g b=Z d:=by
 unfold Gh at h;rcases vH (f:=a) (ρ:=ρ)with e|⟨b,l,e⟩<;>simp only[e]at h
 .cases h
 .cases i:g b with
  |none=>simp only[i]at h;cases h
  |some x=>simp only[i]at h;cases h;exact⟨b,e,i⟩
section
variable{X:Cx}{G:Bg}
def WL(hd:∀H,uS G H dds dvs):∀h H Q,tF G (uO (λb=>g (b++dds)) a) h H Q->EZ (fy G g) dvs E (vf G a) h H Q:=λh H Q t=>by obtain⟨F,y,l,d,f,R,e,k⟩:=t;obtain⟨b,q,r⟩:=Ey e;refine⟨F,y,l,b,f,R,q,λz m o s i rs=>⟨m,b++dds,d,i.sub,xk rs (hd _),r,λv p c j w x fr u=>?_⟩⟩;exact k v p c (s.t j) (i.i1 x j w fr) u
def WM(hd:∀H,uS G H dds dvs):∀i H Q,z0 G (vM (λc=>g (c++dds)) a) i H Q->EZ (ub G g) dvs E (vf G a) i H Q:=λi H Q x=>by obtain⟨F,I,m,d,h,R,e,k⟩:=x;obtain⟨c,t,u⟩:=Ey e;refine⟨F,I,m,c,h,R,t,λM o q s b rs=>⟨o,c++dds,d,b.sub,xk rs (hd _),u,λp C r f l A B fr j y w z=>?_⟩⟩;exact k p C r f (s.t l) (b.i1 B l A fr) y w (b.i0 j) (b.apart j) z
end
section
variable{X:Cx}{G:Bg}
def WN(hd:∀H,uS G H dds dvs)(h:PE X e (EZ (fy G g) dvs E (vf G a))):PE X e (tF G (uO (λb=>g (b++dds)) a)):=PE.en h (WL hd)
def Ta(hd:∀H,uS G H dds dvs)(h:PE X e (EZ (ub G g) dvs E (vf G a))):PE X e (z0 G (vM (λb=>g (b++dds)) a)):=PE.en h (WM hd)
def Rh(h:PE X e (EZ (ub G g) [] E J5)):PE X e (z0 G (vM g vC)):=PE.en h λA H Q o=>by obtain⟨F,z,f,d,x,R,e,k⟩:=o;obtain⟨y,j,l⟩:=Ey e;cases j;exact⟨f,[],d,R.sub,vN,l,λp w i a c t u fr b q m r=>k p w i a c (R.i1 u c t fr) q m (R.i0 b) (R.apart b) r⟩
def Rj:aE->bj->Str->Option D
 |n::b,d::a,f=>if n=f then Z d else Rj b a f
 |_,_,_=>J
theorem KM:∀{h:aE} {b:bj} {a:bL} {f:Str} {d:D},uS G H b a->Rj h b f=Z d->∃v,(h.zip a).lookup f=Z v/\cb G H d v
 |[],b,a,f,d,r,e=>by simp[Rj]at e
 |n::h,[],a,f,d,r,e=>by simp[Rj]at e
 |n::h,p::b,a,f,d,r,e=>by
  unfold uS at r;obtain⟨v,q,rfl,l,m⟩:=r;unfold Rj at e;by_cases c:n=f
  .rw[aj c]at e;cases e;subst c;exact⟨v,by simp[dE],l⟩
  .rw[ao c]at e;obtain⟨w,i,j⟩:=KM m e;refine⟨w,?_,j⟩;have o:(f==n)=δ:=beq_eq_false_iff_ne.2 λz=>c z.symm;simp only[fo,dE,o];exact i
def uU(ok:Nat->Bool)(f:Str):D->Option D
 |.obj c b a=>if ok c=γ then Rj b a f else J
 |_=>J
def Tc(A:PE X e (tF G t))(j:∀c,ok c=γ->T1 X.K (G.ca c)/\Au X.K (G.ca c) f)(z:fJ e f X.b1 (eval e X.b1)=eval e X.b1:=by rfl):PE X (.Attribute e f pos) (tF G (c1 (uU ok f) t)):=PE.en (Zd A z) λU H Q B=>by
 obtain⟨F,I,m,d,h,R,e,k⟩:=B;obtain⟨x,q,b⟩:=E6 e;cases x with
 |obj c S N=>
  unfold uU at b;simp only at b;split at b
  .rename_i l;refine⟨F,I,m,_,h,R,q,λv M o s i r=>?_⟩;unfold cb at r;obtain⟨a,p,T,rfl,u,P,y⟩:=r;obtain⟨w,C,E⟩:=KM y b;exact⟨a,_,p,_,w,O,i.sub _ _ u,(j c l).1,(j c l).2,C,k _ _ _ s i E⟩
  .cases b
 |_=>cases b
def MOk(X:Cx)(C:Addr)(m:Str)(d:Sp)(dvs:bL)(E:XK):Prop:=∃(k:Nat) (f:Addr) (b:bV) (c:aE) (a:List ab),T1 X.K C/\Meth X.K C m f/\zr X.prog X.w X.K X.mg X.b? H? k f b c d/\xB k X.A/\m1 X.K b c a/\er dvs a/\rp H? X E
def vg(g:Nat->Option (bj->Option D))(m:Str)(f:FE)(a:FA):FE:=λo=>match f o with
 |some (.obj c i j,b)=>match g c with
  |some h=>if i.contains m=γ then J else match a b with
   |some (l,e)=>match h (.obj c i j::l)with
    |some d=>Z (d,e)
    |none=>J
   |none=>J
  |none=>J
 |_=>J
def IQ(h:vg g m f a ρ=Z (d,t)):
  ∃c e i b l j,f ρ=Z (.obj c e i,b)/\g c=Z l/\e.contains m=δ/\a b=Z (j,t)/\l (.obj c e i::j)=Z d:=by
 unfold vg at h;split at h
 .rename_i c e i b u;cases o:g c with
  |none=>simp only[o]at h;cases h
  |some l=>
   simp only[o]at h;cases p:e.contains m with
   |true=>simp only[p,if_true]at h;cases h
   |false=>
    simp only[p,eG,if_false]at h;rcases vH (f:=a) (ρ:=b)with q|⟨j,w,q⟩<;>simp only[q]at h
    .cases h
    .cases r:l (.obj c e i::j)with
     |none=>simp only[r]at h;cases h
     |some x=>simp only[r]at h;cases h;exact⟨c,e,i,b,l,j,u,o,p,q,r⟩
 .cases h
theorem EA:∀{a:aE} {b:bL},a.contains m=δ->(a.zip b).lookup m=J
 |[],b,h=>rfl
 |n::a,[],h=>rfl
 |n::a,x::b,h=>by rw[o8,kO]at h;simp only[fo,dE,h.1];exact EA h.2
def Td(T:Addr->Sp->Prop)(hT:∀C d,T C d->MOk X C m d dvs E)(he:PE X o ta)(W:PA X (e::i) t)
  (hst:aA (e::i) X.b1=(δ,eval e X.b1)::aA i X.b1:=by rfl) (hpl:(bD pos (aA i X.b1)).any (·.1)=δ:=by rfl)
  (w:eval (.Call (.Attribute o m apos) (e::i) [] pos) X.b1=(do
   let P<-eval o X.b1
   standAt apos.atName
   let (f,first)<-holding [P] (getMethod P m pl)
   callWith pos f first (bD pos (aA (e::i) X.b1)) (backToKw pos (dY [] X.b1))):=by rfl):
  PE X (.Call (.Attribute o m apos) (e::i) [] pos) (λj H Q=>ta j H λx p=>∃a C B fs d,x=.ref a/\p a=Z (.nr C B fs)/\T C d/\fs.lookup m=J/\t j p λvs y=>d (x::(vs++dvs)) y Q E):=by
 intro b s j H Q I h;refine p6 (pl:=pl) (f5 (he b s j H _ I h) λu s1 zz=>?_) w;obtain⟨x,p,z,rx,a,C,B,fs,d,U,S,w,l,q⟩:=zz;obtain⟨k,f,fd,ps,ds,c,M,F,hr,Y,hd,hx⟩:=hT C d w;subst U;obtain rfl:u=Value.ref a:=rx;refine IC z S c M l ?_;refine mG (first:=[.ref a]) (h₀:=X.b?) I.ok.G?.kin M.kp (f5 (W pos b s1 j p _ z q) λR s2 ⟨vs,y,A,r,q2⟩=>⟨A.rf,?_⟩) hst hpl;exact LJ (us:=.ref a::R) (vs:=.ref a::vs) F hr Y hd hx A (.cons O r) q2
def Rm(T:Addr->Sp->Prop)(hT:∀C b,T C b->MOk X C m b dvs E)(B:PE X o R)
  (j:eval (.Call (.Attribute o m apos) [] [] pos) X.b1=(do
   let w<-eval o X.b1
   standAt apos.atName
   let (f,first)<-holding [w] (getMethod w m pl)
   callWith pos f first (bD pos (aA [] X.b1)) (backToKw pos (dY [] X.b1))):=by rfl):
  PE X (.Call (.Attribute o m apos) [] [] pos) (λp H Q=>R p H λx e=>∃a C r fs b,x=.ref a/\e a=Z (.nr C r fs)/\T C b/\fs.lookup m=J/\b (x::dvs) e Q E):=by
 intro d s p H Q I h;refine p6 (pl:=pl) (f5 (B d s p H _ I h) λu Y zz=>?_) j;obtain⟨x,e,i,P,a,C,r,fs,b,z,y,j,l,q⟩:=zz;obtain⟨k,f,U,W,S,c,t,F,M,A,hd,N⟩:=hT C b j;subst z;obtain rfl:u=Value.ref a:=P;refine IC i y c t l ?_;exact ma (first:=[.ref a]) i.rf t.kp (LJ (us:=[.ref a]) (vs:=[.ref a]) F M A hd N i (.cons O .nil) q)
def MT(G:Bg)(g:Nat->Option (bj->Option D)):Addr->Sp->Prop:=λC a=>∃c h,g c=Z h/\C=G.ca c/\a=fy G h
def WO(h:PE X (.Call (.Attribute o m apos) (e::es) [] pos) (λz H Q=>tF G f z H λx j=>∃b C u fs I,x=.ref b/\j b=Z (.nr C u fs)/\MT G g C I/\fs.lookup m=J/\vf G a z j λvs p=>I (x::(vs++[])) p Q E)):
  PE X (.Call (.Attribute o m apos) (e::es) [] pos) (tF G (vg g m f a)):=PE.en h λz H Q l=>by
 obtain⟨F,ρ,N,d,y,R,e,k⟩:=l;obtain⟨c,ns,ds,i,l,w,T,U,W,Y,e5⟩:=IQ e;refine⟨F,ρ,N,_,i,R,T,λv j P s A r=>?_⟩;have r0:=r;unfold cb at r;obtain⟨b,u,xs,rfl,h1,h2,h3⟩:=r;refine⟨b,_,u,_,_,O,A.sub _ _ h1,⟨c,l,U,O,O⟩,EA W,F,i,j,w,y,A,Y,λys p q B R2 rs=>?_⟩;show fy G l (V.ref b::(ys++[])) q Q E;rw[bS];exact⟨p,_,d,R2.sub,vU (cb.mono B _ _ r0) rs,e5,λv S t M t2 t3 fr rv=>k v S t (s.t (B.t M)) (R2.i1 t3 M t2 fr) rv⟩
def Te(h:PE X (.Call (.Attribute o m apos) [] [] pos) (λu H Q=>tF G f u H λx a=>∃b C l fs q,x=.ref b/\a b=Z (.nr C l fs)/\MT G g C q/\fs.lookup m=J/\q (x::[]) a Q E)):
  PE X (.Call (.Attribute o m apos) [] [] pos) (tF G (vg g m f vC)):=PE.en h λu H Q p=>by
 obtain⟨F,ρ,w,d,ρ',R,e,k⟩:=p;obtain⟨c,ns,ds,ρ1,p,P,A,B,I,M,N⟩:=IQ e;cases M;refine⟨F,ρ,w,_,_,R,A,λv a y s j r=>?_⟩;have T:=r;unfold cb at r;obtain⟨b,l,xs,rfl,S,h2,h3⟩:=r;refine⟨b,_,l,_,_,O,j.sub _ _ S,⟨c,p,B,O,O⟩,EA I,?_⟩;exact⟨a,_,d,j.sub,vU T vN,N,λv z i t W Y fr U=>k v z i (s.t t) (j.i1 Y t W fr) U⟩
def spI(G:Bg)(c:Nat)(g:bj->Option (aE×bj)):Sp:=λr H Q _=>∃(p q:Addr) (m:bL) (d:Hp) (j:bj) (h:aE) (l:bj),r=.ref p::m/\H p=Z (.nr (G.ca c) q [])/\d p=J/\vm d H/\uS G d j m/\g j=Z (h,l)/\
 ∀i f a e,vm d a->vm a e->(∀b o,H b=Z o->b≠p->e b=Z o)->(∀b o,a b=Z o->d b=Z o\/H b=J)->a p=J->e p=Z (.nr (G.ca c) f (h.zip i))->h.length=i.length->uS G a l i->Q .E e
def vG(c:Nat)(g:bj->Option (aE×bj))(a:FA):FE:=λh=>match a h with
 |some (d,b)=>match g d with
  |some (f,e)=>Z (.obj c f e,b)
  |none=>J
 |none=>J
theorem WQ(hd:∀H,uS G H dds dvs)(h:PE X e (Ya (G.ca c) (spI G c g) dvs E (vf G a))):PE X e (tF G (vG c (λm=>g (m++dds)) a)):=PE.en h λσ H Q hh=>by
 obtain⟨F,S,Y,d,T,R,e,k⟩:=hh;unfold vG at e;rcases vH (f:=a) (ρ:=S)with A|⟨m,ρ1,A⟩<;>simp only[A]at e
 .cases e
 .cases C:g (m++dds)with
  |none=>simp only[C]at e;cases e
  |some q=>
   obtain⟨ns,es⟩:=q;simp only[C]at e;cases e;refine⟨F,S,Y,m,T,R,A,λxs U j s l rs x r p hdx ne=>?_⟩;have N:(fl j r (.jj x)) x=J:=by rw[vt (λz=>ne z.symm)];exact p
   have P:vm j (fl (fl j r (.jj x)) x (.nr (G.ca c) r [])):=(vy hdx _).t (vy N _);refine⟨x,r,_,U,m++dds,ns,es,O,ve,l.f3 p,l.sub.t P,xk rs (hd _),C,λys y H2 w W t2 t3 fr M hp hl ry=>⟨O,?_⟩⟩;have t4:vm j w:=λb o e=>t3 b o (P b o e) (yc e p);have I:∀b o,H2 b=Z o->U b=Z o\/j b=J:=λb o e=>by
    rcases fr b o e with q|q
    .exact .inl q
    .cases z:j b with
     |none=>exact .inr O
     |some u=>rw[P b u z]at q;cases q
   have R2:=l.i1 t4 W t2 I;have hb:F.B x=J:=l.i0 p;have R3:=R2.rm hp M hb (λi t ei to z=>l.apart p i t ei to z);refine k _ _ _ (s.t (W.t (vy M _))) R3 ?_;unfold cb;exact⟨x,y,ys,O,ve,hl,uS.mono (vy M _) _ _ ry⟩
def vX(h:Nat)(i:Nat)(f:Str)(j:FE):FS:=λl=>match j l with
 |some (d,a)=>match a[i]? with
  |some (.ob c b e)=>if c=h then if b.contains f=γ then J else if e.length=b.length then if b.length<900 then Z (.nx (a.set i (.ob c (b++[f]) (e++[d]))))else J else J else J
  |_=>J
 |none=>J
theorem Nf:∀{ns:aE} {xs:bL},ns.contains f=δ->ns.length=xs.length->BE f v (ns.zip xs)=(ns++[f]).zip (xs++[v])
 |[],[],h,l=>rfl
 |[],x::xs,h,l=>by cases l
 |n::ns,[],h,l=>by cases l
 |n::ns,x::xs,h,l=>by
  rw[o8,kO]at h;have a:¬n=f:=λz=>by rw[z]at h;simp at h
  have b:=Nf (f:=f) (v:=v) (ns:=ns) (xs:=xs) h.2 (by simpa using l);show BE f v ((n,x)::ns.zip xs)=_;rw[show BE f v ((n,x)::ns.zip xs)=(if n=f then (n,v)::ns.zip xs else (n,x)::BE f v (ns.zip xs)) from O,ao a,b];rfl
def WR{st:Stmt}(h:PS X st (sFld X.K (BY i) (tF G x) f))(y:T1 X.K (G.ca p)/\Au X.K (G.ca p) f):PS X st (mu G (vX p i f x)):=PS.en h λE σ H N=>by
 obtain⟨F,j,z,o,R,e,k,k2⟩:=N;unfold vX at e;rcases vH (f:=x) (ρ:=j)with b|⟨d,l,b⟩<;>simp only[b]at e
 .cases e
 .split at e
  .rename_i c P U t;split at e
   .rename_i hcc;subst hcc;split at e
    .cases e
    rename_i hnc;split at e
    .rename_i Y;split at e
     .rename_i W;cases e;refine⟨F,j,z,d,l,R,b,λv T A s m r=>?_⟩;obtain⟨a,q,Q,u,B,C,I,w,M⟩:=m.sl i _ t;refine⟨_,zc u,a,_,q,_,O,B,y.1,y.2,by rw[iO];omega,?_⟩;have hnf:P.contains f=δ:=by simpa using hnc
      rw[Nf hnf w];refine k _ _ _ s (m.mut t O u (λS hH=>?_) O);exact⟨a,q,Q++[v],O,hH,C,I,by rw[aC,aC,w];rfl,xk M (vU r vN)⟩
     .cases e
    .cases e
   .cases e
  .cases e
def stI(c n:Nat)(ds:bj):aS:=.ob c [] []::D' (n - 1) ds
def xo(c h n:Nat)(f:FS):bj->Option (aE×bj):=λa=>if a.length=h then match f (stI c n a)with
 |some (.nx i)=>match (i:aS)[0]? with
  |some (Sl.ob e d b)=>if e=c then if d.length=b.length then Z (d,b)else J else J
  |_=>J
 |_=>J
 else J
def IR(h:xo c m n f b=Z q):b.length=m/\∃a,f (stI c n b)=Z (.nx a)/\a[0]?=Z (.ob c q.1 q.2)/\q.1.length=q.2.length:=by
 unfold xo at h;split at h
 .rename_i l;refine⟨l,?_⟩;split at h
  .rename_i a e;split at h
   .rename_i o r p d;split at h
    .rename_i j;split at h
     .rename_i i;subst j;cases h;exact⟨a,e,d,i⟩
     .cases h
    .cases h
   .cases h
  .cases h
 .cases h
def PK{N:aE}(hN:F+1<=N.length)(h:spI G c (xo c F N.length f) vs H Q E):mu G f { nx:=λ_ H'=>Q .E H',rt:=Q } (L2.start N vs) H:=by
 obtain⟨p,dx,us,H0,ds,ns,es,rfl,A,S,s,r,e,k⟩:=h;obtain⟨T,ρ,l,x,z⟩:=IR e;have hul:us.length=F:=by rw[<-uX r];exact T
 have gets:∀{i:Nat} {t:Sl},(stI c N.length ds)[i]?=Z t->(i=0/\t=.ob c [] [])\/t=.un\/∃(j:Nat) (d:D),i=j+1/\ds[j]?=Z d/\t=.z d:=λ{i t} e=>by
  cases i with
  |zero=>cases e;exact .inl ⟨O,O⟩
  |succ j=>
   have I:(D' (N.length - 1) ds)[j]?=Z t:=e;rcases Ik I with rfl|⟨d,l,rfl⟩
   .exact .inr (.inl O)
   .exact .inr (.inr ⟨j,d,O,l,O⟩)
 have R:vA G ⟨H0,H,[p]⟩ (L2.start N (.ref p::us)) (stI c N.length ds) H0 H:={
  sub:=s
  g0:=vm.refl _
  keep:=λb o e _=>e
  fr:=λb o e=>.inl e
  am:=λa ha=>by
   have y:a=p:=by simpa using ha
   subst y;exact⟨_,A⟩
  len:=by unfold L2.start stI D';simp only[aC,ag,cZ,aM];have:=uX r;omega
  sl:=λi t e=>by
   rcases gets e with ⟨rfl,rfl⟩|rfl|⟨j,d,rfl,l,rfl⟩
   .exact⟨p,dx,[],BI O,A,S,by simp,O,vN⟩
   .trivial
   .obtain⟨v,x,z⟩:=zN r l;exact⟨v,BI (by simpa using x),z⟩
  ap:=λi j t u a hij M P B C=>by
   rcases gets M with ⟨rfl,rfl⟩|rfl|⟨_,_,_,_,rfl⟩
   .rcases gets P with ⟨rfl,rfl⟩|rfl|⟨_,_,_,_,rfl⟩
    .exact aq O hij
    .cases C
    .cases C
   .cases B
   .cases B }
 refine⟨_,_,H0,_,R,l,λσ' q H' s' m=>?_,λ_=>O⟩;obtain⟨a,w,ys,q1,U,q3,W,Y,q6⟩:=m.sl 0 _ x;have y:a=p:=by simpa using W
 subst y;exact k ys w q H' s' m.sub (λb o e n=>m.keep b o e (by simpa using n)) m.fr q3 U Y q6
end
def Sl.L:Sl->Option bj
 |.O a=>Z a
 |.pm a=>Z a
 |_=>J
def Sl.putL:Sl->bj->Sl
 |.pm _,a=>.pm a
 |_,a=>.O a
def Sl.vu{s:Sl}(h:s.L=Z a):s.jj=γ:=by cases s<;>first|rfl|cases h
def Sl.putL_L{s:Sl}:(s.putL a).L=Z a:=by cases s<;>rfl
section
variable{G:Bg}{F:Fr}{σ:St}{ρ:aS}{H0 H:Hp}
theorem Ka.bt{o:Option V}{s:Sl}{ds:bj}(h:Ka G F H0 H o s)(e:s.L=Z ds):∃a xs,o=Z (.ref a)/\H a=Z (.bt xs)/\H0 a=J/\uS G H0 ds xs:=by
 cases s with
 |O b=>cases e;obtain⟨a,xs,c,d,f,j,i⟩:=h;exact⟨a,xs,c,d,f,i⟩
 |pm b=>cases e;obtain⟨a,xs,c,d,f,j,i⟩:=h;exact⟨a,xs,c,d,f,i⟩
 |_=>cases e
def vA.mutL(R:vA G F σ ρ H0 H)(m:ρ[i]?=Z s)(o:s.L=Z w)(l:(σ[i]?).join=Z (.ref a))(r:uS G H0 d c):
  vA G F σ (ρ.set i (s.putL d)) H0 (fl H a (.bt c)):=by
 have ok:=R.sl i s m;rw[l]at ok;refine R.mut m (Sl.vu o) l (λu hH=>?_) (Sl.vu Sl.putL_L);cases s with
 |O e=>obtain⟨b,t,f,p,h,j,q⟩:=ok;cases f;exact⟨a,c,O,hH,h,j,r⟩
 |pm e=>obtain⟨b,t,f,p,h,j,q⟩:=ok;cases f;exact⟨a,c,O,hH,h,j,r⟩
 |_=>cases o
end
def xf(ρ:aS)(i:Nat):Option bj:=match ρ[i]? with
 |some s=>s.L
 |none=>J
def zv(h:xf ρ i=Z a):∃s,ρ[i]?=Z s/\s.L=Z a:=by
 unfold xf at h;cases e:ρ[i]? with
 |none=>rw[e]at h;cases h
 |some s=>rw[e]at h;exact⟨s,O,h⟩
def putAt(ρ:aS)(i:Nat)(a:bj):aS:=match ρ[i]? with
 |some s=>ρ.set i (s.putL a)
 |none=>ρ
def AV(i:Nat)(f:FE):FE:=λc=>match xf c i with
 |some _=>match f c with
  |some (d,a)=>match xf a i with
   |some b=>if b.length<1000 then Z (.E,putAt a i (b++[d]))else J
   |none=>J
  |none=>J
 |none=>J
section
variable{X:Cx}{G:Bg}
def yC(R:vA G F m ρ e H)(h:xf ρ i=Z o):∃a d,m[i]?=Z (Z (.ref a))/\H a=Z (.bt d)/\uS G e o d/\
  (∀b c,uS G e b c->vA G F m (putAt ρ i b) e (fl H a (.bt c))):=by
 obtain⟨s,f,j⟩:=zv h;obtain⟨a,d,l,p,t,q⟩:=(R.sl i s f).bt j;refine⟨a,d,zc l,p,q,λb c r=>?_⟩;unfold putAt;rw[f];exact R.mutL f j l r
def Ro(h:PE X e (tBM G.K "list" LQ (BY i) (vf G (ax f vC)))):PE X e (tF G (AV i f)):=PE.en h λσ H Q A=>by
 obtain⟨F,c,u,d,N,R,e,k⟩:=A;unfold AV at e;cases j:xf c i with
 |none=>simp only[j]at e;cases e
 |some z=>
  simp only[j]at e;rcases vH (f:=f) (ρ:=c)with l|⟨x,b,l⟩<;>simp only[l]at e
  .cases e
  .cases m:xf b i with
   |none=>simp only[m]at e;cases e
   |some T=>
    simp only[m]at e;split at e
    .rename_i U;cases e;obtain⟨a,M,q,C,Y,_⟩:=yC R j;refine⟨.ref a,q,.inl ⟨O,M,gi.of C⟩,F,c,u,[x],b,R,by unfold ax;rw[l];rfl,λys P w s y rs=>?_⟩;unfold uS at rs;obtain⟨v,W,rfl,B,p⟩:=rs;unfold uS at p;subst p;obtain⟨S,o,r,E,t,I⟩:=yC y m;rw[q]at r;cases r;exact⟨a,o,v,O,O,E,by rw[<-uX t];exact DW (by omega),k _ _ _ s (I _ _ (xk t (vU B vN))) A0⟩
    .cases e
def HX(i:Nat)(f:FA):FE:=λd=>match xf d i with
 |some _=>match f d with
  |some (c,a)=>match xf a i with
   |some b=>if b.length+c.length<=1000 then Z (.E,putAt a i (b++c))else J
   |none=>J
  |none=>J
 |none=>J
def Rp(h:PE X e (tBM G.K "list" Py (BY i) (Ea (z0 G f) J5))):PE X e (tF G (HX i f)):=PE.en h λσ H Q A=>by
 obtain⟨F,c,u,d,S,R,e,k⟩:=A;unfold HX at e;cases j:xf c i with
 |none=>simp only[j]at e;cases e
 |some z=>
  simp only[j]at e;rcases vH (f:=f) (ρ:=c)with l|⟨x,b,l⟩<;>simp only[l]at e
  .cases e
  .cases m:xf b i with
   |none=>simp only[m]at e;cases e
   |some Y=>
    simp only[m]at e;split at e
    .rename_i B;cases e;obtain⟨a,N,q,E,s3,_⟩:=yC R j;refine⟨.ref a,q,.inl ⟨O,N,gi.of E⟩,F,c,u,x,b,R,l,λp P T w s y C h0 hb W rs=>?_⟩;obtain⟨U,o,r,I,t,M⟩:=yC y m;rw[q]at r;cases r;refine⟨a,p,o,P,O,O,I,C,?_,k _ _ _ s (M _ _ (xk t rs)) A0⟩;rw[<-uX t,<- uX rs];exact yd B
    .cases e
def aeJ(i:Nat):FE:=λa=>match xf a i with
 |some (d::b)=>Z (d,putAt a i b)
 |_=>J
def E8(r:uS G b a c)(h:A? a i=Z d):∃v,A? c i=Z v/\cb G b d v:=by
 unfold A? at h ⊢;rw[<-uX r];cases e:ixN a.length i with
 |none=>rw[e]at h;cases h
 |some j=>rw[e]at h;exact zN r h
def Ng(i:Nat)(f:FE):FE:=λb=>match xf b i with
 |some _=>match f b with
  |some (.int j,a)=>match xf a i with
   |some c=>match A? c j with
    |some d=>Z (d,a)
    |none=>J
   |none=>J
  |_=>J
 |none=>J
def ZZ(h:PE X e (tOp (Wc G.K) (BY i) (tF G f))):PE X e (tF G (Ng i f)):=PE.en h λσ H Q I=>by
 obtain⟨F,t,y,d,W,R,e,k⟩:=I;unfold Ng at e;cases l:xf t i with
 |none=>simp only[l]at e;cases e
 |some C=>
  simp only[l]at e;obtain⟨A,U,p,_⟩:=yC R l;split at e
  .rename_i j m E;cases b:xf m i with
   |none=>simp only[b]at e;cases e
   |some B=>
    simp only[b]at e;cases c:A? B j with
    |none=>simp only[c]at e;cases e
    |some x=>simp only[c]at e;cases e;refine⟨.ref A,p,F,t,y,_,_,R,E,λu Y z s o r=>?_⟩;unfold cb at r;subst r;obtain⟨a,T,q,M,N,s4⟩:=yC o b;rw[p]at q;cases q;obtain⟨w,P,S⟩:=E8 N c;exact⟨_,T,j,w,O,O,gi.of M,P,k _ _ _ s o S⟩
  .cases e
def Hs(i:Nat):FE:=λb=>match b[i]? with
 |some (.O a)=>Z (.bt a,b.set i (.z (.bt a)))
 |some (.dk c a)=>Z (.Q c a,b.set i (.z (.Q c a)))
 |some (.z d)=>Z (d,b)
 |_=>J
theorem vA.toIm(R:vA G F σ ρ H0 H)(hi:ρ[i]?=Z s)(l:(σ[i]?).join=Z (.ref p))(so:s.jj=γ)(E:H p=Z o)(f:H0 p=J)(hb:F.B p=J)(r:cb G (fl H0 p o) d (.ref p)):
  vA G F σ (ρ.set i (.z d)) (fl H0 p o) H where
 sub:=λb u e=>by
  by_cases hb:b=p
  .subst hb;rw[ve]at e;cases e;exact E
  .rw[vt hb]at e;exact R.sub _ _ e
 g0:=R.g0.t (vy f o)
 keep:=R.keep
 fr:=λb u e=>by
  by_cases c:b=p
  .subst c;exact .inr hb
  .rw[vt c]at e;exact R.fr _ _ e
 am:=R.am
 len:=by rw[eJ];exact R.len
 sl:=λj t e=>by
  rw[b0]at e;by_cases h:i=j
  .subst h;rw[aj O]at e;split at e
   .cases e;exact⟨_,l,r⟩
   .cases e
  .rw[ao h]at e;refine(R.sl j t e).i1 (vy f o) (λa u _ _ q=>q) λa u z to q I=>?_;rw[vt (λy=>by subst y;exact R.ap j i t s a (λy=>h y.symm) e hi to so z l)];exact I
 ap:=λj k t u b hjk A C w tk M vk=>by
  have sx:∀{m:Nat} {x:Sl},(ρ.set i (.z d))[m]?=Z x->x.jj=γ->ρ[m]?=Z x:=λ{m x} e N=>by
   rw[b0]at e;by_cases h:i=m
   .subst h;rw[aj O]at e;split at e
    .cases e;cases N
    .cases e
   .rw[ao h]at e;exact e
  exact R.ap j k t u b hjk (sx A w) (sx C tk) w tk M vk
theorem vA.toImD(R:vA G F σ ρ H0 H)(hi:ρ[i]?=Z s)(f:(σ[i]?).join=Z (.ref p))(so:s.jj=γ)(l:H0 p=J)(hb:F.B p=J)(r:cb G (fl H0 p o) d (.ref p)):
  vA G F σ (ρ.set i (.z d)) (fl H0 p o) (fl H p o) where
 sub:=λb u e=>by
  by_cases hb:b=p
  .subst hb;rw[ve]at e ⊢;exact e
  .rw[vt hb]at e ⊢;exact R.sub _ _ e
 g0:=R.g0.t (vy l o)
 keep:=λb u e n=>by rw[vt (λz=>by subst z;rw[hb]at e;cases e)];exact R.keep b u e n
 fr:=λb u e=>by
  by_cases c:b=p
  .subst c;exact .inr hb
  .rw[vt c]at e;exact R.fr _ _ e
 am:=λb hm=>by
  by_cases c:b=p
  .subst c;exact⟨o,ve⟩
  .rw[vt c];exact R.am b hm
 len:=by rw[eJ];exact R.len
 sl:=λj t e=>by
  rw[b0]at e;by_cases h:i=j
  .subst h;rw[aj O]at e;split at e
   .cases e;exact⟨_,f,r⟩
   .cases e
  .rw[ao h]at e;refine(R.sl j t e).i1 (vy l o) (λa u z to q=>?_) λa u z to q E=>?_
   .rw[vt (λy=>by subst y;exact R.ap j i t s a (λy=>h y.symm) e hi to so z f)];exact q
   .rw[vt (λy=>by subst y;exact R.ap j i t s a (λy=>h y.symm) e hi to so z f)];exact E
 ap:=λj k t u b hjk A C w tk I vk=>by
  have sx:∀{m:Nat} {x:Sl},(ρ.set i (.z d))[m]?=Z x->x.jj=γ->ρ[m]?=Z x:=λ{m x} e M=>by
   rw[b0]at e;by_cases h:i=m
   .subst h;rw[aj O]at e;split at e
    .cases e;cases M
    .cases e
   .rw[ao h]at e;exact e
  exact R.ap j k t u b hjk (sx A w) (sx C tk) w tk I vk
def adk(h:PE X e (BY i)):PE X e (tF G (Hs i)):=PE.en (PE.ghost h) λE H Q z=>by
 obtain⟨F,C,t,d,A,R,e,k⟩:=z;unfold Hs at e;split at e
 .rename_i m b;cases e;obtain⟨a,l,f,p,c,q,r⟩:=R.sl i _ b;have j:cb G (fl t a (.bt l)) (.bt m) (.ref a):=B5 ve (uS.mono (vy c _) _ _ r);exact⟨_,zc f,.inl (k _ _ _ (vy c _) (R.toIm b f O p c q j) j)⟩
 .rename_i u m b;cases e;obtain⟨a,l,f,p,c,q,r,y⟩:=R.sl i _ b;refine⟨_,zc f,.inr ⟨a,_,p,λo=>?_⟩⟩;have j:cb G (fl t a (.o? o (.dK (u.zip l)))) (.Q u m) (.ref a):=by unfold cb;exact⟨a,o,l,O,ve,r,uS.mono (vy c _) _ _ y⟩
  exact k _ _ _ (vy c _) (R.toImD b f O c q j) j
 .rename_i B b;cases e;obtain⟨v,w,x⟩:=R.sl i _ b;exact⟨v,zc w,.inl (k _ _ _ (vm.refl _) R x)⟩
 .cases e
def Kc(i:Nat):FA:=λa=>match a[i]? with
 |some (.O b)=>Z (b,a.set i .un)
 |_=>J
def WT(h:PE X e (BY i)):PE X e (z0 G (Kc i)):=PE.en h λσ H Q C=>by
 obtain⟨F,ρ,H0,d,ρ',R,e,k⟩:=C;unfold Kc at e;split at e
 .rename_i ds l;cases e;obtain⟨a,xs,o,w,y,A,B⟩:=R.sl i _ l;have sx:∀{m:Nat} {x:Sl},(ρ.set i .un)[m]?=Z x->x.jj=γ->m≠i/\ρ[m]?=Z x:=λ{m x} e M=>by
   rw[b0]at e;by_cases h:i=m
   .subst h;rw[aj O]at e;split at e
    .cases e;cases M
    .cases e
   .rw[ao h]at e;exact⟨λz=>h z.symm,e⟩
  have q:vA G F σ (ρ.set i .un) H0 H:={
   sub:=R.sub,g0:=R.g0,keep:=R.keep,fr:=R.fr,am:=R.am
   len:=by rw[eJ];exact R.len
   sl:=λj t e=>by
    rw[b0]at e;by_cases h:i=j
    .subst h;rw[aj O]at e;split at e
     .cases e;trivial
     .cases e
    .rw[ao h]at e;exact R.sl j t e
   ap:=λj k t u b hjk c r p tk I vk=>R.ap j k t u b hjk (sx c p).2 (sx r tk).2 p tk I vk }
  refine⟨_,zc o,k a xs _ _ (vm.refl _) q w y A (λj t c to z=>?_) B⟩;obtain⟨E,f⟩:=sx c to;exact R.ap j i t _ a E f l to O z o
 .cases e
end
def vl(G:Bg)(g:bj->bj->Option (D×bj)):Sp:=λq H Q _=>∃(a:Addr) (m p:bL) (e:Hp) (l j:bj) (d:D) (f:bj),q=.ref a::m/\H a=Z (.bt p)/\e a=J/\vm e H/\uS G e l p/\uS G e j m/\g l j=Z (d,f)/\
 ∀v h c i,vm e c->vm c i->(∀b o,H b=Z o->b≠a->i b=Z o)->(∀b o,c b=Z o->e b=Z o\/H b=J)->c a=J->i a=Z (.bt h)->uS G c f h->cb G c d v->Q v i
def stM(n:Nat)(b a:bj):aS:=.pm b::D' (n - 1) a
def E9(b:aS):Option bj:=match b with
 |.pm a::_=>Z a
 |_=>J
def u6(h n:Nat)(f:FS):bj->bj->Option (D×bj):=λe c=>if c.length=h then match f (stM n e c)with
 |some (.rt d b)=>match E9 b with
  |some a=>Z (d,a)
  |none=>J
 |some (.X i b)=>match E9 b with
  |some a=>Z (.bt i,a)
  |none=>J
 |_=>J
 else J
def IS(h:E9 b=Z a):b[0]?=Z (.pm a):=by
 unfold E9 at h;split at h
 .cases h;rfl
 .cases h
def Nh(h:u6 m n f i c=Z (d,es')):c.length=m/\((∃a,f (stM n i c)=Z (.rt d a)/\a[0]?=Z (.pm es'))\/∃j a,f (stM n i c)=Z (.X j a)/\a[0]?=Z (.pm es')/\d=.bt j):=by
 unfold u6 at h;split at h
 .rename_i l;refine⟨l,?_⟩;split at h
  .rename_i x a e;cases b:E9 a with
   |none=>simp only[b]at h;cases h
   |some q=>simp only[b]at h;cases h;exact .inl ⟨a,e,IS b⟩
  .rename_i x a e;cases b:E9 a with
   |none=>simp only[b]at h;cases h
   |some q=>simp only[b]at h;cases h;exact .inr ⟨x,a,e,IS b,O⟩
  .cases h
 .cases h
section
variable{X:Cx}{G:Bg}
def WU{N:aE}(hN:C+1<=N.length)(h:vl G (u6 C N.length f) vs H Q E):mu G f { nx:=λ_ H'=>Q .E H',rt:=Q } (L2.start N vs) H:=by
 obtain⟨a,us,xs,H0,es,ds,d,y,rfl,ha,Y,s,r1,r,e,k⟩:=h;obtain⟨hl,l⟩:=Nh e;have hul:us.length=C:=by rw[<-uX r];exact hl
 have gets:∀{i:Nat} {t:Sl},(stM N.length es ds)[i]?=Z t->(i=0/\t=.pm es)\/t=.un\/∃(j:Nat) (d:D),i=j+1/\ds[j]?=Z d/\t=.z d:=λ{i t} e=>by
  cases i with
  |zero=>cases e;exact .inl ⟨O,O⟩
  |succ j=>
   have M:(D' (N.length - 1) ds)[j]?=Z t:=e;rcases Ik M with rfl|⟨d,l,rfl⟩
   .exact .inr (.inl O)
   .exact .inr (.inr ⟨j,d,O,l,O⟩)
 have R:vA G ⟨H0,H,[a]⟩ (L2.start N (.ref a::us)) (stM N.length es ds) H0 H:={
  sub:=s
  g0:=vm.refl _
  keep:=λb o e _=>e
  fr:=λb o e=>.inl e
  am:=λb hb=>by
   have T:b=a:=by simpa using hb
   subst T;exact⟨_,ha⟩
  len:=by unfold L2.start stM D';simp only[aC,ag,cZ,aM];have:=uX r;omega
  sl:=λi t e=>by
   rcases gets e with ⟨rfl,rfl⟩|rfl|⟨j,d,rfl,l,rfl⟩
   .exact⟨a,xs,BI O,ha,Y,by simp,r1⟩
   .trivial
   .obtain⟨v,q,P⟩:=zN r l;exact⟨v,BI (by simpa using q),P⟩
  ap:=λi j t u b hij U W A B=>by
   rcases gets U with ⟨rfl,rfl⟩|rfl|⟨_,_,_,_,rfl⟩
   .rcases gets W with ⟨rfl,rfl⟩|rfl|⟨_,_,_,_,rfl⟩
    .exact aq O hij
    .cases B
    .cases B
   .cases A
   .cases A }
 have fin:∀{v:V} {σ':St} {ρ':aS} {c H':Hp},vm H0 c->vA G ⟨H0,H,[a]⟩ σ' ρ' c H'->ρ'[0]?=Z (.pm y)->cb G c d v->Q v H':=λx m q z=>by
  obtain⟨I,F,q1,q2,q3,q4,q5⟩:=m.sl 0 _ q;have S:I=a:=by simpa using q4
  subst S;exact k _ F _ _ x m.sub (λb o e n=>m.keep b o e (by simpa using n)) m.fr q3 q2 q5 z
 rcases l with ⟨ρ,l,q⟩|⟨zs,ρ,l,q,rfl⟩
 .exact⟨_,_,H0,_,R,l,λv σ' c H' x m z=>fin x m q z,λ_=>O⟩
 .refine⟨_,_,H0,_,R,l,λp F σ' c H' x m hp w hb ap rs=>?_,λ_=>O⟩;exact fin (x.t (vy w _)) (m.rm hp w hb ap) q (B5 ve (uS.mono (vy w _) _ _ rs))
def adl(j:∀f b d,g f b=Z d->b.length=l):∀c H Q E,vl G g c H Q E->c.length=l+1:=λc H Q E h=>by obtain⟨a,o,p,m,f,b,d,i,rfl,_,_,_,_,r,e,_⟩:=h;rw[aM,<- uX r,j _ _ _ e]
def WV:∀b a d,u6 e n f b a=Z d->a.length=e:=λ_ _ d h=>(Nh (d:=d.1) (es':=d.2) h).1
def vA.call1(R:vA G F σ ρ H0 H)(hi:ρ[i]?=Z s)(M:s.L=Z es)(hb:(σ[i]?).join=Z (.ref b))
  (P:vm H0 a) (s2:vm a H') (B:∀c o,H c=Z o->c≠b->H' c=Z o) (fr:∀c o,a c=Z o->H0 c=Z o\/H c=J) (I:a b=J) (A:H' b=Z (.bt C)) (r:uS G a d C):
  vA G F σ (ρ.set i (s.putL d)) a H':=by
 have so:=Sl.vu M;obtain⟨b',u,E,e2,e3,Q⟩:=(R.sl i s hi).at so;rw[hb]at E;cases E;exact {
  sub:=s2
  g0:=R.g0.t P
  keep:=λc o e n=>by
   refine B c o (R.keep c o e n) λz=>?_;subst z;rcases Q with q|q
   .rw[q]at e;cases e
   .exact n q
  fr:=λc o e=>by
   rcases fr c o e with q|q
   .exact R.fr c o q
   .exact .inr (R.i0 q)
  am:=λc hc=>by
   by_cases z:c=b
   .subst z;exact⟨_,A⟩
   .obtain⟨o,q⟩:=R.am c hc;exact⟨o,B c o q z⟩
  len:=by rw[eJ];exact R.len
  sl:=λj t e=>by
   rw[b0]at e;by_cases h:i=j
   .subst h;rw[aj O]at e;split at e
    .cases e;rw[hb];have ok:=R.sl i s hi;rw[hb]at ok;cases s with
     |O f=>obtain⟨c,xs,l,Y,h3,p,h5⟩:=ok;cases l;exact⟨b,C,O,A,I,p,r⟩
     |pm f=>obtain⟨c,xs,l,Y,h3,p,h5⟩:=ok;cases l;exact⟨b,C,O,A,I,p,r⟩
     |_=>cases M
    .cases e
   .rw[ao h]at e;refine(R.sl j t e).i1 P (λc w z to q=>B c w q λy=>?_) λc w z to q N=>?_
    .subst y;exact R.ap j i t s c (λy=>h y.symm) e hi to so z hb
    .cases y:a c with
     |none=>rfl
     |some o=>
      rcases fr c o y with x|x
      .rw[x]at N;cases N
      .rw[x]at q;cases q
  ap:=λj k t u c hjk S T tj tk vj vk=>by
   have sx:∀{m:Nat} {x:Sl},(ρ.set i (s.putL d))[m]?=Z x->∃y,ρ[m]?=Z y/\(x.jj=γ->y.jj=γ):=λ{m x} e=>by
    rw[b0]at e;by_cases h:i=m
    .subst h;exact⟨s,hi,λ_=>so⟩
    .rw[ao h]at e;exact⟨x,e,λq=>q⟩
   obtain⟨y,U,oy⟩:=sx S;obtain⟨z,W,oz⟩:=sx T;exact R.ap j k y z c hjk U W (oy tj) (oz tk) vj vk }
def vK(g:bj->bj->Option (D×bj))(i:Nat)(a:FA):FE:=λe=>match xf e i with
 |some _=>match a e with
  |some (f,b)=>match xf b i with
   |some h=>match g h f with
    |some (d,c)=>Z (d,putAt b i c)
    |none=>J
   |none=>J
  |none=>J
 |none=>J
def Z0(h:PE X e (EZ (vl G g) [] E (Ea (BY i) (vf G a)))):PE X e (tF G (vK g i a)):=PE.en h λσ H Q U=>by
 obtain⟨F,m,A,d,ρ',R,e,k⟩:=U;unfold vK at e;cases r:xf m i with
 |none=>simp only[r]at e;cases e
 |some T=>
  simp only[r]at e;rcases vH (f:=a) (ρ:=m)with t|⟨p,l,t⟩<;>simp only[t]at e
  .cases e
  .cases u:xf l i with
   |none=>simp only[u]at e;cases e
   |some C=>
    simp only[u]at e;cases w:g C p with
    |none=>simp only[w]at e;cases e
    |some q=>
     obtain⟨d1,x⟩:=q;simp only[w]at e;cases e;obtain⟨b,xs,y,s2,s3,_⟩:=yC R r;refine⟨.ref b,y,F,m,A,p,l,R,t,λN B P s o rs=>?_⟩;obtain⟨s,c,j⟩:=zv u;obtain⟨b',z,I,W,Y,t4⟩:=(o.sl i s c).bt j;rw[zc I]at y;cases y;refine⟨b,N,z,B,C,p,d,x,?_,W,Y,o.sub,t4,rs,w,λv zs H2 S M u2 u3 fr w0 w1 w2 w3=>?_⟩
     .show V.ref b::N++[]=_;rw[bS]
     .refine k _ _ _ (vm.t ‹vm A B› M) ?_ w3;unfold putAt;rw[c];exact o.call1 c j I M u2 u3 fr w0 w1 w2
def Walk(G:Bg)(h:It)(j:bj)(l:Hp):Prop:=∀(i:Nat) (e a:Hp),vm l e->vm e a->
 (∀d,j[i]?=Z d->h.go i a/\∀x c,h.yld i a x c->∃f,vm e f/\vm f c/\vm a c/\(∀b o,f b=Z o->e b=Z o\/a b=J)/\cb G f d x)/\(i=j.length->h.Q' i a)
def XC(G:Bg)(f:FA):TI:=λj H R=>∃F i e h b,vA G F j i e H/\f i=Z (h,b)/\∀c a d,vm e a->vA G F j b a d->Walk G c h a->R c d
def PI.en(h:PI X d e t)(w:∀b H R,t' b H R->t b H R):PI X d e t':=λa s b H R I c=>h a s b H R I (w _ _ _ c)
def IT(h:gi G.K l a c)(r:uS G l w c):Walk G (Itl G.K a) w l:=λi t f s q=>by have j:gi G.K f a c:=(s.t q).seq h;refine⟨λd e=>?_,λC=>⟨c,j,by rw[<-uX r,C];exact aN _⟩⟩;obtain⟨v,m,z⟩:=zN r e;refine⟨⟨c,v,j,m⟩,λx u y=>?_⟩;obtain⟨A,B⟩:=y;have p:=B c j;rw[m]at p;cases p;subst A;exact⟨t,vm.refl _,q,vm.refl _,λb o e=>.inl e,cb.mono s _ _ z⟩
def Tf(h:ij G.K l a c)(r:uS G l w c):Walk G (Itt G.K a) w l:=λi t f s q=>by have j:ij G.K f a c:=ij.mono (s.t q) h;refine⟨λd e=>?_,λC=>⟨c,j,by rw[<-uX r,C];exact aN _⟩⟩;obtain⟨v,m,z⟩:=zN r e;refine⟨⟨c,v,j,m⟩,λx u y=>?_⟩;obtain⟨A,B⟩:=y;have p:=B c j;rw[m]at p;cases p;subst A;exact⟨t,vm.refl _,q,vm.refl _,λb o e=>.inl e,cb.mono s _ _ z⟩
def iL(f:FE):FA:=λc=>match f c with
 |some (.bt b,a)=>Z (b,a)
 |some (.R b,a)=>Z (b,a)
 |_=>J
def iT(f:FE):FA:=λc=>match f c with
 |some (.d? b,a)=>Z (b,a)
 |_=>J
def Ni(h:PI X w e (Sq G.K (tF G f))):PI X w e (XC G (iL f)):=PI.en h λz H R u=>by
 obtain⟨F,q,p,y,x,R,e,k⟩:=u;unfold iL at e;split at e
 .rename_i i o j;cases e;refine⟨F,q,p,_,_,R,j,λv t d s b r=>?_⟩;unfold cb at r;obtain⟨a,m,rfl,c,l⟩:=r;exact⟨a,O,⟨m,b.sub.seq (gi.of c)⟩,k _ _ _ s b (IT (gi.of c) l)⟩
 .rename_i i o j;cases e;refine⟨F,q,p,_,_,R,j,λv t d s b r=>?_⟩;unfold cb at r;obtain⟨a,m,rfl,c,l⟩:=r;exact⟨a,O,⟨m,b.sub.seq c⟩,k _ _ _ s b (IT c l)⟩
 .cases e
def WW(h:PI X p e (Y2 G.K (tF G f))):PI X p e (XC G (iT f)):=PI.en h λz H R m=>by
 obtain⟨F,t,d,y,u,R,e,k⟩:=m;unfold iT at e;split at e
 .rename_i j w l;cases e;refine⟨F,t,d,_,_,R,l,λv x i s b r=>?_⟩;unfold cb at r;obtain⟨a,q,rfl,c,o⟩:=r;exact⟨a,O,⟨q,ij.mono b.sub c⟩,k _ _ _ s b (Tf c o)⟩
 .cases e
def B6(lo:Int)(n:Nat):bj:=(aZ n).map λ(i:Nat)=>D.int (lo+(i:Int))
def Nj{lo:Int}:Walk G (Itr lo n) (B6 lo n) p:=λi c f s m=>by
 refine⟨λd e=>?_,λl=>by show n<=i;rw[l];simp[B6]⟩;unfold B6 at e;rw[bB]at e;by_cases a:i<n
 .rw[oT a]at e;cases e;refine⟨a,λx h y=>?_⟩;obtain⟨j,rfl⟩:=y;subst j;exact⟨c,vm.refl _,m,vm.refl _,λb o e=>.inl e,xy _⟩
 .rw[gL (by simpa using a)]at e;cases e
def N?(f:FE):FA:=λb=>match f b with
 |some (.int n,a)=>if -1000000<=n/\n<=1000000 then Z (B6 0 n.toNat,a)else J
 |_=>J
def OC(h:PI X m e (X8 (vf G (ax f vC)))):PI X m e (XC G (N? f)):=PI.en h λy H R l=>by
 obtain⟨F,o,c,t,p,R,e,k⟩:=l;unfold N? at e;split at e
 .rename_i n q j;split at e
  .rename_i u;cases e;refine⟨F,o,c,[.int n],_,R,by unfold ax;rw[j];rfl,λx r d s i rs=>?_⟩;unfold uS at rs;obtain⟨v,w,rfl,b,a⟩:=rs;unfold uS at a;unfold cb at b;subst a b;exact⟨n,O,by omega,by omega,k _ _ _ s i Nj⟩
  .cases e
 .cases e
def fu(g:FG)(b:FS):bj->FS
 |[],c=>Z (.nx c)
 |d::r,c=>match g d c with
  |none=>J
  |some e=>match b e with
   |some (.nx a)=>fu g b r a
   |some (.ct a)=>fu g b r a
   |some (.bk a)=>Z (.nx a)
   |some (.rt d a)=>Z (.rt d a)
   |some (.X d a)=>Z (.X d a)
   |none=>J
def yb(s:FA)(g:FG)(b:FS):FS:=λd=>match s d with
 |some (c,a)=>fu g b c a
 |none=>J
def WX{st:Stmt}(h:PS X st (Y4 (XC G s) (tFG G n g) (mu G b))):PS X st (mu G (yb s g b)):=PS.en h λE σ H hh=>by
 obtain⟨F,W,H0,o,R,e,k,k2⟩:=hh;unfold yb at e;rcases vH (f:=s) (ρ:=W)with Q|⟨j,C,Q⟩<;>simp only[Q]at e
 .cases e
 .refine⟨F,W,H0,j,C,R,Q,λAt N H1' s1 R1 wk=>?_⟩;refine⟨λi m σ H=>m=j.length - i/\i<=j.length/\∃c r,vm N r/\vA G F σ c r H/\fu g b (j.drop i) c=Z o,⟨_,O,cp _,C,N,vm.refl _,R1,e⟩,?_⟩;rintro i m σi B ⟨rfl,hi,c,r,A,I,a⟩;by_cases hlt:i<j.length
  .have ed:j.drop i=j[i]::j.drop (i+1):=jo hlt;rw[ed]at a;unfold fu at a;obtain⟨go,yl⟩:=(wk i r B A I.sub).1 j[i] (bh hlt);refine .inr ⟨go,λp z=>∃c r,vm N r/\vA G F p c r z/\fu g b (j.drop (i+1)) c=Z o,λp z q=>⟨j.length - (i+1),by omega,O,hlt,q⟩,λx z y=>?_⟩;obtain⟨Y,M,t2,t3,t4,t5⟩:=yl x z y;have R2:=I.i1 t3 M t2 t4;cases S:g j[i] c with
   |none=>simp only[S]at a;cases a
   |some w=>
    simp only[S]at a;refine⟨F,c,Y,_,w,R2,t5,S,λσ3 _ R3=>?_⟩;have T:=k.J' (s1.t (A.t M));cases u:b w with
    |none=>simp only[u]at a;cases a
    |some q=>
     refine⟨F,w,Y,q,R3,u,?_,λ_=>O⟩;cases q with
     |nx l=>simp only[u]at a;exact λp t z U P=>⟨l,t,A.t (M.t U),P,a⟩
     |ct l=>simp only[u]at a;exact λp t z U P=>⟨l,t,A.t (M.t U),P,a⟩
     |bk l=>simp only[u]at a;cases a;exact T
     |rt d l=>simp only[u]at a;cases a;exact T
     |X d l=>simp only[u]at a;cases a;exact T
  .have ez:j.drop i=[]:=oj (by omega);rw[ez]at a;unfold fu at a;cases a;exact .inl ⟨(wk i r B A I.sub).2 (by omega),k _ _ _ (s1.t A) I⟩
def whL(c:FT)(b:FS):Nat->FS
 |0,_=>J
 |n+1,f=>match c f with
  |some (δ,e)=>Z (.nx e)
  |some (γ,e)=>match b e with
   |some (.nx a)=>whL c b n a
   |some (.ct a)=>whL c b n a
   |some (.bk a)=>Z (.nx a)
   |some (.rt d a)=>Z (.rt d a)
   |some (.X d a)=>Z (.X d a)
   |none=>J
  |none=>J
def Rq{st:Stmt}(n:Nat)(h:PS X st (Sn (pa G c) (mu G b))):PS X st (mu G (whL c b n)):=PS.en h λE Q H Y=>by
 obtain⟨F,P,B,o,R,e,k,k2⟩:=Y;refine⟨λm Q H=>∃i r,vm B r/\vA G F Q i r H/\whL c b m i=Z o,⟨n,P,B,vm.refl _,R,e⟩,?_⟩;rintro m σi U ⟨i,r,A,W,a⟩;cases m with
 |zero=>cases a
 |succ m=>
  unfold whL at a;rcases vH (f:=c) (ρ:=i)with x|⟨t,w,x⟩
  .simp only[x]at a;cases a
  .refine⟨F,i,r,t,w,W,x,λS T z N=>?_⟩;cases t with
   |false=>simp only[x]at a;cases a;exact LV (k _ _ _ (A.t z) N)
   |true=>
    simp only[x]at a;refine LW ⟨λl y=>∃i r,vm B r/\vA G F l i r y/\whL c b m i=Z o,λl y q=>⟨m,dy m,q⟩,?_⟩;have I:=k.J' (A.t z);cases u:b w with
    |none=>simp only[u]at a;cases a
    |some q=>
     refine⟨F,w,S,q,N,u,?_,λ_=>O⟩;cases q with
     |nx j=>simp only[u]at a;exact λl p y M C=>⟨j,p,A.t (z.t M),C,a⟩
     |ct j=>simp only[u]at a;exact λl p y M C=>⟨j,p,A.t (z.t M),C,a⟩
     |bk j=>simp only[u]at a;cases a;exact I
     |rt d j=>simp only[u]at a;cases a;exact I
     |X d j=>simp only[u]at a;cases a;exact I
end
def Sl.e?:Sl->Sl
 |.z d=>.z d
 |.O a=>.pm a
 |.pm a=>.pm a
 |_=>.un
def Fb(k:Nat)(e?:List Nat)(ρ:aS):aS:=bU k .un++e?.map λj=>((ρ[j]?).getD .un).e?
def yD:List Nat->aS->aS->Option aS
 |[],_,a=>Z a
 |j::e?,t::b,a=>match xf a j with
  |some _=>match t with
   |.pm c=>yD e? b (putAt a j c)
   |_=>J
  |none=>yD e? b a
 |_::_,[],_=>J
def Av(k:Nat)(e?:List Nat)(g:FG)(ft:FT)(f:FE):bj->aS->Option (bj×aS)
 |[],c=>Z ([],c)
 |d::r,c=>match g d (Fb k e? c)with
  |none=>J
  |some h=>match ft h with
   |some (γ,b)=>match f b with
    |some (x,i)=>match yD e? (i.drop k) c with
     |some a=>match Av k e? g ft f r a with
      |some (j,e)=>Z (x::j,e)
      |none=>J
     |none=>J
    |none=>J
   |some (δ,b)=>match yD e? (b.drop k) c with
    |some a=>Av k e? g ft f r a
    |none=>J
   |none=>J
def u5(k:Nat)(e?:List Nat)(s:FA)(g:FG)(ft:FT)(fe:FE):FA:=λc=>match s c with
 |some (b,a)=>if b.length<=1000 then Av k e? g ft fe b a else J
 |none=>J
def vP:FT:=λa=>Z (γ,a)
theorem B7:∀{e?:List Nat} {A f b:aS},yD e? A f=Z b->b.length=f.length/\
  (∀(j:Nat) (c:Sl),b[j]?=Z c->∃s,f[j]?=Z s/\((c=s/\(s.L≠J->j∉e?))\/∃(m:Nat) (i a:bj),e?[m]?=Z j/\A[m]?=Z (Sl.pm i)/\s.L=Z a/\c=s.putL i))
 |[],A,f,b,h=>by cases h;exact⟨O,λj c e=>⟨c,e,.inl ⟨O,λ_ z=>by cases z⟩⟩⟩
 |F::e?,[],f,b,h=>by cases h
 |F::e?,t::A,f,b,h=>by
  unfold yD at h;cases l:xf f F with
  |none=>
   simp only[l]at h;obtain⟨B,C⟩:=B7 h;refine⟨B,λj c e=>?_⟩;obtain⟨s,r,q⟩:=C j c e;refine⟨s,r,?_⟩;rcases q with ⟨rfl,q⟩|⟨m,i,a,u,w,q3,x⟩
   .refine .inl ⟨O,λz y=>?_⟩;rcases aO.1 y with y|y
    .subst y;unfold xf at l;rw[r]at l;exact z l
    .exact q z y
   .exact .inr ⟨m+1,i,a,u,w,q3,x⟩
  |some p=>
   simp only[l]at h;cases t with
   |pm i=>
    simp only at h;obtain⟨H,r,G⟩:=zv l;unfold putAt at h;rw[r]at h;simp only at h;obtain⟨B,C⟩:=B7 h;refine⟨by rw[B,eJ],λj c e=>?_⟩;obtain⟨s,o,q⟩:=C j c e;by_cases E:F=j
    .subst E;rw[b0,aj O]at o;split at o
     .cases o;refine⟨H,r,.inr ?_⟩;rcases q with ⟨rfl,q⟩|⟨m,d,a,u,w,q3,x⟩
      .exact⟨0,i,p,O,O,G,O⟩
      .refine⟨m+1,d,p,u,w,G,?_⟩;rw[x];cases H<;>rfl
     .cases o
    .rw[b0,ao E]at o;refine⟨s,o,?_⟩;rcases q with ⟨rfl,q⟩|⟨m,d,a,u,w,q3,x⟩
     .refine .inl ⟨O,λz y=>?_⟩;rcases aO.1 y with y|y
      .exact E y.symm
      .exact q z y
     .exact .inr ⟨m+1,d,a,u,w,q3,x⟩
   |_=>cases h
def Ke(e?:List Nat)(b:St)(ρ:aS):List Addr:=e?.filterMap λj=>match xf ρ j,(b[j]?).join with
 |some _,Z (.ref a)=>Z a
 |_,_=>J
def Dh:a∈Ke e? i h ↔ ∃j∈e?,(∃b,xf h j=Z b)/\(i[j]?).join=Z (.ref a):=by
 unfold Ke;rw[iF];constructor
 .rintro⟨j,f,e⟩;refine⟨j,f,?_⟩;split at e
  .rename_i b l c d;cases e;exact⟨⟨b,c⟩,d⟩
  .cases e
 .rintro⟨j,f,⟨b,c⟩,d⟩;refine⟨j,f,?_⟩;rw[c,d]
section
variable{X:Cx}{G:Bg}{F:Fr}{σ:St}{ρ:aS}{H0 H:Hp}
def IU(h:(Fb k e? ρ)[i]?=Z s):s=.un\/∃m j,i=k+m/\e?[m]?=Z j/\s=((ρ[j]?).getD .un).e?:=by
 unfold Fb at h;by_cases a:i<k
 .rw[fS (by simpa using a),js,aj a]at h;cases h;exact .inl O
 .rw[fR (by simpa using pU a),cZ,bB]at h;cases e:e?[i - k]? with
  |none=>rw[e]at h;cases h
  |some j=>rw[e]at h;cases h;exact .inr ⟨i - k,j,by omega,e,O⟩
def Fc(h:e?[m]?=Z j):((zb k e? σ)[k+m]?).join=(σ[j]?).join:=by unfold zb;rw[fR (by simp),cZ,show k+m - k=m by omega,bB,h];rfl
theorem vA.e?(R:vA G F σ ρ H0 H)(k:Nat)(e?:List Nat)(nd:e?.Nodup):vA G ⟨H0,H,Ke e? σ ρ⟩ (zb k e? σ) (Fb k e? ρ) H0 H where
 sub:=R.sub
 g0:=vm.refl _
 keep:=λb o e _=>e
 fr:=λb o e=>.inl e
 am:=λa ha=>by obtain⟨j,x,⟨ds,l⟩,r⟩:=Dh.1 ha;obtain⟨s,E,I⟩:=zv l;obtain⟨T,xs,f,p,_⟩:=(R.sl j s E).bt I;rw[r]at f;cases f;exact⟨_,p⟩
 len:=by unfold zb Fb;rw[aC,aC,cZ,cZ,ag,ag]
 sl:=λi s e=>by
  rcases IU e with rfl|⟨m,j,rfl,l,rfl⟩
  .trivial
  .rw[Fc l];cases r:ρ[j]? with
   |none=>trivial
   |some s=>
    have ok:=R.sl j s r;have mem:∀{a:Addr} {ds:bj},s.L=Z ds->(σ[j]?).join=Z (.ref a)->a∈Ke e? σ ρ:=λf p=>Dh.2 ⟨j,cj l,⟨_,by unfold xf;rw[r];exact f⟩,p⟩;cases s with
    |un=>trivial
    |z d=>exact ok
    |O ds=>obtain⟨a,xs,f,p,u,M,w⟩:=ok;exact⟨a,xs,f,p,u,mem O f,w⟩
    |pm ds=>obtain⟨a,xs,f,p,u,M,w⟩:=ok;exact⟨a,xs,f,p,u,mem O f,w⟩
    |dk ks ds=>trivial
    |ob c ns ds=>trivial
 ap:=λi U s t a hii e C so to v B=>by
  rcases IU e with rfl|⟨m,j,rfl,l,rfl⟩
  .cases so
  rcases IU C with rfl|⟨N,A,rfl,q,rfl⟩
  .cases to
  rw[Fc l]at v;rw[Fc q]at B;have jj:∀{j:Nat},(((ρ[j]?).getD Sl.un).e?).jj=γ->∃s,ρ[j]?=Z s/\s.jj=γ:=λ{j} h=>by
   cases z:ρ[j]? with
   |none=>rw[z]at h;cases h
   |some s=>rw[z]at h;refine⟨s,O,?_⟩;cases s<;>first|rfl|cases h
  obtain⟨s,z,S⟩:=jj so;obtain⟨P,Q,y⟩:=jj to;by_cases x:j=A
  .subst x;have:m=N:=(List.getElem?_inj (cg.1 l).1 nd).1 (l.t q.symm);exact hii (by rw[this])
  .exact R.ap j A s P a x z Q S y v B
theorem vA.uncap(R:vA G F σ ρ H0 H){k:Nat}{e?:List Nat}{f:St}{C ρ':aS}{H1 p:Hp}(c:vA G ⟨H0,H,Ke e? σ ρ⟩ f C H1 p)(hd:f.drop k=(zb k e? σ).drop k)(hu:yD e? (C.drop k) ρ=Z ρ'):vA G F σ ρ' H1 p:=by
 obtain⟨hl,hc⟩:=B7 hu;have I:∀{m j:Nat},e?[m]?=Z j->(f[k+m]?).join=(σ[j]?).join:=λ{m j} e=>by
  have q:(f.drop k)[m]?=((zb k e? σ).drop k)[m]?:=by rw[hd]
  rw[fj,fj]at q;rw[q];exact Fc e
 have nA:∀{j:Nat} {s:Sl} {a:Addr},ρ[j]?=Z s->s.jj=γ->(σ[j]?).join=Z (.ref a)->(s.L≠J->j∉e?)->a∉Ke e? σ ρ:=λ{j s a} e so z hn ha=>by
  obtain⟨i,hi,⟨ds,d⟩,P⟩:=Dh.1 ha;obtain⟨t,r,E⟩:=zv d;by_cases hij:i=j
  .subst hij;rw[e]at r;cases r;exact hn (by rw[E];simp) hi
  .exact R.ap i j t s a hij r e (Sl.vu E) so P z
 have hA:∀a∈Ke e? σ ρ,F.B a=J\/a∈F.A:=λa ha=>by obtain⟨i,hi,⟨ds,d⟩,P⟩:=Dh.1 ha;obtain⟨t,r,E⟩:=zv d;obtain⟨Y,u,h,Q,S,h4⟩:=(R.sl i t r).at (Sl.vu E);rw[P]at h;cases h;exact h4
 have own':∀{j:Nat} {l:Sl},ρ'[j]?=Z l->l.jj=γ->∃s,ρ[j]?=Z s/\s.jj=γ:=λ{j l} e so=>by
  obtain⟨s,d,q⟩:=hc j l e;rcases q with ⟨rfl,q⟩|⟨m,ds,M,q1,T,q3,q4⟩
  .exact⟨l,d,so⟩
  .exact⟨s,d,Sl.vu q3⟩
 exact {
  sub:=c.sub
  g0:=R.g0.t c.g0
  keep:=λb o e n=>by
   refine c.keep b o (R.keep b o e n) λha=>?_;rcases hA b ha with q|q
   .rw[q]at e;cases e
   .exact n q
  fr:=λb o e=>by
   rcases c.fr b o e with q|q
   .exact R.fr b o q
   .exact .inr (R.i0 q)
  am:=λa ha=>by
   obtain⟨o,q⟩:=R.am a ha;by_cases z:a∈Ke e? σ ρ
   .exact c.am a z
   .exact⟨o,c.keep a o q z⟩
  len:=by rw[hl];exact R.len
  sl:=λj l e=>by
   obtain⟨s,d,q⟩:=hc j l e;rcases q with ⟨rfl,q⟩|⟨m,ds,M,q1,T,q3,q4⟩
   .refine(R.sl j l d).i1 c.g0 (λa u z so y=>c.keep a u y (nA d so z q)) λa u z so y y0=>?_;cases w:H1 a with
    |none=>rfl
    |some o=>
     rcases c.fr a o w with x|x
     .have U:H0 a=Z o:=x;rw[U]at y0;cases y0
     .have U:H a=J:=x;rw[U]at y;cases y
   .rw[fj]at T;obtain⟨a,xs,h,Q,S,h4,h5⟩:=c.sl _ _ T;rw[I q1]at h;have ok:=R.sl j s d;subst q4;cases s with
    |O N=>obtain⟨Y,W,g1,g2,g3,g4,g5⟩:=ok;rw[h]at g1;cases g1;exact⟨a,xs,h,Q,S,g4,h5⟩
    |pm N=>obtain⟨Y,W,g1,g2,g3,g4,g5⟩:=ok;rw[h]at g1;cases g1;exact⟨a,xs,h,Q,S,g4,h5⟩
    |_=>cases q3
  ap:=λi j s t a hij ei ej so to v v'=>by
   obtain⟨s0,z,zo⟩:=own' ei so;obtain⟨t0,y,yo⟩:=own' ej to;exact R.ap i j s0 t0 a hij z y zo yo v v' }
def Di{k:Nat}(h:ri σ ρ p)(f:yD e? t ρ=Z a):ri σ a p:=λi c e so=>by
 obtain⟨s,b,q⟩:=(B7 f).2 i c e;rcases q with ⟨rfl,q⟩|⟨m,j,d,l,o,q3,r⟩
 .exact h i c b so
 .exact h i s b (Sl.vu q3)
inductive CI(G:Bg) (F:Fr) (σ:St) (H1:Hp) (p:Addr) (k:Nat) (e?:List Nat) (g:FG) (ft:FT) (fe:FE) (ds es:bj) (ρ':aS) (i m:Nat) (acc:bL) (H2:Hp):Prop
 |mk (ρi:aS) (Hi:Hp) (dn ey:bj):m=ds.length - i->i<=ds.length->vm H1 Hi->vA G F σ ρi Hi H2->H2 p=Z (.bt acc)->Hi p=J->ri σ ρi p->uS G Hi dn acc->dn.length<=i->Av k e? g ft fe (ds.drop i) ρi=Z (ey,ρ')->es=dn++ey->CI G F σ H1 p k e? g ft fe ds es ρ' i m acc H2
def LY{e?:List Nat}(nd:e?.Nodup):∀σ H Q,z0 G (u5 k e? s g ft fe) σ H Q->G0 (XC G s) (tFG G k g) (pa G ft) (tF G fe) k e? σ H Q:=λσ H Q hh=>by
 obtain⟨F,ρ,H0,es,ρ',R,e,kk⟩:=hh;unfold u5 at e;rcases vH (f:=s) (ρ:=ρ)with e1|⟨c,ρ1,e1⟩<;>simp only[e1]at e
 .cases e
 .split at e
  .rename_i hlen;refine⟨F,ρ,H0,c,ρ1,R,e1,λAt H1 H1' s1 P wk p T=>?_⟩;refine⟨CI G F σ H1 p k e? g ft fe c es ρ',
    ⟨_,ρ1,H1,[],es,O,cp _,vm.refl _,P.l' T _,ve,P.f3 T,P.apart T,vN,aN _,e,O⟩,?_⟩
   rintro i m acc H2 ⟨d,Hi,dn,ey,rfl,hi,Y,Ri,C,U,apt,rs,hdn,a,rfl⟩;by_cases hlt:i<c.length
   .have ed:c.drop i=c[i]::c.drop (i+1):=jo hlt;rw[ed]at a;unfold Av at a;obtain⟨go,yl⟩:=(wk i Hi H2 Y Ri.sub).1 c[i] (bh hlt);refine .inr ⟨go,λx H3 y=>?_⟩;obtain⟨I,t1,t2,t3,t4,t5⟩:=yl x H3 y;have R2:=Ri.i1 t3 t1 t2 t4;have W:H3 p=Z (.bt acc):=t3 _ _ C;have hpj:I p=J:=by
     cases w:I p with
     |none=>rfl
     |some o=>
      rcases t4 p o w with z|z
      .rw[U]at z;cases z
      .rw[C]at z;cases z
    have RC:=R2.e? k e? nd;have npA:p∉Ke e? σ d:=λz=>by obtain⟨j,_,⟨ds',q1⟩,q2⟩:=Dh.1 z;obtain⟨t,q3,q4⟩:=zv q1;exact apt j t q3 (Sl.vu q4) q2
    cases e2:g c[i] (Fb k e? d)with
    |none=>simp only[e2]at a;cases a
    |some E=>
     simp only[e2]at a;refine⟨_,_,I,c[i],E,RC,t5,e2,λσ4 B R4=>⟨B,?_⟩⟩;rcases vH (f:=ft) (ρ:=E)with S|⟨b,l,S⟩
     .simp only[S]at a;cases a
     .refine⟨_,E,I,b,l,R4,S,λH5 H5' s5 R5=>?_⟩;have keepP:∀{σ':St} {ρ'':aS} {Ha N:Hp},vA G ⟨I,H3,Ke e? σ d⟩ σ' ρ'' Ha N->N p=Z (.bt acc)/\Ha p=J:=λRz=>by
       refine⟨Rz.keep p _ W npA,?_⟩;refine Option.eq_none_iff_forall_ne_some.2 λo M=>?_;rcases Rz.fr p o M with z|z
       .have z':I p=Z o:=z;rw[hpj]at z';cases z'
       .have z':H3 p=J:=z;rw[W]at z';cases z'
      cases b with
      |false=>
       simp only[S]at a;refine LV ?_;cases h:yD e? (l.drop k) d with
       |none=>simp only[h]at a;cases a
       |some r=>simp only[h]at a;obtain⟨w1,M⟩:=keepP R5;exact⟨c.length - (i+1),by omega,r,H5,dn,ey,O,hlt,Y.t (t1.t s5),R2.uncap R5 B h,w1,M,Di (k:=k) apt h,uS.mono (t1.t s5) _ _ rs,by omega,a,O⟩
      |true=>
       simp only[S]at a;refine LW ?_;rcases vH (f:=fe) (ρ:=l)with e5|⟨x5,ρ5,e5⟩
       .simp only[e5]at a;cases a
       .simp only[e5]at a;refine⟨_,l,H5,x5,ρ5,R5,e5,λv H6 H6' s6 R6 rv=>?_⟩;obtain⟨w1,M⟩:=keepP R6;cases h:yD e? (ρ5.drop k) d with
        |none=>simp only[h]at a;cases a
        |some r=>
         simp only[h]at a;cases e6:Av k e? g ft fe (c.drop (i+1)) r with
         |none=>simp only[e6]at a;cases a
         |some q=>
          obtain⟨rest',ρz⟩:=q;simp only[e6]at a;cases a;have A:=R2.uncap R6 B h;have lacc:acc.length=dn.length:=(uX rs).symm;refine⟨acc,w1,DW (by omega),c.length - (i+1),by omega,r,H6,dn++[x5],rest',O,hlt,Y.t (t1.t (s5.t s6)),?_,ve,M,Di (k:=k) apt h,xk (uS.mono (t1.t (s5.t s6)) _ _ rs) (vU rv vN),by rw[aC,cF];omega,e6,by rw[bX];rfl⟩;exact {
           sub:=λb o e=>by rw[vt (λz=>by rw[z,M]at e;cases e)];exact A.sub b o e
           g0:=A.g0
           keep:=λb o e n=>by rw[vt (λz=>by subst z;rw[P.i0 T]at e;cases e)];exact A.keep b o e n
           fr:=A.fr
           am:=λb hb=>by
            by_cases z:b=p
            .subst z;exact⟨_,ve⟩
            .rw[vt z];exact A.am b hb
           len:=A.len
           sl:=λj t ej=>(A.sl j t ej).i1 (vm.refl _) (λb u z to q=>by rw[vt (λy=>Di (k:=k) apt h j t ej to (by rw[z,y]))];exact q) λb u _ _ _ q=>q
           ap:=A.ap }
   .have ez:c.drop i=[]:=oj (by omega);rw[ez]at a;unfold Av at a;cases a;rw[bS]at kk;exact .inl ⟨(wk i Hi H2 Y Ri.sub).2 (by omega),kk p acc Hi H2 (s1.t Y) Ri C U (P.i0 T) apt rs⟩
  .cases e
def Tg{e?:List Nat}(c:e?.Nodup)(h:PE X e (G0 (XC G s) (tFG G k g) (pa G b) (tF G a) k e?)):PE X e (z0 G (u5 k e? s g b a)):=PE.en h (LY c)
def Ti:PIf X [] (pa G vP):=λa s σ H Q I h=>by obtain⟨F,ρ,H0,b,c,R,e,k⟩:=h;cases e;exact Wj a s σ H Q I (k _ _ (vm.refl _) R)
end
def xH:D->Bool
 |.E=>γ|.I _=>γ|.int _=>γ|.str _=>γ|_=>δ
def vD:D->V
 |.E=>.E|.I b=>.I b|.int i=>.int i|.str x=>.str x|_=>.E
section
variable{X:Cx}{G:Bg}{H:Hp}
def zO(h:cb G H d v)(f:xH d=γ):v=vD d:=by cases d<;>first|(unfold cb at h;exact h)|cases f
def Fd(f:xH d=γ):∀H,cb G H d (vD d):=λH=>by cases d<;>first|(unfold cb;rfl)|cases f
theorem Gi:∀{a:bj} {b:bL},uS G H a b->a.all xH=γ->b=a.map vD
 |[],b,h,f=>by unfold uS at h;exact h
 |d::a,b,h,f=>by unfold uS at h;obtain⟨v,r,rfl,c,e⟩:=h;rw[f9,aY]at f;rw[aI,zO c f.1,Gi e f.2]
def Nk(f:xH d=γ):Eb (vD d)=γ:=by cases d<;>first|rfl|cases f
theorem KN:∀{a:bj},a.all xH=γ->(a.map vD).all Eb=γ
 |[],_=>rfl
 |d::a,f=>by rw[f9,aY]at f;rw[aI,f9,Nk f.1,KN f.2];rfl
def j?.or(h:j? X f r)(e:j? X f i):j? X f (λx y H Q=>r x y H Q\/i x y H Q):=λa s d H x y v u Q I b c q=>q.elim (h a s d H x y v u Q I b c) (e a s d H x y v u Q I b c)
def l?.or(h:l? G r g)(i:l? G j f):l? G (λx y H Q=>r x y H Q\/j x y H Q) (λx y=>match g x y with|some z=>Z z|none=>f x y):=λx y z b H v u Q e s c d k=>by
 cases a:g x y with
 |some w=>simp only[a]at e;cases e;exact .inl (h x y _ b H v u Q a s c d k)
 |none=>simp only[a]at e;exact .inr (i x y z b H v u Q e s c d k)
def dI(C:Int->Int->Bool)(g:Int->Int->D):D->D->Option D
 |.int a,.int b=>if C a b=γ then Z (g a b)else J
 |_,_=>J
def PM(hC:∀a b,C a b=γ->i a b)(d:∀a b,xH (g a b)=γ/\vD (g a b)=j a b):l? G (rI i j) (dI C g):=λx y z m H v u Q e s f h k=>by
 unfold dI at e;split at e
 .rename_i a b;split at e
  .rename_i l;cases e;unfold cb at f h;exact⟨a,b,f,h,hC _ _ l,by rw[<-(d a b).2];exact k _ λc _=>Fd (d a b).1 c⟩
  .cases e
 .cases e
def Gj(d:∀a b,xH (g a b)=γ/\vD (g a b)=i a b):l? G (W' i) (dI (λ_ _=>γ) g):=λx y z j H v u Q e s f h k=>by
 unfold dI at e;split at e
 .rename_i a b;split at e
  .cases e;unfold cb at f h;exact⟨a,b,f,h,by rw[<-(d a b).2];exact k _ λc _=>Fd (d a b).1 c⟩
  .cases e
 .cases e
def wZ:=dI (λ_ _=>γ) λa b=>.int (a+b)
def IV:=dI (λ_ _=>γ) λa b=>.int (a - b)
def B8(a:Int):Bool:=decide (-(2 ^ 64)<a)&&decide (a<2 ^ 64)
def yA:=dI (λa b=>B8 a||B8 b) λa b=>.int (a * b)
def yB:=dI (λ_ b=>decide (0<b)) λa b=>.int (a % b)
def Ec:=dI (λ_ b=>decide (0<b)&&decide (b<1073741824)) λa b=>.int (a / b)
def Tj:=dI (λa b=>decide (0<=b)&&decide (b<=1000000)&&decide (a.natAbs<2 ^ 64)) λa b=>.int (a ^ b.toNat)
def HY:=dI (λ_ _=>γ) λa b=>.I (decide (a<b))
def Ae:=dI (λ_ _=>γ) λa b=>.I (decide (a<=b))
def LZ:=dI (λ_ _=>γ) λa b=>.I (decide (b<a))
def Z1:=dI (λ_ _=>γ) λa b=>.I (decide (b<=a))
def Z2:l? G (W' λi j=>.int (i+j)) wZ:=Gj λ_ _=>⟨O,O⟩
def Z3:l? G (W' λi j=>.int (i - j)) IV:=Gj λ_ _=>⟨O,O⟩
def Z4:l? G (rI V1 λi j=>.int (i * j)) yA:=PM (λa b h=>by
 unfold B8 at h;simp only[jM,aY,bT]at h;exact h) λ_ _=>⟨O,O⟩
def Z5:l? G (rI (λ_ j=>0<j) λi j=>.int (i % j)) yB:=PM (λa b h=>by simpa using h) λ_ _=>⟨O,O⟩
def Z6:l? G (rI Y6 λi j=>.int (i / j)) Ec:=PM (λa b h=>by unfold Y6;simpa using h) λ_ _=>⟨O,O⟩
def Z7:l? G (rI CPow λi j=>.int (i ^ j.toNat)) Tj:=PM (λa b h=>by
 simp only[aY,bT]at h;exact⟨h.1.1,h.1.2,h.2⟩) λ_ _=>⟨O,O⟩
def adm:l? G (W' λi j=>.I (decide (i<j))) HY:=Gj λ_ _=>⟨O,O⟩
def adn:l? G (W' λi j=>.I (decide (i<=j))) Ae:=Gj λ_ _=>⟨O,O⟩
def ado:l? G (W' λi j=>.I (decide (j<i))) LZ:=Gj λ_ _=>⟨O,O⟩
def adp:l? G (W' λi j=>.I (decide (j<=i))) Z1:=Gj λ_ _=>⟨O,O⟩
def Fe:D->D->Option D
 |.str a,.str b=>if a.length+b.length<=100000 then Z (.str (a++b))else J
 |_,_=>J
def IW(h:n<=100000):n<=aG:=bG h (by rw[bQ];decide)
def WY:l? G (λx y H Q=>∃i j,x=.str i/\y=.str j/\i.length+j.length<=aG/\Q (.str (i++j)) H) Fe:=λx y z h H v u Q e s c d k=>by
 unfold Fe at e;split at e
 .rename_i a b;split at e
  .rename_i f;cases e;unfold cb at c d;exact⟨a,b,c,d,IW f,k _ λ_ _=>zJ _⟩
  .cases e
 .cases e
def Tn:D->D->Option D
 |.str a,.str b=>Z (.I (!decide (b.cps.toList<a.cps.toList)))
 |_,_=>J
def Z8:l? G (λx y H Q=>∃i j,x=.str i/\y=.str j/\Q (.I (!decide (j.cps.toList<i.cps.toList))) H) Tn:=λx y z f H v u Q e s c d k=>by
 unfold Tn at e;split at e
 .rename_i a b;cases e;unfold cb at c d;exact⟨a,b,c,d,k _ λ_ _=>xZ _⟩
 .cases e
def zw:D->D->Option D
 |.E,.E=>Z (.I γ)
 |_,.E=>Z (.I δ)
 |_,_=>J
def w6:D->D->Option D
 |.E,.E=>Z (.I δ)
 |_,.E=>Z (.I γ)
 |_,_=>J
def PN(h:cb G H d v):decide (v=.E)=(match d with|.E=>γ|_=>δ):=by
 cases d<;>unfold cb at h
 .subst h;rfl
 .subst h;rfl
 .subst h;rfl
 .subst h;rfl
 .obtain⟨a,b,rfl,_⟩:=h;rfl
 .obtain⟨a,b,rfl,_⟩:=h;rfl
 .obtain⟨a,b,rfl,_⟩:=h;rfl
 .obtain⟨a,c,b,rfl,_⟩:=h;rfl
 .obtain⟨a,e,b,rfl,_⟩:=h;rfl
def Z9:l? G (λx y H Q=>y=.E/\Q (.I (decide (x=.E))) H) zw:=λx y z d H v u Q e s c a k=>by
 have b:=PN c;cases y<;>first|(cases x<;>cases e)|skip
 all_goals (unfold cb at a;refine⟨a,?_⟩;rw[b];exact k _ λ_ _=>xZ _)
def WZ:l? G (λx y H Q=>y=.E/\Q (.I (!decide (x=.E))) H) w6:=λx y z d H v u Q e s c a k=>by
 have b:=PN c;cases y<;>first|(cases x<;>cases e)|skip
 all_goals (unfold cb at a;refine⟨a,?_⟩;rw[b];exact k _ λ_ _=>xZ _)
def aen:D->D->Option D
 |.I a,.I b=>Z (.I (a != b))
 |_,_=>J
mutual
def rl:D->Option L3.Dq
 |.E=>Z .E
 |.I b=>Z (.I b)
 |.int i=>Z (.int i)
 |.str x=>Z (.str x)
 |.d? a=>match zx a with
  |some l=>Z (.d? l)
  |none=>J
 |.bt a=>match zx a with
  |some l=>Z (.bt l)
  |none=>J
 |.R _=>J
 |.obj _ _ _=>J
 |.Q _ _=>J
def zx:bj->Option (List L3.Dq)
 |[]=>Z []
 |d::a=>match rl d with
  |some x=>match zx a with
   |some l=>Z (x::l)
   |none=>J
  |none=>J
end
mutual
theorem Il:∀(d:D) (v:V) (x:L3.Dq),cb G H d v->rl d=Z x->L3.cb G.K H x v
 |.E,v,x,h,e=>by unfold rl at e;cases e;unfold cb at h;unfold L3.cb;exact h
 |.I b,v,x,h,e=>by unfold rl at e;cases e;unfold cb at h;unfold L3.cb;exact h
 |.int b,v,x,h,e=>by unfold rl at e;cases e;unfold cb at h;unfold L3.cb;exact h
 |.str b,v,x,h,e=>by unfold rl at e;cases e;unfold cb at h;unfold L3.cb;exact h
 |.d? f,v,x,h,e=>by
  unfold rl at e;cases c:zx f with
  |none=>simp only[c]at e;cases e
  |some l=>simp only[c]at e;cases e;unfold cb at h;obtain⟨a,i,rfl,j,m⟩:=h;unfold L3.cb;exact⟨a,i,O,j,Fg f i l m c⟩
 |.bt f,v,x,h,e=>by
  unfold rl at e;cases c:zx f with
  |none=>simp only[c]at e;cases e
  |some l=>simp only[c]at e;cases e;unfold cb at h;obtain⟨a,i,rfl,j,m⟩:=h;unfold L3.cb;exact⟨a,i,O,gi.of j,Fg f i l m c⟩
 |.R _,v,x,h,e=>by unfold rl at e;cases e
 |.obj _ _ _,v,x,h,e=>by unfold rl at e;cases e
 |.Q _ _,v,x,h,e=>by unfold rl at e;cases e
theorem Fg:∀(a:bj) (b:bL) (l:List L3.Dq),uS G H a b->zx a=Z l->L3.uS G.K H l b
 |[],b,l,h,e=>by unfold zx at e;cases e;unfold uS at h;unfold L3.uS;exact h
 |d::a,b,l,h,e=>by
  unfold zx at e;cases c:rl d with
  |none=>simp only[c]at e;cases e
  |some x=>
   simp only[c]at e;cases f:zx a with
   |none=>simp only[f]at e;cases e
   |some m=>simp only[f]at e;cases e;unfold uS at h;obtain⟨v,r,rfl,i,j⟩:=h;unfold L3.uS;exact⟨v,r,O,Il d v x i c,Fg a r m j f⟩
end
def Kg(neg:Bool):D->D->Option D:=λx y=>match xH x&&xH y&&Ss (vD x) (vD y)with
 |true=>Z (.I (if neg then !decide (vD x=vD y)else decide (vD x=vD y)))
 |false=>J
def OD(neg:Bool):D->D->Option D:=λx y=>match rl x,rl y with
 |some a,Z b=>if Pz a b&&decide (ll a<=20)&&decide (ll b<=20)then Z (.I (if neg then !nj a b else nj a b))else J
 |_,_=>J
def fb(neg:Bool):D->D->Option D:=λx y=>match Kg neg x y with
 |some z=>Z z
 |none=>OD neg x y
def aaa:l? G rEq (Kg δ):=λx y z d H v u Q e s b c k=>by
 unfold Kg at e;cases a:xH x&&xH y&&Ss (vD x) (vD y)with
 |false=>simp only[a]at e;cases e
 |true=>simp only[a]at e;cases e;simp only[aY]at a;rw[zO b a.1.1,zO c a.1.2];exact⟨a.2,k _ λ_ _=>xZ _⟩
def aab:l? G rNe (Kg γ):=λx y z d H v u Q e s b c k=>by
 unfold Kg at e;cases a:xH x&&xH y&&Ss (vD x) (vD y)with
 |false=>simp only[a]at e;cases e
 |true=>simp only[a]at e;cases e;simp only[aY]at a;rw[zO b a.1.1,zO c a.1.2];exact⟨a.2,k _ λ_ _=>xZ _⟩
def To:l? G (Oy G.K neg) (OD neg):=λx y z j H v u Q e s h i k=>by
 unfold OD at e;cases c:rl x with
 |none=>simp only[c]at e;cases e
 |some a=>
  cases f:rl y with
  |none=>simp only[c,f]at e;cases e
  |some b=>
   simp only[c,f]at e;split at e
   .rename_i d;cases e;simp only[aY,bT]at d;exact⟨a,b,Il x v a (cb.mono s _ _ h) c,Il y u b (cb.mono s _ _ i) f,d.1.1,d.1.2,d.2,k _ λ_ _=>xZ _⟩
   .cases e
def aac(a:X.A.units+64<cLine)(hK:X.K=G.K:=by rfl):j? X (bw .Eq) (λx y H Q=>rEq x y H Q\/Oy G.K δ x y H Q):=by rw[<-hK];exact j?.or acR (Zv a)
def aad(a:X.A.units+64<cLine)(hK:X.K=G.K:=by rfl):j? X (bw .NotEq) (λx y H Q=>rNe x y H Q\/Oy G.K γ x y H Q):=by rw[<-hK];exact j?.or acS (Zw a)
def adq:l? G (λx y H Q=>rEq x y H Q\/Oy G.K δ x y H Q) (fb δ):=l?.or aaa To
def ads:l? G (λx y H Q=>rNe x y H Q\/Oy G.K γ x y H Q) (fb γ):=l?.or aab To
def Tp:D->Option bj
 |.d? a=>Z a
 |.bt a=>Z a
 |.R a=>Z a
 |_=>J
def PQ(h:cb G H d v)(e:Tp d=Z i):∃p b,v=.ref p/\(gi G.K H p b\/ij G.K H p b)/\uS G H i b:=by
 cases d with
 |d? l=>cases e;unfold cb at h;obtain⟨a,b,rfl,c,f⟩:=h;exact⟨a,b,O,.inr c,f⟩
 |bt l=>cases e;unfold cb at h;obtain⟨a,b,rfl,c,f⟩:=h;exact⟨a,b,O,.inl (gi.of c),f⟩
 |R l=>cases e;unfold cb at h;obtain⟨a,b,rfl,c,f⟩:=h;exact⟨a,b,O,.inl c,f⟩
 |_=>cases e
def m?(neg:Bool):D->D->Option D:=λx y=>match Tp y with
 |some a=>if xH x&&a.all xH then Z (.I (if neg then !inV (vD x) (a.map vD)else inV (vD x) (a.map vD)))else J
 |none=>J
def PR{K:av}(s:vm H b)(h:gi K H p a\/ij K H p a):gi K b p a\/ij K b p a:=h.imp s.seq (ij.mono s)
def Yj:l? G (rIn G.K neg) (m? neg):=λx y z j H v u Q e s d h k=>by
 unfold m? at e;cases b:Tp y with
 |none=>simp only[b]at e;cases e
 |some l=>
  simp only[b]at e;split at e
  .rename_i a;cases e;simp only[aY]at a;obtain⟨p,i,rfl,f,c⟩:=PQ h b;refine⟨p,i,O,PR s f,?_,?_,?_⟩
   .rw[zO d a.1];exact Nk a.1
   .rw[Gi c a.2];exact KN a.2
   .rw[zO d a.1,Gi c a.2];exact k _ λ_ _=>xZ _
  .cases e
def aae(hK:X.K=G.K:=by rfl):j? X (bw .In) (rIn G.K δ):=by rw[<-hK];exact Q3
def Rr(hK:X.K=G.K:=by rfl):j? X (bw .NotIn) (rIn G.K γ):=by rw[<-hK];exact LM
def f?:D->D->Option D
 |.d? a,.int i=>A? a i
 |.bt a,.int i=>A? a i
 |.R a,.int i=>A? a i
 |.str x,.int i=>if x.length<=100000 then (A? x.cps.toList i).map λc=>.str ⟨#[c]⟩else J
 |_,_=>J
def adt:l? G (rIx G.K) f?:=λx y z B H v u Q e s b r k=>by
 cases y with
 |int i=>
  unfold cb at r;subst r;cases x with
  |d? f=>unfold cb at b;obtain⟨a,p,rfl,h,j⟩:=b;obtain⟨w,m,o⟩:=E8 j (show A? f i=Z z from e);exact .inr (.inl ⟨a,p,i,w,O,O,ij.mono s h,m,k _ λd l=>cb.mono l _ _ o⟩)
  |bt f=>unfold cb at b;obtain⟨a,p,rfl,h,j⟩:=b;obtain⟨w,m,o⟩:=E8 j (show A? f i=Z z from e);exact .inl ⟨a,p,i,w,O,O,s.seq (gi.of h),m,k _ λd l=>cb.mono l _ _ o⟩
  |R f=>unfold cb at b;obtain⟨a,p,rfl,h,j⟩:=b;obtain⟨w,m,o⟩:=E8 j (show A? f i=Z z from e);exact .inl ⟨a,p,i,w,O,O,s.seq h,m,k _ λd l=>cb.mono l _ _ o⟩
  |str t=>
   unfold cb at b;subst b;unfold f? at e;simp only at e;split at e
   .rename_i A;cases q:A? t.cps.toList i with
    |none=>rw[q]at e;cases e
    |some c=>rw[q]at e;cases e;exact .inr (.inr ⟨t,i,c,O,O,IW A,q,k _ λ_ _=>zJ _⟩)
   .cases e
  |_=>cases e
 |_=>cases x<;>cases e
def ix_X(hK:X.K=G.K:=by rfl):IxR X (rIx G.K):=by rw[<-hK];exact Zk
def IY(G:Bg)(r:bL->Hp->VK->Prop)(g:D->Option D):Prop:=∀x z b H v (Q:VK),g x=Z z->vm b H->cb G b x v->(∀w,(∀a,vm b a->cb G a z w)->Q w H)->r [v] H Q
def Tr(q:IY G r g)(h:PE X e (tCB r (vf G (ax f vC)))):PE X e (tF G (c1 g f)):=PE.en h λB H Q p=>by obtain⟨F,y,j,d,b,R,e,k⟩:=p;obtain⟨x,m,o⟩:=E6 e;refine⟨F,y,j,[x],b,R,by unfold ax;rw[m];rfl,λA l a s c rs=>?_⟩;unfold uS at rs;obtain⟨v,z,rfl,u,i⟩:=rs;unfold uS at i;subst i;exact q x d l a v Q o c.sub u λw t=>k _ _ _ s c (t _ (vm.refl _))
def wR.or(h:wR X f r)(i:wR X f j):wR X f (λx H Q=>r x H Q\/j x H Q):=λa s e H d c Q I b q=>q.elim (h a s e H d c Q I b) (i a s e H d c Q I b)
def wY:D->Option D
 |.d? a=>Z (.int a.length)
 |.bt a=>Z (.int a.length)
 |.R a=>Z (.int a.length)
 |.str x=>if x.length<=100000 then Z (.int x.length)else J
 |.Q b a=>Z (.int b.length)
 |_=>J
def Rt:wR X (.builtin "len") (λc H Q=>∃a kvs,c=[V.ref a]/\Rd H a (.dK kvs)/\Q (.int kvs.length) H):=by intro b s l H c j Q I r h;obtain⟨a,kvs,rfl,e,q⟩:=h;obtain⟨u,rfl,f⟩:=mq r;cases f;exact ac6 I e λt i d=>⟨.int kvs.length,H,d,⟨t,O⟩,q⟩
def Yk(K:av):bL->Hp->VK->Prop:=λb H Q=>(∃p c,b=[.ref p]/\(gi K H p c\/ij K H p c)/\Q (.int c.length) H)\/((∃z,b=[.str z]/\z.length<=aG/\Q (.int z.length) H)\/(∃a kvs,b=[V.ref a]/\Rd H a (.dK kvs)/\Q (.int kvs.length) H))
def Ru(hK:X.K=G.K:=by rfl):wR X (.builtin "len") (Yk G.K):=by rw[<-hK];exact wR.or LN (wR.or LO Rt)
def aaf:IY G (Yk G.K) wY:=λx z j H v Q e s b k=>by
 cases x with
 |d? h=>cases e;unfold cb at b;obtain⟨a,f,rfl,c,d⟩:=b;refine .inl ⟨a,f,O,.inr (ij.mono s c),?_⟩;rw[<-uX d];exact k _ λ_ _=>xy _
 |bt h=>cases e;unfold cb at b;obtain⟨a,f,rfl,c,d⟩:=b;refine .inl ⟨a,f,O,.inl (s.seq (gi.of c)),?_⟩;rw[<-uX d];exact k _ λ_ _=>xy _
 |R h=>cases e;unfold cb at b;obtain⟨a,f,rfl,c,d⟩:=b;refine .inl ⟨a,f,O,.inl (s.seq c),?_⟩;rw[<-uX d];exact k _ λ_ _=>xy _
 |str t=>
  unfold wY at e;simp only at e;split at e
  .rename_i i;cases e;unfold cb at b;exact .inr (.inl ⟨t,by rw[b],IW i,k _ λ_ _=>xy _⟩)
  .cases e
 |Q m h=>cases e;unfold cb at b;obtain⟨a,o,f,rfl,c,d,l⟩:=b;refine .inr (.inr ⟨a,_,O,.inr ⟨o,s _ _ c⟩,?_⟩);rw[iO,<- d,iV];exact k _ λ_ _=>xy _
 |_=>cases e
def IZ:D->Option D
 |.int i=>Z (.int i)
 |.I b=>Z (.int (if b then 1 else 0))
 |_=>J
def aag:IY G (λc H Q=>(∃i,c=[.int i]/\Q (.int i) H)\/∃k,c=[.I k]/\Q (.int (if k then 1 else 0)) H) IZ:=λx z d H v Q e s a k=>by
 cases x with
 |int i=>cases e;unfold cb at a;subst a;exact .inl ⟨i,O,k _ λ_ _=>xy _⟩
 |I b=>cases e;unfold cb at a;subst a;exact .inr ⟨b,O,k _ λ_ _=>xy _⟩
 |_=>cases e
def Kh:bj->Option (List Bool)
 |[]=>Z []
 |.I b::r=>(Kh r).map (b::·)
 |_=>J
theorem I0:∀{d:bj} {a:bL} {bs:List Bool},uS G H d a->Kh d=Z bs->a=bs.map V.I
 |[],a,bs,h,e=>by cases e;unfold uS at h;exact h
 |.I b::r,a,bs,h,e=>by
  unfold uS at h;obtain⟨v,q,rfl,f,i⟩:=h;unfold Kh at e;cases c:Kh r with
  |none=>rw[c]at e;cases e
  |some l=>rw[c]at e;cases e;unfold cb at f;subst f;rw[I0 i c];rfl
 |.E::r,a,bs,h,e=>by cases e
 |.int _::r,a,bs,h,e=>by cases e
 |.str _::r,a,bs,h,e=>by cases e
 |.d? _::r,a,bs,h,e=>by cases e
 |.bt _::r,a,bs,h,e=>by cases e
 |.R _::r,a,bs,h,e=>by cases e
 |.obj _ _ _::r,a,bs,h,e=>by cases e
 |.Q _ _::r,a,bs,h,e=>by cases e
def zY:D->Option D
 |.bt a=>(Kh a).map λbs=>.I (bs.all id)
 |_=>J
def aah:IY G (λf H Q=>∃(p:Addr) (bs:List Bool),f=[.ref p]/\gi G.K H p (bs.map V.I)/\Q (.I (bs.all id)) H) zY:=λx z j H v Q e s d k=>by
 cases x with
 |bt h=>
  unfold zY at e;simp only at e;cases b:Kh h with
  |none=>rw[b]at e;cases e
  |some bs=>rw[b]at e;cases e;unfold cb at d;obtain⟨a,f,rfl,c,i⟩:=d;rw[I0 i b]at c;exact⟨a,bs,O,s.seq (gi.of c),k _ λ_ _=>xZ _⟩
 |_=>cases e
def Rv(a:X.n6=γ)(hK:X.K=G.K:=by rfl):wR X (.builtin "all") (λb H Q=>∃(p:Addr) (bs:List Bool),b=[.ref p]/\gi G.K H p (bs.map V.I)/\Q (.I (bs.all id)) H):=by rw[<-hK];exact SU a
inductive Ty where
 |b (n:String)|c (k:Nat)
def Ty.val(G:Bg):Ty->ab
 |.b n=>.type n
 |.c k=>.ref (G.ca k)
def Ty.v(G:Bg):Ty->V
 |.b n=>.ty n
 |.c k=>.ref (G.ca k)
def tyD:D->Ty
 |.E=>.b "NoneType" |.I _=>.b "bool" |.int _=>.b "int" |.str _=>.b "str" |.d? _=>.b "tuple" |.bt _=>.b "list" |.R _=>.b "list" |.Q _ _=>.b "dict" |.obj c _ _=>.c c
structure Nl(K:av)(C:Addr):Prop where
 cl:T1 K C
 ha:cP K (.ref C) "__class__" = Z (Z (.builtin "object.__class__"))
 hn:qU K (.builtin "object.__class__") "__get__" = Z (Z (.builtin "getset_descriptor.__get__"))
 htk:W.takesIn K (.builtin "object.__class__")=Z γ
 hm:W.mroIn K C (.type "object")=Z γ
def Tt(I:c3 X pins σ H s)(hK:X.K=G.K)(hd:cb G H d v)(i:e8 v u)(t:∀k ns ds,d=.obj k ns ds->Nl X.K (G.ca k))
  (e:di X.K ((tyD d).val G) c=Z b) (h:∀tk,Q (.bool b) { s with toks:=tk }):ah (model X.prog X.w) A (call (.builtin "isinstance") [u,c]) Q E s:=by
 cases d with
 |E=>unfold cb at hd;subst hd;exact Am I i .E e h
 |I x=>unfold cb at hd;subst hd;exact Am I i (.I x) e h
 |int x=>unfold cb at hd;subst hd;exact Am I i (.int x) e h
 |str x=>unfold cb at hd;subst hd;exact Am I i (.str x) e h
 |d? ds=>unfold cb at hd;obtain⟨a,xs,rfl,f,m⟩:=hd;cases i;rw[<-hK]at f;obtain⟨q,_,p,_⟩:=I.tuple f;obtain⟨o,j,l,_⟩:=p;exact cO mx I.rf ⟨o,j,l⟩ e (λz=>nomatch z) h
 |bt ds=>unfold cb at hd;obtain⟨a,xs,rfl,f,m⟩:=hd;exact Am I i (.bt f) e h
 |R ds=>unfold cb at hd;obtain⟨a,xs,rfl,f,m⟩:=hd;cases i;rw[<-hK]at f;obtain⟨q,_,p,_⟩:=I.list f;obtain⟨o,n,j,l,_⟩:=p;exact cO iX I.rf ⟨o,j,l⟩ e (λz=>nomatch z) h
 |Q ks ds=>unfold cb at hd;obtain⟨a,o,xs,rfl,f,m,r⟩:=hd;cases i;obtain⟨y,_,_,vs,_,ob,es,ep,j,l,_⟩:=(show wL X.prog X.w H s.heap a (.o? o (.dK (ks.zip xs))) from I.fx a _ f);exact cO jS I.rf ⟨ob,j,l.1⟩ e (λz=>nomatch z) h
 |obj k ns ds=>have ci:=t k ns ds O;unfold cb at hd;obtain⟨a,dx,xs,rfl,f,m,r⟩:=hd;exact Am I i (.nr f ci.cl ci.ha ci.hn ci.htk ci.hm) e h
def v3(t:Ty->Option Bool):D->Option D:=λd=>(t (tyD d)).map .I
def KO(c:Ty){t:Ty->Option Bool}(m:∀y b,t y=Z b->di X.K (y.val G) (c.val G)=Z b)(l:∀k b,t (.c k)=Z b->Nl X.K (G.ca k))(hK:X.K=G.K:=by rfl):
  wR X (.builtin "isinstance") (λi H Q=>∃d x b,i=[x,c.v G]/\cb G H d x/\t (tyD d)=Z b/\Q (.I b) H):=by
 intro f s E H i C Q I r h;obtain⟨d,x,b,rfl,hd,e,q⟩:=h;obtain⟨u,p,rfl,o,a⟩:=Y' r;have j:p=c.val G:=by cases c<;>exact a
 subst j;exact Tt I hK hd o (λk A w z=>by subst z;exact l k b e) (m _ _ e) λB=>⟨.I b,H,I.x? _,O,q⟩
def PU{c:Ty}(h:PE X e (tCB (λu H Q=>∃d x b,u=[x,c.v G]/\cb G H d x/\t (tyD d)=Z b/\Q (.I b) H) (Ea (tF G f) (Ea (tC (c.v G)) J5)))):PE X e (tF G (c1 (v3 t) f)):=PE.en h λz H Q q=>by
 obtain⟨F,w,m,d,j,R,e,k⟩:=q;obtain⟨x,p,a⟩:=E6 e;unfold v3 at a;cases i:t (tyD x)with
 |none=>rw[i]at a;cases a
 |some b=>rw[i]at a;cases a;exact⟨F,w,m,x,j,R,p,λv y o s l r=>⟨x,v,b,O,cb.mono l.sub _ _ r,i,k _ _ _ s l (xZ b)⟩⟩
def xx(f g:FE):FA:=λe=>match f e with
 |some (.bt c,a)=>match g a with
  |some (.bt d,b)=>if c.length+d.length<=1000 then Z (c++d,b)else J
  |_=>J
 |_=>J
def W0(N:PE X a (tF G f))(P:PE X b (tF G g)):PE X (.BinOp a .Add b pos) (z0 G (xx f g)):=PE.en (Pl Zm N P) λσ H Q S=>by
 obtain⟨F,U,w,d,W,R,e,k⟩:=S;unfold xx at e;split at e
 .rename_i xs c C;split at e
  .rename_i ys Y E;split at e
   .rename_i T;cases e;refine⟨F,U,w,_,c,R,C,λv x y s A r=>⟨F,c,x,_,_,A,E,λu H2 z t R2 q=>?_⟩⟩;have o:=cb.mono t _ _ r;unfold cb at o q;obtain⟨a1,i,rfl,I,l⟩:=o;obtain⟨B,j,rfl,M,m⟩:=q;refine⟨a1,B,i,j,O,O,R2.sub _ _ I,R2.sub _ _ M,by rw[<-uX l,<- uX m];exact yd T,λp h=>?_⟩;exact k p _ _ _ (s.t t) (R2.l' h _) ve (R2.f3 h) (R2.i0 h) (R2.apart h) (xk l m)
   .cases e
  .cases e
 .cases e
def A1(f:FE):FA:=λc=>match f c with
 |some (d,a)=>match Tp d with
  |some b=>Z (b,a)
  |none=>J
 |none=>J
def Tu(h:PE X e (tCB (λm H Q=>∃p c,m=[.ref p]/\(gi G.K H p c\/ij G.K H p c)/\∀l,H l=J->Q (.ref l) (fl H l (.bt c))) (vf G (ax f vC)))):PE X e (z0 G (A1 f)):=PE.en h λM H Q y=>by
 obtain⟨F,o,r,E,A,R,e,k⟩:=y;unfold A1 at e;rcases vH (f:=f) (ρ:=o)with i|⟨d,B,i⟩<;>simp only[i]at e
 .cases e
 .cases j:Tp d with
  |none=>simp only[j]at e;cases e
  |some u=>simp only[j]at e;cases e;refine⟨F,o,r,[d],_,R,by unfold ax;rw[i];rfl,λc C t s a rs=>?_⟩;unfold uS at rs;obtain⟨v,I,rfl,z,q⟩:=rs;unfold uS at q;subst q;obtain⟨p,m,rfl,w,x⟩:=PQ z j;exact⟨p,m,O,PR a.sub w,λl b=>k l _ _ _ s (a.l' b _) ve (a.f3 b) (a.i0 b) (a.apart b) x⟩
def OE(hK:X.K=G.K:=by rfl):wR X (.type "list") (λb H Q=>∃p a,b=[.ref p]/\(gi G.K H p a\/ij G.K H p a)/\∀l,H l=J->Q (.ref l) (fl H l (.bt a))):=by rw[<-hK];exact LP
def Fh(f:FE):FE:=λc=>match f c with
 |some (.bt b,a)=>Z (.d? b,a)
 |some (.d? b,a)=>Z (.d? b,a)
 |_=>J
def Tv(h:PE X e (tCB (λr H Q=>∃p d,r=[.ref p]/\((gi G.K H p d/\∀l,H l=J->Q (.ref l) (fl H l (.d? d)))\/(ij G.K H p d/\Q (.ref p) H))) (vf G (ax f vC)))):PE X e (tF G (Fh f)):=PE.en h λI H Q A=>by
 obtain⟨F,y,w,E,C,R,e,k⟩:=A;unfold Fh at e;split at e
 .rename_i r u j;cases e;refine⟨F,y,w,[_],_,R,by unfold ax;rw[j];rfl,λd z i s a rs=>?_⟩;unfold uS at rs;obtain⟨v,B,rfl,b,c⟩:=rs;unfold uS at c;subst c;unfold cb at b;obtain⟨p,t,rfl,m,x⟩:=b;refine⟨p,t,O,.inl ⟨gi.of (a.sub _ _ m),λl o=>?_⟩⟩;exact k _ _ _ (s.t (vy (a.f3 o) _)) (a.O' o _) (E5 (ij.of ve) (uS.mono (vy (a.f3 o) _) _ _ x))
 .rename_i r u j;cases e;refine⟨F,y,w,[_],_,R,by unfold ax;rw[j];rfl,λd z i s a rs=>?_⟩;unfold uS at rs;obtain⟨v,B,rfl,b,c⟩:=rs;unfold uS at c;subst c;have q:=b;unfold cb at b;obtain⟨p,t,rfl,m,x⟩:=b;exact⟨p,t,O,.inr ⟨ij.mono a.sub m,k _ _ _ s a q⟩⟩
 .cases e
def Rw(hK:X.K=G.K:=by rfl):wR X (.type "tuple") (λb H Q=>∃p a,b=[.ref p]/\((gi G.K H p a/\∀l,H l=J->Q (.ref l) (fl H l (.d? a)))\/(ij G.K H p a/\Q (.ref p) H))):=by rw[<-hK];exact J7
def ro(xs:bj)(lo a:Option Int):bj:=(xs.drop (HT.j0 xs.length 0 lo)).take (HT.j0 xs.length xs.length a - HT.j0 xs.length 0 lo)
def Np{lo:Option Int}(r:uS G a b d):uS G a (ro b lo c) (MW d lo c):=by unfold ro MW;rw[<-uX r];exact KI _ (KH _ r)
def tO(o:Option Int):TO:=λ_ H Q=>Q o H
def Tw{j pos}:PO X (Z (.Constant (.int n) j pos)) (tO (Z n)):=λa s b H Q I h=>Pt LF a s b H Q I ⟨n,O,h⟩
def adu:PO X J (tO J):=Pr
def sl_X(hK:X.K=G.K:=by rfl):SlR X (Wd G.K):=by rw[<-hK];exact We
end
def Sl.T?:Sl->Sl
 |.un=>.un
 |.z d=>.z d
 |.O a=>.z (.bt a)
 |.pm a=>.z (.bt a)
 |.dk _ _=>.un
 |.ob c b a=>.z (.obj c b a)
section
variable{X:Cx}{G:Bg}
theorem vA.T?(R:vA G F σ ρ H0 H):vA G ⟨H,H,[]⟩ σ (ρ.map Sl.T?) H H where
 sub:=vm.refl _
 g0:=vm.refl _
 keep:=λb o e _=>e
 fr:=λb o e=>.inl e
 am:=λa h=>by cases h
 len:=by rw[ag];exact R.len
 sl:=λi s e=>by
  rw[bB]at e;cases m:ρ[i]? with
  |none=>rw[m]at e;cases e
  |some t=>
   rw[m]at e;cases e;have ok:=R.sl i t m;cases t with
   |un=>trivial
   |z d=>obtain⟨v,f,l⟩:=ok;exact⟨v,f,cb.mono R.sub _ _ l⟩
   |O ds=>obtain⟨a,xs,f,l,q,r,p⟩:=ok;exact⟨_,f,B5 l (uS.mono R.sub _ _ p)⟩
   |pm ds=>obtain⟨a,xs,f,l,q,r,p⟩:=ok;exact⟨_,f,B5 l (uS.mono R.sub _ _ p)⟩
   |dk ks ds=>trivial
   |ob c ns ds=>obtain⟨a,dx,xs,f,l,q,r,p,u⟩:=ok;exact⟨_,f,by unfold cb;exact⟨a,dx,xs,O,l,p,uS.mono R.sub _ _ u⟩⟩
 ap:=λi j s t a _ e _ so=>by
  rw[bB]at e;cases m:ρ[i]? with
  |none=>rw[m]at e;cases e
  |some t=>rw[m]at e;cases e;cases t<;>cases so
def vA.unbor(R:vA G F h ρ d H)(c:vA G ⟨H,H,[]⟩ i f j a):vA G F h ρ d a:=
 R.i1 (λb o e=>c.keep b o e (by simp)) (vm.refl _) (λb o e=>c.keep b o (R.sub _ _ e) (by simp)) λb o e=>.inl e
def AW(f:FE):FE:=λa=>match f (a.map Sl.T?)with
 |some (d,_)=>if xH d=γ then Z (d,a)else J
 |none=>J
def Ad(f:FT):FT:=λa=>match f (a.map Sl.T?)with
 |some (d,_)=>Z (d,a)
 |none=>J
def aai(h:PE X e (tF G f)):PE X e (tF G (AW f)):=PE.en h λt H Q m=>by
 obtain⟨F,i,p,d,o,R,e,k⟩:=m;unfold AW at e;rcases vH (f:=f) (ρ:=i.map Sl.T?)with a|⟨x,b,a⟩<;>simp only[a]at e
 .cases e
 .split at e
  .rename_i c;cases e;refine⟨_,_,H,d,b,R.T?,a,λv q j s l r=>?_⟩;rw[zO r c];exact k _ _ _ (vm.refl _) (R.unbor l) (Fd c _)
  .cases e
def W3(h:PT X e (pa G f)):PT X e (pa G (Ad f)):=PT.en h λq H Q l=>by
 obtain⟨F,c,o,d,m,R,e,k⟩:=l;unfold Ad at e;rcases vH (f:=f) (ρ:=c.map Sl.T?)with a|⟨x,b,a⟩<;>simp only[a]at e
 .cases e
 .cases e;exact⟨_,_,H,d,b,R.T?,a,λp i s j=>k _ _ (vm.refl _) (R.unbor j)⟩
def yN(g h:D->D->Option D)(d e f:FE):FE:=λi=>match d i with
 |some (x,b)=>match e b with
  |some (y,a)=>match g x y with
   |some (.I γ)=>match f a with
    |some (z,c)=>match h y z with
     |some w=>Z (w,c)
     |none=>J
    |none=>J
   |some (.I δ)=>Z (.I δ,a)
   |_=>J
  |none=>J
 |none=>J
def Nq(ho:l? G r g)(I:l? G r' Y):∀N H Q,tF G (yN g Y T U W) N H Q->Oi r r' (tF G T) (tF G U) (tF G W) N H Q:=λN H Q hh=>by
 obtain⟨F,m,H0,d,ρ',R,e,k⟩:=hh;unfold yN at e;rcases vH (f:=T) (ρ:=m)with p|⟨x,b,p⟩<;>simp only[p]at e
 .cases e
 rcases vH (f:=U) (ρ:=b)with A|⟨y,c,A⟩<;>simp only[A]at e
 .cases e
 refine⟨F,m,H0,x,b,R,p,λv H1 H1' s1 R1 r1=>⟨F,b,H1,y,c,R1,A,λu h i o R2 M=>?_⟩⟩;split at e
 .rename_i B;refine ho x y _ h i v u _ B R2.sub (cb.mono o _ _ r1) M λw l=>?_;have a:=l h (vm.refl _);unfold cb at a;refine⟨γ,a,LW ?_⟩;rcases vH (f:=W) (ρ:=c)with C|⟨z,ρ3,C⟩<;>simp only[C]at e
  .cases e
  cases E:Y y z with
  |none=>simp only[E]at e;cases e
  |some q=>simp only[E]at e;cases e;refine⟨F,c,h,z,_,R2,C,λt P j s3 S r3=>?_⟩;exact I y z _ P j u t Q E S.sub (cb.mono s3 _ _ M) r3 λw l=>k w P j (s1.t (o.t s3)) S (l _ (vm.refl _))
 .rename_i B;cases e;refine ho x y _ h i v u _ B R2.sub (cb.mono o _ _ r1) M λw l=>?_;have a:=l h (vm.refl _);unfold cb at a;exact⟨δ,a,LV (k _ _ _ (s1.t o) R2 (xZ δ))⟩
 .cases e
def Tx(w:j? X (bw h) r)(f:j? X (bw d) x)(u:l? G r g)(e:l? G x m)(o:PE X a (tF G i))(p:PE X b (tF G j))(q:PE X c (tF G l))
  (t:lastMarks [h,d] [b,c]=δ:=by with_unfolding_all rfl):PE X (.Compare a [h,d] [b,c] pos) (tF G (yN g m i j l)):=PE.en (Sw w f o p q t) (Nq u e)
def Rx(C:j? X (bw l) r)(i:j? X (bw f) E)(B:l? G r g)(h:l? G E u)(w:PE X a (tF G p))(x:PE X b (tF G q))(y:PE X c (tF G t))
  (A:lastMarks [l,f] [b,c]=δ:=by with_unfolding_all rfl):PT X (.Compare a [l,f] [b,c] pos) (pa G (cT (yN g u p q t))):=PT.en (Sx C i w x y A) λm H Q z=>by
 obtain⟨F,I,o,d,j,R,e,k⟩:=PF m H Q z;exact Nq B h m H _ ⟨F,I,o,d,j,R,e,k⟩
end
def Ed(P:aH)(w:az)(K:av)(b:Str->Option ab)(b?:Heap)(k:Nat)(x:Str)(c:aE)(d:Sp):Prop:=
 ∃(f:Addr) (a:bV),b x=Z (.ref f)/\dZ K (.ref f)=γ/\m1 K a c []/\zr P w K b b? H? k f a c d
def L6(G:Bg)(P:aH)(w:az)(d:Str->Option ab)(b?:Heap)(k:Nat)(x:Str)(c:Nat)(e:aE)(dvs:bL)(g:bj->Option (aE×bj)):Prop:=
 ∃(f:Addr) (b:bV) (a:List ab),Mk G.K (G.ca c) f/\d x=Z (.ref (G.ca c))/\m1 G.K b e a/\er dvs a/\zr P w G.K d b? H? k f b e (spI G c g)
def B9(G:Bg)(P:aH)(w:az)(d:Str->Option ab)(b?:Heap)(k:Nat)(m:Str)(c:Nat)(h:bj->Option D):Prop:=
 ∃(f:Addr) (a:bV) (b:aE),T1 G.K (G.ca c)/\Meth G.K (G.ca c) m f/\m1 G.K a b []/\zr P w G.K d b? H? k f a b (fy G h)
section
variable{X:Cx}{G:Bg}{k:Nat}{x m:Str}{p pos apos:Pos}{e o:Expr}{es:List Expr}{a:FA}{ps:aE}
def G1{c:Type}(g:bj->c):(λb=>g (b++[]))=g:=funext λb=>by rw[bS]
def aaj(D:Ed X.prog X.w X.K X.mg X.b? k x ps (fy G g))(t:xB k X.A)(j:PA X (e::es) (vf G a))(r:Gl X x:=by rfl)(b:(x==("__debug__" : Str))=δ:=by decide)(l:aA (e::es) X.b1=(δ,eval e X.b1)::aA es X.b1:=by rfl)(hpl:(bD pos (aA es X.b1)).any (·.1)=δ:=by rfl):
  PE X (.Call (.Name x p) (e::es) [] pos) (tF G (uO g a)):=by
 obtain⟨f,u,c,d,h,i⟩:=D;have q:=WN (dvs:=[]) (dds:=[]) (λ_=>vN) (Ii (p:=p) (pos:=pos) i t r c d h .nil II j b l hpl);rw[G1]at q;exact q
def W4(D:Ed X.prog X.w X.K X.mg X.b? k x ps (ub G g))(t:xB k X.A)(j:PA X (e::es) (vf G a))(r:Gl X x:=by rfl)(b:(x==("__debug__" : Str))=δ:=by decide)(l:aA (e::es) X.b1=(δ,eval e X.b1)::aA es X.b1:=by rfl)(hpl:(bD pos (aA es X.b1)).any (·.1)=δ:=by rfl):
  PE X (.Call (.Name x p) (e::es) [] pos) (z0 G (vM g a)):=by
 obtain⟨f,u,c,d,h,i⟩:=D;have q:=Ta (dvs:=[]) (dds:=[]) (λ_=>vN) (Ii (p:=p) (pos:=pos) i t r c d h .nil II j b l hpl);rw[G1]at q;exact q
def Tz(D:Ed X.prog X.w X.K X.mg X.b? k x ps (ub G g))(l:xB k X.A)(j:Gl X x:=by rfl)(b:(x==("__debug__" : Str))=δ:=by decide):PE X (.Call (.Name x p) [] [] pos) (z0 G (vM g vC)):=by obtain⟨f,q,c,d,h,i⟩:=D;exact Rh (SE i l j c d h .nil II b)
def W5(D:Ed X.prog X.w X.K X.mg X.b? k x ps (vl G g))(t:xB k X.A)(u:PE X e (BY i))(q:PA X es (vf G a))(r:Gl X x:=by rfl)(b:(x==("__debug__" : Str))=δ:=by decide)(c:aA (e::es) X.b1=(δ,eval e X.b1)::aA es X.b1:=by rfl)(hpl:(bD pos (aA es X.b1)).any (·.1)=δ:=by rfl):
  PE X (.Call (.Name x p) (e::es) [] pos) (tF G (vK g i a)):=by
 obtain⟨f,y,d,h,j,l⟩:=D;exact Z0 (Ii (p:=p) (pos:=pos) l t r d h j .nil II (xj u q c) b c hpl)
def W6(M:L6 G X.prog X.w X.mg X.b? k x c ps dvs g)(hd:∀H,uS G H dds dvs)(y:xB (k+1) X.A)(r:PA X (e::es) (vf G a))(hK:X.K=G.K:=by rfl)(u:Gl X x:=by rfl)(b:(x==("__debug__" : Str))=δ:=by decide)
  (t:aA (e::es) X.b1=(δ,eval e X.b1)::aA es X.b1:=by rfl) (hpl:(bD pos (aA es X.b1)).any (·.1)=δ:=by rfl):
  PE X (.Call (.Name x p) (e::es) [] pos) (tF G (vG c (λd=>g (d++dds)) a)):=by
 obtain⟨f,z,d,h,l,i,q,j⟩:=M;rw[<-hK]at h i j;exact WQ hd (V8 (p:=p) (pos:=pos) h j y u l i q II r b t hpl)
def Yl(M:∀c h,g c=Z h->B9 G X.prog X.w X.mg X.b? k m c h)(q:xB k X.A)(hK:X.K=G.K):∀C b,MT G g C b->MOk X C m b [] E0:=λC b h=>by obtain⟨c,h,e,rfl,rfl⟩:=h;obtain⟨f,l,ps,d,i,q3,j⟩:=M c h e;rw[<-hK]at d i q3 j;exact⟨k,f,l,ps,[],d,i,j,q,q3,.nil,II⟩
def Ry(M:∀c h,g c=Z h->B9 G X.prog X.w X.mg X.b? k m c h)(j:xB k X.A)(i:PE X o (tF G f))(d:PA X (e::es) (vf G a))(hK:X.K=G.K:=by rfl)
  (hst:aA (e::es) X.b1=(δ,eval e X.b1)::aA es X.b1:=by rfl) (hpl:(bD pos (aA es X.b1)).any (·.1)=δ:=by rfl)
  (l:eval (.Call (.Attribute o m apos) (e::es) [] pos) X.b1=(do
   let b<-eval o X.b1
   standAt apos.atName
   let (f,first)<-holding [b] (getMethod b m pl)
   callWith pos f first (bD pos (aA (e::es) X.b1)) (backToKw pos (dY [] X.b1))):=by rfl):
  PE X (.Call (.Attribute o m apos) (e::es) [] pos) (tF G (vg g m f a)):=WO (E:=E0) (Td (dvs:=[]) (MT G g) (Yl M j hK) i d hst hpl l)
def OF(M:∀c h,g c=Z h->B9 G X.prog X.w X.mg X.b? k m c h)(i:xB k X.A)(d:PE X o (tF G f))(hK:X.K=G.K:=by rfl)
  (j:eval (.Call (.Attribute o m apos) [] [] pos) X.b1=(do
   let b<-eval o X.b1
   standAt apos.atName
   let (f,first)<-holding [b] (getMethod b m pl)
   callWith pos f first (bD pos (aA [] X.b1)) (backToKw pos (dY [] X.b1))):=by rfl):
  PE X (.Call (.Attribute o m apos) [] [] pos) (tF G (vg g m f vC)):=Te (E:=E0) (Rm (dvs:=[]) (MT G g) (Yl M i hK) d j)
end
section
variable{P:aH}{w:az}{K:av}{mg:Str->Option ab}{b?:Heap}{x qual:Str}{st:Stmt}{f T:Addr}{fd:bV}{N ps:aE}{k:Nat}{G:Bg}
abbrev G2(P:aH)(w:az)(K:av)(mg:Str->Option ab)(b?:Heap)(N:aE)(qual:Str)(st:Stmt)(f:Addr)(cdv:ab)(A:aJ)(da:List Env)(s:ae)(H:Hp)(E:XK):Cx:=(MR H? P w K mg b? N qual (vw st) f cdv A da s H E).nox
theorem TB(a:g=fc np n b)(c:ps.length=np)(hN:N.length=n)(F:χ K x qual st f fd)(S:xK N ps (vw st))(body:∀(cdv:ab) (A:aJ) (da:List Env) (s:ae) (H:Hp) (E:XK),xB k (A.deeper (envOfC qual (vw st) s.heap.objs.size f cdv))->qi (G2 P w K mg b? N qual st f cdv A da s H E) (vY st) (mu G b)):
  zr P w K mg b? H? (k+1) f fd ps (fy G g):=by
 subst a c hN;exact F.ok S (adi WJ) λcdv A da s H e Q E d h=>⟨_,body cdv A da s H E d,WH (by have:=bH dh S.pre;rw[bY]at this;omega) h⟩
theorem adv(a:g=xr e n b)(c:ps.length=e)(hN:N.length=n)(F:χ K x qual st f fd)(S:xK N ps (vw st))(body:∀(cdv:ab) (A:aJ) (da:List Env) (s:ae) (H:Hp) (E:XK),xB k (A.deeper (envOfC qual (vw st) s.heap.objs.size f cdv))->qi (G2 P w K mg b? N qual st f cdv A da s H E) (vY st) (mu G b)):
  zr P w K mg b? H? (k+1) f fd ps (ub G g):=by
 subst a c hN;exact F.ok S (adj WK) λcdv A da s H i Q E d h=>⟨_,body cdv A da s H E d,WI (by have:=bH dh S.pre;rw[bY]at this;omega) h⟩
theorem adw{ps:aE}(a:g=u6 e n b)(c:ps.length=e)(hN:N.length=n)(F:χ K x qual st f fd)(S:xK N (p::ps) (vw st))(body:∀(cdv:ab) (A:aJ) (da:List Env) (s:ae) (H:Hp) (E:XK),xB k (A.deeper (envOfC qual (vw st) s.heap.objs.size f cdv))->qi (G2 P w K mg b? N qual st f cdv A da s H E) (vY st) (mu G b)):
  zr P w K mg b? H? (k+1) f fd (p::ps) (vl G g):=by
 subst a c hN;exact F.ok S (adl WV) λcdv A da s H i Q E d h=>⟨_,body cdv A da s H E d,WU (by have:=bH dh S.pre;rw[bY,aM]at this;omega) h⟩
def Ym(d:∀a q,g a=Z q->a.length=i):∀b H Q E,spI G c g b H Q E->b.length=i+1:=λb H Q E h=>by obtain⟨p,l,t,j,a,o,m,rfl,_,_,_,r,e,_⟩:=h;rw[aM,<- uX r,d _ _ e]
theorem adx{ps:aE}(a:g=xo c i n b)(d:ps.length=i)(hN:N.length=n)(F:χ K x qual st f fd)(S:xK N (p::ps) (vw st))(body:∀(cdv:ab) (A:aJ) (da:List Env) (s:ae) (H:Hp) (E:XK),xB k (A.deeper (envOfC qual (vw st) s.heap.objs.size f cdv))->qi (G2 P w K mg b? N qual st f cdv A da s H E) (vY st) (mu G b)):
  zr P w K mg b? H? (k+1) f fd (p::ps) (spI G c g):=by
 subst a d hN;exact F.ok S (Ym λj q h=>(IR h).1) λcdv A da s H l Q E e h=>⟨_,body cdv A da s H E e,PK (by have:=bH dh S.pre;rw[bY,aM]at this;omega) h⟩
theorem aak{ps:aE}(a:g=xo c i n b)(d:ps.length=i)(hN:N.length=n)(F:Re K x qual st f fd T)(S:xK N (p::ps) (vw st))(body:∀(cdv:ab) (A:aJ) (da:List Env) (s:ae) (H:Hp) (E:XK),xB k (A.deeper (envOfC qual (vw st) s.heap.objs.size f cdv))->qi (G2 P w K mg b? N qual st f cdv A da s H E) (vY st) (mu G b)):
  zr P w K mg b? H? (k+1) f fd (p::ps) (spI G c g):=by
 subst a d hN;exact F.ok S (Ym λj q h=>(IR h).1) λcdv A da s H l Q E e h=>⟨_,body cdv A da s H E e,PK (by have:=bH dh S.pre;rw[bY,aM]at this;omega) h⟩
end
section
variable{X:Cx}{G:Bg}
def A2(G:Bg)(a:Str->Option ab)(x:Str)(d:D):Prop:=∃(v:V) (u:ab),a x=Z u/\e8 v u/\∀H,cb G H d v
def TC(h:A2 G X.mg x d)(e:Gl X x:=by rfl)(hd:(x==("__debug__" : Str))=δ:=by decide):PE X (.Name x pos) (tF G (cC d)):=by obtain⟨v,u,a,b,c⟩:=h;exact Wp (Ih e a b hd) c
def TF:FS:=λ_=>J
def Bi(i:Nat)(j:Int)(f:FE):FS:=λc=>match f c with
 |some (d,a)=>match xf a i with
  |some b=>match ixN b.length j with
   |some k=>Z (.nx (putAt a i (b.set k d)))
   |none=>J
  |none=>J
 |none=>J
def RA{st:Stmt}(h:PS X st (Ex (tF G f) (gSub (BY i) (tC (.int j)) Ye))):PS X st (mu G (Bi i j f)):=PS.en h λE P H z=>by
 obtain⟨F,q,u,o,R,e,k,N⟩:=z;unfold Bi at e;rcases vH (f:=f) (ρ:=q)with c|⟨d,b,c⟩<;>simp only[c]at e
 .cases e
 cases l:xf b i with
 |none=>simp only[l]at e;cases e
 |some y=>
  simp only[l]at e;cases p:ixN y.length j with
  |none=>simp only[p]at e;cases e
  |some m=>simp only[p]at e;cases e;refine⟨F,q,u,d,b,R,c,λv M w s x r=>?_⟩;obtain⟨a,I,A,B,t,C⟩:=yC x l;exact⟨.ref a,A,a,I,j,m,O,O,B,by rw[<-uX t];exact p,k _ _ _ s (C _ _ (M6 m t r))⟩
def wx(T:String):Ty->Option Bool
 |.b n=>if n="NoneType" then Z δ else if n="bool" then Z (T=="bool" ||T=="int")else if n="int" then Z (T=="int")else if n="str" then Z (T=="str")else if n="tuple" then Z (T=="tuple")else if n="list" then Z (T=="list")else if n="dict" then Z (T=="dict")else J
 |.c _=>J
def TH:∀k b,wx T (.c k)=Z b->Nl X.K (G.ca k):=λk b h=>by cases h
def TJ:∀y b,wx "list" y=Z b->di X.K (y.val G) (.type "list")=Z b:=λy b h=>by
 cases y with
 |c k=>cases h
 |b n=>
  unfold wx at h;simp only at h
  iterate 7 (split at h;· rename_i e;subst e;cases h;first|rfl|kernel_rfl)
  cases h
def W7:∀y b,wx "str" y=Z b->di X.K (y.val G) (.type "str")=Z b:=λy b h=>by
 cases y with
 |c k=>cases h
 |b n=>
  unfold wx at h;simp only at h
  iterate 7 (split at h;· rename_i e;subst e;cases h;first|rfl|kernel_rfl)
  cases h
end
end L4
namespace L3
open PySem PySem.Spec PyProof.Rows L2
def W8{X:Cx}{spos:Pos}{e?:List Nat}
  (S:X.n6=γ) (hN:X.N.Nodup) (hy:X.N[i]?=Z y) (hyl:Loc X.b1.scope y) (T:PI X p iter wi)
  (body:∀(q:List (Str×Addr)) (C:Addr) (fp:List Addr) (s:ae) (H:Hp),PG (xa X N' scope q C fp s H) p g/\PIf (xa X N' scope q C fp s H) ifs tt/\PE (xa X N' scope q C fp s H) elt te)
  (hkind:scope.kind=.function:=by rfl) (hcell:(scope.names.all λy=>y.2 != .cell)=γ:=by rfl)
  (hloc:(scope.names.all λy=>y.2 != .local||scope.names.lookup y.1==Z .local)=γ:=by rfl)
  (hfree:(scope.names.all λy=>y.2 != .free||(X.b1.kindOf y.1==Z .cell||X.b1.kindOf y.1==Z .free))=γ:=by rfl)
  (d:N'.length=k+e?.length:=by rfl) (hcap:(N'.drop k).map Z=e?.map λj=>X.N[j]?:=by rfl)
  (hcf:((N'.drop k).all λx=>scope.names.lookup x==Z .free)=γ:=by rfl)
  (Y:∀x,iH iter X.b1 x=pure x:=by intro _;rfl)
  (hsw:dG (.ListComp elt [⟨p,iter,ifs,0⟩] scope pos) (Z (.Name y l)) spos.line X.b1=pure γ:=by rfl)
  (hfy:X.fn y=γ\/X.b1.scope.names.lookup y=Z .local:=by first|exact .inl O|exact .inr O|assumption):
  PS X (.Assign [.Name y l] (.ListComp elt [⟨p,iter,ifs,0⟩] scope pos) spos) (Ex (G0 wi g tt te k e?) (AY i)):=by
 intro f s σ H D I h;rw[exec_Assign_Name_used _ _ _ _ hsw];refine af (jO (af ?_));show ah _ X.A (do let _<-comprehension (.ListComp elt [⟨p,iter,ifs,0⟩] scope pos) scope X.b1 _ (newList []) δ (eval iter X.b1) (Z (assign (.Name y l) X.b1))) _ _ s;refine af (b8 (KG (P:=λ_ E=>SP X f D .next E) S T body hkind hcell hloc hfree d hcap hcf Y I h λa C m u F M U J' fpC qn=>?_) (λ_ E W=>ar (ar W)) λ_ _ e=>e);obtain⟨oC,esC,nC,gC,dC,rC⟩:=id U;have R:=J'.T' (fp:=[C]) (λb c=>bp.1 c▸fpC) (λb c=>bp.1 c▸⟨oC,gC,λv z=>by rw[dC]at z;cases z⟩);show ah _ X.A (assign (.Name y l) X.b1 (.ref a)) _ _ F;refine f5 (Pj (pos:=l) hN hy hyl hfy _ F σ M (.ref a) (.ref a) (λt G=>D.nx t G) R O qn) λ_ s6 zz=>?_;obtain⟨w,Q,B,q6⟩:=zz;obtain⟨p1,p2,_⟩:=B.M' (C,oC) (bA _ (bA _ (As (by simp) gC)));exact⟨m,⟨oC,esC,nC,p1,dC,rC⟩,λh' r=>⟨w,Q,B.p5.lb (t':=s6.toks) (λb o c e=>(r.2 b c).t e) p2 fpC.2.1 fpC.2.2.2.1 fpC.2.2.2.2.1 fpC.2.2.2.2.2,q6⟩⟩
end L3
namespace L4
open PySem PySem.Spec PyProof.Rows L2 L3
section
variable{X:Cx}{G:Bg}
def Ja{st:Stmt}(h:PS X st (Ex d g))(w:∀b H Q,a b H Q->d b H Q):PS X st (Ex a g):=PS.en h λE b H c=>w _ _ _ c
def RB{st:Stmt}{e?:List Nat}(c:e?.Nodup)(h:PS X st (Ex (G0 (XC G s) (tFG G k g) (pa G b) (tF G a) k e?) (AY i))):PS X st (mu G (yz i (u5 k e? s g b a))):=Na (Ja h (LY c))
def TM{st:Stmt}{e?:List Nat}(c:e?.Nodup)(h:PS X st (Ex (G0 (XC G s) (tFG G k g) (pa G b) (tF G a) k e?) (AY i))):PS X st (mu G (vd i (cL (u5 k e? s g b a)))):=PJ (Ja (Ja h (LY c)) tN_F)
end
section
variable{f g h:FS}{c:FT}{e e' e2:FE}{a a':FA}{ρ ρ' ρ1 ρ2 ρ3:aS}{d x y z:D}{o:tz}{ds xs ys:bj}
def uM(h:f ρ=Z (.nx ρ')):uQ f g ρ=g ρ':=by unfold uQ;rw[h]
def uW(h:f ρ=Z (.rt d ρ')):uQ f g ρ=Z (.rt d ρ'):=by unfold uQ;rw[h]
def vb(h:c ρ=Z (γ,ρ')):fm c f g ρ=f ρ':=by unfold fm;rw[h]
def vI(h:c ρ=Z (δ,ρ')):fm c f g ρ=g ρ':=by unfold fm;rw[h]
def uZ(h:e ρ=Z (d,ρ')):vd i e ρ=Z (.nx (ρ'.set i (.z d))):=by unfold vd;rw[h]
def Im(h:a ρ=Z (ds,ρ')):yz i a ρ=Z (.nx (ρ'.set i (.O ds))):=by unfold yz;rw[h]
def uT(h:e ρ=Z (d,ρ')):uV e ρ=Z (.rt d ρ'):=by unfold uV;rw[h]
def xn(h:a ρ=Z (ds,ρ')):wD a ρ=Z (.X ds ρ'):=by unfold wD;rw[h]
def wm(h:e ρ=Z (d,ρ')):vJ e ρ=Z (.nx ρ'):=by unfold vJ;rw[h]
def Nr(h:e ρ=Z (d,ρ1))(b:xf ρ1 i=Z ds)(l:ixN ds.length j=Z k):Bi i j e ρ=Z (.nx (putAt ρ1 i (ds.set k d))):=by unfold Bi;rw[h];simp only[b,l]
def uY{g:D->D->Option D}(b:e ρ=Z (x,ρ1))(i:e' ρ1=Z (y,ρ2))(j:g x y=Z z):c2 g e e' ρ=Z (z,ρ2):=by unfold c2;rw[b];simp only[i,j]
def vQ{g:D->Option D}(b:e ρ=Z (x,ρ1))(i:g x=Z z):c1 g e ρ=Z (z,ρ1):=by unfold c1;rw[b];simp only[i]
def Jb(b:e (ρ.map Sl.T?)=Z (d,ρ1))(i:xH d=γ):AW e ρ=Z (d,ρ):=by unfold AW;rw[b];simp only[i,if_true]
def PV(i:c (ρ.map Sl.T?)=Z (b,ρ1)):Ad c ρ=Z (b,ρ):=by unfold Ad;rw[i]
def v5(i:e ρ=Z (.I b,ρ1)):cT e ρ=Z (b,ρ1):=by unfold cT;rw[i]
def yi(i:c ρ=Z (b,ρ1)):wt c ρ=Z (!b,ρ1):=by unfold wt;rw[i]
def yO(j:c ρ=Z (δ,ρ1))(l:i ρ1=Z (b,ρ2)):xM c i ρ=Z (b,ρ2):=by unfold xM;rw[j];exact l
def uL(b:e ρ=Z (d,ρ1))(i:a ρ1=Z (ds,ρ2)):ax e a ρ=Z (d::ds,ρ2):=by unfold ax;rw[b];simp only[i]
def uN{b:Type}{g:bj->Option b}{r:b}(i:a ρ=Z (ds,ρ1))(j:g ds=Z r):Gh g a ρ=Z (r,ρ1):=by unfold Gh;rw[i];simp only[j]
def vR(b:a ρ=Z (ds,ρ1)):cL a ρ=Z (.bt ds,ρ1):=by unfold cL;rw[b]
def TN(b:a ρ=Z (ds,ρ1))(i:ds.length<=1000):vx a ρ=Z (ds,ρ1):=by unfold vx;rw[b];simp only[i,if_true]
def aal(b:a ρ=Z (ds,ρ1))(i:ds.length<=1000):vE a ρ=Z (.d? ds,ρ1):=by unfold vE;rw[b];simp only[i,if_true]
def w9(b:e ρ=Z (.bt xs,ρ1))(i:e' ρ1=Z (.bt ys,ρ2))(j:xs.length+ys.length<=1000):xx e e' ρ=Z (xs++ys,ρ2):=by unfold xx;rw[b];simp only[i,j,if_true]
def yP{g:bj->bj->Option (D×bj)}{i:Nat}{es es0 b:bj}(j:xf ρ i=Z es0)(l:a ρ=Z (ds,ρ1))(m:xf ρ1 i=Z es)(p:g es ds=Z (d,b)):vK g i a ρ=Z (d,putAt ρ1 i b):=by unfold vK;rw[j];simp only[l,m,p]
def Dj(b:xf ρ i=Z es0)(j:e ρ=Z (d,ρ1))(l:xf ρ1 i=Z es)(m:es.length<1000):AV i e ρ=Z (.E,putAt ρ1 i (es++[d])):=by unfold AV;rw[b];simp only[j,l,m,if_true]
def TQ(b:xf ρ i=Z es0)(j:a ρ=Z (ds,ρ1))(l:xf ρ1 i=Z es)(m:es.length+ds.length<=1000):HX i a ρ=Z (.E,putAt ρ1 i (es++ds)):=by unfold HX;rw[b];simp only[j,l,m,if_true]
def wF{s:FA}{g:FG}(b:s ρ=Z (ds,ρ1)):yb s g f ρ=fu g f ds ρ1:=by unfold yb;rw[b]
def Fi{k:Nat}{e?:List Nat}{s:FA}{g:FG}{b:FT}{fe:FE}(i:s ρ=Z (ds,ρ1))(j:ds.length<=1000):u5 k e? s g b fe ρ=Av k e? g b fe ds ρ1:=by unfold u5;rw[i];simp only[j,if_true]
def Bj(l:ds.length=m)(h:b (L4.stM n es ds)=Z (.rt d ρ))(j:E9 ρ=Z i):u6 m n b es ds=Z (d,i):=by unfold u6;rw[aj l,h];simp only[j]
def Gk(l:ds.length=m)(h:b (L4.stM n es ds)=Z (.X xs ρ))(j:E9 ρ=Z i):u6 m n b es ds=Z (.bt xs,i):=by unfold u6;rw[aj l,h];simp only[j]
def zZ(i:ds.length=j)(h:b (L4.D' n ds)=Z (.X xs ρ)):xr j n b ds=Z xs:=by unfold xr;rw[aj i,h]
def uR(i:ds.length=j)(h:b (L4.D' n ds)=Z (.rt d ρ)):fc j n b ds=Z d:=by unfold fc;rw[aj i,h]
end
def vV(es:bj):Prop:=(∃c,es=[.int c])\/∃q r n,es=[.int q,.int r,.int n]
def zy(h:B8 a=γ\/B8 b=γ):yA (.int a) (.int b)=Z (.int (a * b)):=by unfold yA dI;simp only;rw[aj (by simpa using h)]
def DX(h:0<b):yB (.int a) (.int b)=Z (.int (a % b)):=by unfold yB dI;simp only;rw[aj (by simpa using h)]
def I'(h:0<b)(c:b<1073741824):Ec (.int a) (.int b)=Z (.int (a / b)):=by unfold Ec dI;simp only;rw[aj (by simp[h,c])]
def Nt(h:0<=a)(b:a<2147483647):B8 a=γ:=by unfold B8;simp only[aY,bT];omega
def BJ:D->Option fh
 |.int i=>Z (.inl i)
 |.str x=>Z (.inr x)
 |_=>J
def xu:List fh->bj->fh->Option D
 |k::b,d::a,j=>if k=j then Z d else xu b a j
 |_,_,_=>J
def W9(e:List fh)(b:bj)(k:fh)(d:D):bj:=gn (λc a=>if c=k then d else a) e b
def HZ(b:List fh)(k:fh):Bool:=b.any λa=>decide (a=k)
section
variable{X:Cx}{G:Bg}{H:Hp}
def Ca(h:cb G H d v)(e:BJ d=Z k):v=kV k:=by
 cases d<;>first|cases e|skip
 all_goals (unfold cb at h;exact h)
theorem Dk:∀{ks:List fh} {ds:bj} {xs:bL} (j:fh),uS G H ds xs->ks.length=xs.length->match xu ks ds j with
  |some d=>∃v,y9 (ks.zip xs) j=Z v/\cb G H d v
  |none=>y9 (ks.zip xs) j=J
 |[],ds,xs,j,r,l=>by cases ds<;>rfl
 |k::ks,ds,[],j,r,l=>by cases l
 |k::ks,[],x::xs,j,r,l=>by unfold uS at r;cases r
 |k::ks,d::ds,x::xs,j,r,l=>by
  unfold uS at r;obtain⟨v,q,e,c,f⟩:=r;cases e;unfold xu;by_cases a:k=j
  .rw[aj a];exact⟨x,E3 (p:=(k,x)) a,c⟩
  .rw[ao a];have h:=Dk (ks:=ks) (ds:=ds) (xs:=xs) j f (by simpa using l);have b:y9 ((k::ks).zip (x::xs)) j=y9 (ks.zip xs) j:=E4 (p:=(k,x)) a;rw[b];exact h
theorem L7:∀{a:List fh} {b:bL},a.length=b.length->((a.zip b).any λkv=>decide (kv.1=k))=HZ a k
 |[],b,_=>by cases b<;>rfl
 |c::a,[],l=>by cases l
 |c::a,x::b,l=>by unfold HZ;rw[fo,gb,gb,L7 (by simpa using l)];rfl
theorem PX:∀{a:List fh} {b:bL},a.length=b.length->(a.zip b).map (λkv=>if kv.1=k then (kv.1,v)else kv)=a.zip (gn (λd x=>if d=k then v else x) a b)
 |[],b,_=>by cases b<;>rfl
 |d::a,[],l=>by cases l
 |d::a,x::b,l=>by
  rw[fo,aI,PX (by simpa using l),ix,fo];congr 1;by_cases c:d=k
  .rw[aj c,aj c]
  .rw[ao c,ao c]
theorem Nu(hd:cb G H d v):∀{c:List fh} {b:bj} {a:bL},uS G H b a->c.length=a.length->uS G H (W9 c b k d) (gn (λf x=>if f=k then v else x) c a)
 |[],b,a,r,l=>by unfold W9;cases b<;>cases a<;>exact vN
 |f::c,b,[],r,l=>by cases l
 |f::c,[],x::a,r,l=>by unfold uS at r;cases r
 |f::c,m::b,x::a,r,l=>by
  unfold uS at r;obtain⟨w,q,e,i,j⟩:=r;cases e;unfold W9;rw[ix,ix];refine vU ?_ (Nu hd j (by simpa using l));by_cases h:f=k
  .rw[aj h,aj h];exact hd
  .rw[ao h,ao h];exact i
def _root_.L2.ts.kf(e:H a=Z (.o? o (.dK kvs))):ts H a (kV k) (y9 kvs k):=.inl ⟨kvs,k,.inr ⟨o,e⟩,O,O⟩
def Ee:D->D->Option D:=λx y=>match x,BJ y with
 |.Q b a,Z k=>xu b a k
 |_,_=>J
def Xa(hu:X.A.units+1<cLine)(U:PE X a (tF G f))(W:PE X b (tF G N))(hs:Zo b:=by exact λ_ _=>O):PE X (.Subscript a b pos) (tF G (c2 Ee f N)):=PE.en (Wg hu U W hs) λσ H Q Y=>by
 obtain⟨F,ρ,t,d,o,R,e,k⟩:=Y;obtain⟨x,y,i,I,M,c⟩:=E7 e;refine⟨F,ρ,t,x,i,R,I,λv z B s1 E r1=>⟨F,i,z,y,o,E,M,λu C l r R2 r2=>?_⟩⟩;have h:=cb.mono r _ _ r1;cases x with
 |Q q ds=>
  unfold Ee at c;cases m:BJ y with
  |none=>simp only[m]at c;cases c
  |some j=>simp only[m]at c;unfold cb at h;obtain⟨p,ob,xs,rfl,P,S,T⟩:=h;have lv:=Dk (ks:=q) j T S;rw[c]at lv;obtain⟨w,w1,w2⟩:=lv;refine⟨p,w,O,?_,k w C l (s1.t r) R2 w2⟩;rw[Ca r2 m,<- w1];exact ts.kf (R2.sub _ _ P)
 |_=>unfold Ee at c;cases c
def CM:D->D->Option D:=λx y=>match x,BJ y with
 |.Q b a,Z k=>Z ((xu b a k).getD .E)
 |_,_=>J
def TR(hu:X.A.units+1<cLine)(ha:PE X a (tF G f))(hb:PE X b (tF G Y))(m:M1 X a "get" apos b cpos):PE X (.Call (.Attribute a "get" apos) [b] [] cpos) (tF G (c2 CM f Y)):=PE.en (SO hu ha hb m) λσ H Q hh=>by
 obtain⟨F,ρ,N,d,t,R,e,k⟩:=hh;obtain⟨x,y,l,U,W,c⟩:=E7 e;cases x with
 |Q o T=>
  refine⟨F,ρ,N,_,l,R,U,λv P S M C r1=>?_⟩;have i:=r1;unfold cb at i;obtain⟨p,ob,xs,rfl,I,h2,h3⟩:=i;refine⟨p,O,.inl ⟨_,.inr ⟨_,C.sub _ _ I⟩⟩,F,l,P,y,t,C,W,λu B h q R2 r2=>?_⟩;unfold CM at c;cases r:BJ y with
  |none=>simp only[r]at c;cases c
  |some j=>
   simp only[r]at c;cases c;have lv:=Dk (ks:=o) j (uS.mono q _ _ h3) h2;refine⟨y9 (o.zip xs) j,?_,?_⟩
   .rw[Ca r2 r];exact ts.kf (R2.sub _ _ (q _ _ I))
   .cases E:xu o T j with
    |none=>rw[E]at lv k;rw[lv];exact k _ B h (M.t q) R2 A0
    |some z=>rw[E]at lv k;obtain⟨w,w1,w2⟩:=lv;rw[w1];exact k _ B h (M.t q) R2 w2
 |_=>unfold CM at c;cases c
def Jc(i:Nat):FS:=λa=>Z (.nx (a.set i (.dk [] [])))
def TU{st:Stmt}(h:PS X st (Ex Ow (AY i))):PS X st (mu G (Jc i)):=PS.en h λE u H l=>by obtain⟨F,r,m,o,R,e,k,q⟩:=l;cases e;intro p b;have c:=R.l' b (.dK []);refine k _ _ _ (vm.refl _) (c.set (s:=.dk [] []) ⟨p,[],O,ve,R.f3 b,R.i0 b,O,vN⟩ λ_ a d j t _ f to=>?_);cases d;exact R.apart b j t f to
def zz(i:Nat)(fk fv:FE):FS:=λf=>match fv f with
 |some (d,b)=>match b[i]? with
  |some (.dk _ _)=>match fk b with
   |some (y,c)=>match BJ y with
    |some k=>match c[i]? with
     |some (.dk a e)=>if a.length<1000 then if e.length=a.length then Z (.nx (c.set i (if HZ a k=γ then .dk a (W9 a e k d)else .dk (a++[k]) (e++[d]))))else J else J
     |_=>J
    |none=>J
   |none=>J
  |_=>J
 |none=>J
def TV{st:Stmt}(h:PS X st (Yh (BY i) (tF G S) (tF G T))):PS X st (mu G (zz i S T)):=PS.en h λE σ H hh=>by
 obtain⟨F,q,Y,o,R,e,k,k2⟩:=hh;unfold zz at e;rcases vH (f:=T) (ρ:=q)with t|⟨d,c,t⟩<;>simp only[t]at e
 .cases e
 split at e
 .rename_i ks0 ds0 ei;rcases vH (f:=S) (ρ:=c)with w|⟨y,C,w⟩<;>simp only[w]at e
  .cases e
  cases z:BJ y with
  |none=>simp only[z]at e;cases e
  |some j=>
   simp only[z]at e;split at e
   .rename_i A ds l;split at e
    .rename_i hl;split at e
     .rename_i hl2;cases e;refine⟨F,q,Y,d,c,R,t,λv H1 H1' s1 I r1=>?_⟩;obtain⟨m,xs0,a1,_⟩:=I.sl i _ ei;refine⟨_,zc a1,F,c,H1,y,C,I,w,λu H2 r W R2 r2=>?_⟩;obtain⟨a,B,M,b2,N,P,b,Q⟩:=R2.sl i _ l;rw[a1]at M;cases M;refine⟨m,fl r m (.dK (n3 (A.zip B) j v)),O,?_,?_⟩
      .rw[Ca r2 z];exact SK.k b2 (by rw[iO];exact jE (Nat.min_le_left _ _) (DW (by omega)))
      .have U:=cb.mono W _ _ r1;refine k _ _ _ (s1.t W) (R2.mut l O a1 (λH' hH=>?_) ?_)
       .by_cases p:HZ A j=γ
        .rw[aj p];refine⟨m,gn (λk' x=>if k'=j then v else x) A B,O,?_,N,P,by rw[kQ,b,iV],Nu U Q b⟩;rw[hH];unfold n3;rw[L7 b,aj p,PX b]
        .rw[ao p];refine⟨m,B++[v],O,?_,N,P,by rw[aC,aC,b];rfl,xk Q (vU U vN)⟩;rw[hH];unfold n3;rw[L7 b,ao p,lQ b];rfl
       .split<;>rfl
     .cases e
    .cases e
   .cases e
 .cases e
def Ia:D->Option D
 |.bt a=>(Kh a).map λbs=>.I (bs.any id)
 |_=>J
def RD(x:X.n6=γ)(hK:X.K=G.K:=by rfl):wR X (.builtin "any") (λw H Q=>∃(p:Addr) (bs:List Bool),w=[.ref p]/\gi G.K H p (bs.map V.I)/\Q (.I (bs.any id)) H):=by
 rw[<-hK];intro m s W H w U Q I r h;obtain⟨p,bs,rfl,C,q⟩:=h;obtain⟨u,rfl,j⟩:=mq r;cases j;obtain⟨a,t,pl,R⟩:=I.list C;have hlt:p<s.heap.objs.size:=by obtain⟨o,B,_⟩:=pl.isList;exact aR B
 have z:bs.length=a.length:=by have:=t.length;rw[ag]at this;exact this
 refine call_any_walk (fV pl.isList ⟨s.heap.objs.size,_,_,_,_,_,λi=>(bs[i]?).getD δ,O,i3 (show X.A.in1.handled=J from I.ok.hd x) _ p (bb hlt) a.toArray,⟨⟨_,bx _ O,O,O⟩,?_⟩,?_,λP F y=>?_⟩)
 .exact pl.isList.at λo e=>aK _ e
 .intro i v S N M E hQ';have d:a[i]?=Z v:=by simpa using E
  have c:i<a.length:=(cg.1 d).1;have f:(bs.map V.I)[i]?=Z (.I (bs[i]'(by omega))):=by simp[show i<bs.length by omega]
  obtain⟨u,l,j⟩:=t.get f;rw[d]at l;cases l;cases j;refine dw ?_;have e:(bs[i]?).getD δ=bs[i]'(by omega):=by simp[show i<bs.length by omega]
  rw[<-e];exact hQ'
 .refine⟨.I (bs.any id),H,?_,?_,q⟩
  .exact I.g? (t':=F) λb o e=>y b o (by simp;exact bb (aR e)) (aK _ e)
  .show Value.bool _=Value.bool _;congr 1;rw[bg,<- z];rw[c9];simp only[fE,bN,id];constructor
   .rintro⟨i,c,h⟩;exact⟨bs[i],fA c,by simpa [c]using h⟩
   .rintro⟨b,f,h⟩;obtain⟨i,c,rfl⟩:=kN.1 f;exact⟨i,c,by simpa [c]using h⟩
def aam:IY G (λf H Q=>∃(p:Addr) (bs:List Bool),f=[.ref p]/\gi G.K H p (bs.map V.I)/\Q (.I (bs.any id)) H) Ia:=λx z j H v Q e s d k=>by
 cases x with
 |bt h=>
  unfold Ia at e;simp only at e;cases b:Kh h with
  |none=>rw[b]at e;cases e
  |some bs=>rw[b]at e;cases e;unfold cb at d;obtain⟨a,f,rfl,c,i⟩:=d;rw[I0 i b]at c;exact⟨a,bs,O,s.seq (gi.of c),k _ λ_ _=>xZ _⟩
 |_=>cases e
def iS(f:FE):FA:=λb=>match f b with
 |some (.str x,a)=>Z (x.cps.toList.map λc=>D.str ⟨#[c]⟩,a)
 |_=>J
def Xb(h:PI X N e (iStr (tF G f))):PI X N e (XC G (iS f)):=PI.en h λσ H R E=>by
 obtain⟨F,P,p,Y,Q,R,e,k⟩:=E;unfold iS at e;split at e
 .rename_i x S B;cases e;refine⟨F,P,p,_,_,R,B,λv T q s A r=>?_⟩;unfold cb at r;refine⟨x,r,k _ _ _ s A λi u w t M=>⟨λd j=>?_,λI=>?_⟩⟩
  .rw[bB]at j;cases m:x.cps.toList[i]? with
   |none=>rw[m]at j;cases j
   |some c=>
    rw[m]at j;cases j;have a:x.cps[i]?=Z c:=by simpa using m
    refine⟨(nU.1 a).1,λz U y=>?_⟩;obtain⟨C,W,l,rfl⟩:=y;rw[a]at l;cases l;subst C;exact⟨u,vm.refl _,M,vm.refl _,λb o e=>.inl e,zJ _⟩
  .show i=x.cps.size;rw[I,ag];simp
 .cases e
def G3(f g:FE):FE:=λe=>match f e with
 |some (.d? (x::c),a)=>match g a with
  |some (.d? d,b)=>if c.length+d.length<=900 then Z (.d? (x::c++d),b)else J
  |_=>J
 |_=>J
def Xc(W:PE X a (tF G f))(Y:PE X b (tF G g))(hK:X.K=G.K:=by rfl):PE X (.BinOp a .Add b pos) (tF G (G3 f g)):=PE.en (Pl Wb W Y) λσ H Q hh=>by
 rw[hK];obtain⟨F,ρ,A,d,ρ',R,e,k⟩:=hh;unfold G3 at e;split at e
 .rename_i x xs c N;split at e
  .rename_i ys ρ2 P;split at e
   .rename_i hl;cases e;refine⟨F,ρ,A,_,c,R,N,λv B C s I r=>⟨F,c,B,_,_,I,P,λu H2 E m R2 y=>?_⟩⟩;have l:=cb.mono m _ _ r;have r0:=l;unfold cb at l y;obtain⟨a1,o,rfl,T,t⟩:=l;obtain⟨M,q,rfl,U,w⟩:=y;have h:=uX t;have j:=uX w;rw[aM]at h;refine⟨a1,M,o,q,O,O,ij.mono R2.sub T,ij.mono R2.sub U,(λz=>by rw[z]at h;cases h),by rw[<-h,<- j];exact yd (by omega),λz=>?_,λ_ p i=>?_⟩
    .have S:ys=[]:=by rw[z]at j;exact jt.1 j
     subst S;rw[bS]at k;exact k _ _ _ (s.t m) R2 r0
    .exact k _ _ _ ((s.t m).t (vy (R2.f3 i) _)) (R2.O' i _) (E5 (ij.of ve) (uS.mono (vy (R2.f3 i) _) _ _ (xk t w)))
   .cases e
  .cases e
 .cases e
end
section
variable{X:Cx}{G:Bg}
abbrev FO:=aS->Option (Option Int×aS)
def tFO(G:Bg)(f:FO):TO:=λi H Q=>∃F h e d b,vA G F i h e H/\f h=Z (d,b)/\∀a c,vm e a->vA G F i b a c->Q d c
def oNo:FO:=λa=>Z (J,a)
def V'(f:FE):FO:=λb=>match f b with
 |some (.int i,a)=>Z (Z i,a)
 |_=>J
def PO.en(h:PO X e t)(w:∀b H Q,t' b H Q->t b H Q):PO X e t':=λa s b H Q I c=>h a s b H Q I (w _ _ _ c)
def aan:PO X J (tFO G oNo):=PO.en Pr λh H Q a=>by obtain⟨F,f,c,d,b,R,e,k⟩:=a;cases e;exact k _ _ (vm.refl _) R
def aao(h:PE X e (tF G f)):PO X (Z e) (tFO G (V' f)):=PO.en (Pt h) λt H Q l=>by
 obtain⟨F,m,a,d,o,R,e,k⟩:=l;unfold V' at e;split at e
 .rename_i i p j;cases e;refine⟨F,m,a,_,_,R,j,λv q b s c r=>?_⟩;unfold cb at r;exact⟨i,r,k _ _ s c⟩
 .cases e
def EB(f:FE)(lo i:FO):FA:=λj=>match f j with
 |some (d,c)=>match d with
  |.bt e=>match lo c with
   |some (l,a)=>match i a with
    |some (h,b)=>Z (ro e l h,b)
    |none=>J
   |none=>J
  |.R e=>match lo c with
   |some (l,a)=>match i a with
    |some (h,b)=>Z (ro e l h,b)
    |none=>J
   |none=>J
  |_=>J
 |none=>J
def OG{lo:FO}(h:PE X e (tSl (Wd G.K) (tF G f) (tFO G lo) (tFO G w))):PE X e (z0 G (EB f lo w)):=PE.en h λσ H Q hh=>by
 obtain⟨F,q,N,Y,E,R,e,k⟩:=hh;unfold EB at e;rcases vH (f:=f) (ρ:=q)with y|⟨d,c,y⟩<;>simp only[y]at e
 .cases e
 have sx:∀(i:bj),(∀{m:Hp} {v:V},cb G m d v->∃a j,v=.ref a/\gi G.K m a j/\uS G m i j)->(match lo c with
   |some (l,b)=>match w b with
    |some (h,t)=>Z (ro i l h,t)
    |none=>J
   |none=>J)=Z (Y,E)->tSl (Wd G.K) (tF G f) (tFO G lo) (tFO G w) σ H Q:=λi rd e=>by
  rcases vH (f:=lo) (ρ:=c)with z|⟨l,b,z⟩<;>simp only[z]at e
  .cases e
  rcases vH (f:=w) (ρ:=b)with A|⟨u,t,A⟩<;>simp only[A]at e
  .cases e
  cases e;refine⟨F,q,N,d,c,R,y,λv m P s1 W r1=>⟨F,c,m,l,b,W,z,λS T I R2=>⟨F,b,S,u,_,R2,A,λH3 U M o=>?_⟩⟩⟩;obtain⟨a,j,rfl,B,C⟩:=rd (cb.mono (I.t M) _ _ r1);exact⟨a,j,O,o.sub.seq B,λp x=>k p _ _ _ (s1.t (I.t M)) (o.l' x _) ve (o.f3 x) (o.i0 x) (o.apart x) (Np C)⟩
 cases d with
 |bt i=>exact sx i (λr=>by unfold cb at r;obtain⟨a,j,rfl,B,C⟩:=r;exact⟨a,j,O,gi.of B,C⟩) e
 |R i=>exact sx i (λr=>by unfold cb at r;exact r) e
 |_=>cases e
def KP:D->D->Option D
 |.str x,.int n=>if 0<=n/\n<=1000/\x.length<=100 then Z (.str (m6 x n))else J
 |_,_=>J
end
section
variable{X:Cx}{G:Bg}
def KQ(f e h:FE):FE:=λj=>match f j with
 |some (.Q i d,a)=>match e a with
  |some (y,b)=>match h b with
   |some (x,c)=>match BJ y with
    |some k=>Z ((xu i d k).getD x,c)
    |none=>J
   |none=>J
  |none=>J
 |_=>J
def TX(hu:X.A.units+1<cLine)(ha:PE X a (tF G f))(hb:PE X b (tF G S))(hc:PE X c (tF G T))(m:M2 X a "get" apos b c cpos):PE X (.Call (.Attribute a "get" apos) [b,c] [] cpos) (tF G (KQ f S T)):=PE.en (SQ hu ha hb hc m) λσ H Q hh=>by
 obtain⟨F,I,H0,d,ρ',R,e,k⟩:=hh;unfold KQ at e;split at e
 .rename_i o ds h e1;rcases vH (f:=S) (ρ:=h)with B|⟨y,i,B⟩<;>simp only[B]at e
  .cases e
  rcases vH (f:=T) (ρ:=i)with C|⟨x,ρ3,C⟩<;>simp only[C]at e
  .cases e
  cases E:BJ y with
  |none=>simp only[E]at e;cases e
  |some j=>
   simp only[E]at e;cases e;refine⟨F,I,H0,_,h,R,e1,λv H1 H1' Y N W=>?_⟩;unfold cb at W;obtain⟨p,ob,xs,rfl,U,h2,h3⟩:=W;refine⟨p,O,.inl ⟨_,.inr ⟨_,N.sub _ _ U⟩⟩,F,h,H1,y,i,N,B,λu H2 H2' q R2 r2=>⟨F,i,H2,x,_,R2,C,λz M l r t r3=>?_⟩⟩;have lv:=Dk (ks:=o) j (uS.mono (q.t r) _ _ h3) h2;refine⟨y9 (o.zip xs) j,?_,?_⟩
   .rw[Ca r2 E];exact ts.kf (t.sub _ _ (r _ _ (q _ _ U)))
   .cases P:xu o ds j with
    |none=>rw[P]at lv k;rw[lv];exact k _ M l (Y.t (q.t r)) t r3
    |some w=>rw[P]at lv k;obtain⟨w',w1,w2⟩:=lv;rw[w1];exact k _ M l (Y.t (q.t r)) t w2
 .cases e
def Jd(G:Bg)(c:Nat)(t:Ty->Option Bool):Prop:=(∀y b,t y=Z b->di G.K (y.val G) (.ref (G.ca c))=Z b)/\∀j b,t (.c j)=Z b->Nl G.K (G.ca j)
def OH(h:Jd G c t)(hK:X.K=G.K:=by rfl):wR X (.builtin "isinstance") (λa H Q=>∃d x b,a=[x,(Ty.c c).v G]/\cb G H d x/\t (tyD d)=Z b/\Q (.I b) H):=
 KO (X:=X) (.c c) (by rw[hK];exact h.1) (by rw[hK];exact h.2) hK
end
def ddp(acc:List fh)(k:fh):List fh:=if acc.any (λz=>decide (z=k))then acc else acc++[k]
def AX(a:List fh):List fh:=a.foldl ddp []
def Xd(acc:List fh)(k j:fh):(ddp acc k).any (λz=>decide (z=j))=(acc.any (λz=>decide (z=j))||decide (j=k)):=by
 unfold ddp;by_cases h:acc.any (λz=>decide (z=k))=γ
 .rw[aj h];by_cases e:j=k
  .subst e;rw[h];simp
  .simp[e]
 .rw[ao h,List.any_append];by_cases e:j=k
  .subst e;simp
  .have a:¬k=j:=λz=>e z.symm;simp[a,e]
def PY(acc:List fh)(k:fh):(ddp acc k).length=if acc.any (λz=>decide (z=k))=γ then acc.length else acc.length+1:=by unfold ddp;split<;>simp
def KR(a:List fh)(i:Nat)(h:i<a.length):AX (a.take (i+1))=ddp (AX (a.take i)) a[i]:=by unfold AX;rw[lh,bh h,pA];rfl
def TY(a:List fh):(AX a).length<=a.length:=by
 have sx:∀(l:List fh) (acc:List fh),(l.foldl ddp acc).length<=acc.length+l.length:=by
  intro l
  induction l with
  |nil=>intro acc;simp
  |cons k l b=>
   intro acc;rw[iN,aM];have c:=b (ddp acc k);have d:(ddp acc k).length<=acc.length+1:=by rw[PY];split<;>omega
   omega
 have:=sx a [];simpa [AX]using this
def set_same{h:Heap}(hS:h.SetOf (vF prog w) a S n)(e:∀k,S k=b k)(c:n=d):h.SetOf (vF prog w) a b d:=by obtain rfl:S=b:=funext e;subst c;exact hS
section
variable{prog:aH}{w:az}{A:aJ}{R:gv->ae->Prop}{I:Addr}{fp wr:List Addr}{GG:Array gu->Array gu->Prop}{n:Nat}{PP:Nat->ab->Prop}{SS:Nat->ae->Prop}
def TZ(W:WalksS prog w A.in1 I fp wr GG n PP SS)(S:Addr)(hSf:S∉fp)(ks:List fh)(hn:ks.length=n)
  (hval:∀i v (h:i<ks.length),PP i v->(vF prog w).is ks[i] v=γ/\v.scannable=γ) (hb:n+1<scanBound):∀(k i:Nat) (s:ae),n - i=k->i<=n->SS i s->
   s.heap.SetOf (vF prog w) S (λj=>(AX (ks.take i)).any (λz=>decide (z=j))) (AX (ks.take i)).length->
   (∀a,Moved (S::wr) GG s a->a.heap.SetOf (vF prog w) S (λj=>(AX ks).any (λz=>decide (z=j))) (AX ks).length->R (.ok (.ret .none)) a)->
   cy (model prog w) A (.builtin "set.update.loop" ⟨[.ref S,.ref I],[]⟩) R s:=by
 have hSw:S∉wr:=λz=>hSf ((W).sub _ z);have up:∀b∈wr,b∈S::wr:=λb z=>ba _ z;intro k
 induction k with
 |zero=>
  intro i s l hi hst hS hR;obtain rfl:i=n:=by omega
  refine dQ gG ?_;rw[eC dM _];show ah _ A.in1 (pyNext (.ref I)>>=_) _ _ s;refine af (W.done s _ _ hst λa hm=>?_);show ah _ A.in1 (ret Value.none) _ _ a;rw[iy (by omega)]at hS;refine ar (hR a (hm.mono up) ?_);obtain⟨o,es,ep,t,d,more⟩:=hS;exact⟨o,es,ep,t,hm.heap S _ hSw d,more⟩
 |succ k m=>
  intro i s l hi hst hS hR;have hlt:i<n:=by omega
  have hlk:i<ks.length:=by omega
  refine dQ gG ?_;rw[eC dM _];show ah _ A.in1 (pyNext (.ref I)>>=_) _ _ s;refine af (W.item i s _ _ hlt hst λv a hP hst' hm=>?_);obtain⟨kv,sc⟩:=hval i v hlk hP;have hS':a.heap.SetOf (vF prog w) S (λj=>(AX (ks.take i)).any (λz=>decide (z=j))) (AX (ks.take i)).length:=by obtain⟨o,es,ep,t,d,more⟩:=hS;exact⟨o,es,ep,t,hm.heap S _ hSw d,more⟩
  show ah _ A.in1 (holding [v] (setAdd S v)>>=_) _ _ a;refine af (bP ?_);unfold setAdd;refine bP ?_;refine af ((vF prog w).pyHash (k:=ks[i]) kv ?_);have room:(AX (ks.take i)).length+1<scanBound:=by have:=TY (ks.take i);rw[bY]at this;omega
  refine wpAny_setAddHashed_of (knd:=vF prog w) (s:={ a with toks:=a.toks+1 }) kv sc hS' room λh' hsb hS2=>?_;have hSi:h'.SetOf (vF prog w) S (λj=>(AX (ks.take (i+1))).any (λz=>decide (z=j))) (AX (ks.take (i+1))).length:=
   set_same hS2 (λj=>by rw[KR ks i hlk,Xd]) (by rw[KR ks i hlk,PY])
  refine ar ⟨gh dM _,m (i+1) _ (by omega) hlt (W.frame _ a _ _ hst' (gp _) λb z o e=>?_) hSi λf c hS''=>?_⟩
  .rw[hsb.2 b (λy:b=S=>hSf (by rw[<-y];exact z))];exact e
  .refine hR f (jT W.gtrans ((hm.mono up).then_heap (gp _) λb o z e=>?_) c) hS'';rw[hsb.2 b (λy:b=S=>z (by rw[y];exact aX))];exact e
end
def Xe(l:Addr)(us:Array ab)(m:Nat)(b:Addr)(o:Obj)(ws:Array ab)(f:Nat)(e:o.cls=.type "tuple")(hd:o.data=.seq ws f)(E:¬(!us.isEmpty&&gE (us.size+ws.size))=γ)(i:us.size<=aG)(j:us.size+ws.size<=aG+1):
  Meets (dJ.«list.extend» ⟨[.ref l,.ref b],[]⟩) (λ_ R s=>s.heap.get? l=Z { cls:=.type "list", data:=.seq us m }/\s.heap.get? b=Z o/\R (.ok (.ret Value.none)) { s with heap:=s.heap.update l (cN λx=>x++ws),toks:=s.toks }):=by
 obtain⟨c,q,data,sl⟩:=o;cases e;cases hd;refine .of_wp λprog w A R s h=>?_;obtain⟨z,g,d,tk,os⟩:=s;obtain⟨a,hb,h⟩:=h;have r:=AutoSeq1.sub_tuple_tuple;have t:=AutoSeq1.sub_list_list;have u:=AutoSeq1.sub_tuple_list;have y:=AutoSeq1.sub_list_tuple;have p:(us++ws).size<=aG+1:=Array.size_append (xs:=us) (ys:=ws)▸j
 wp_walk using (lX a O (hz:=i) (_hz':=p)),nY a,nY hb
 exact⟨_,O,h⟩
section
variable{X:Cx}{G:Bg}
def Nv(K:av):V->bL->Hp->VK->Prop:=λx d H Q=>∃l b a c,x=.ref l/\d=[.ref b]/\H l=Z (.bt a)/\ij K H b c/\a.length+c.length<=aG/\Q .E (fl H l (.bt (a++c)))
def OI:MtM X "list.extend" (Nv X.K):=by
 intro i s S H x N v M Q I C B h;obtain⟨l,b,P,R,rfl,rfl,hH,hB,F,q⟩:=h;cases C;obtain⟨u,rfl,A⟩:=B.one;cases A;obtain⟨z,c,n,r,E,e⟩:=I.T3 hH;obtain⟨a,j,⟨o,m,p,y,hd⟩,w⟩:=I.tuple hB;have t:=j.length;have d:c.toArray.size+a.toArray.size<=aG:=by rw[bg,bg];omega
 have hlong:¬(!c.toArray.isEmpty&&gE (c.toArray.size+a.toArray.size))=γ:=by rw[IF d,ql];exact bu
 refine iZ jC ⟨_,e,O⟩ oR (oH _ _)
  (Xe l c.toArray n b o a.toArray y p hd hlong (by rw[bg];omega) (by omega)) ⟨e,m,?_⟩
 refine⟨.E,_,I.lset (its':=c++a) hH e (by simp) (r.append j) ?_,O,q⟩;rw[aC];omega
def Dl(i:Nat)(f:FE):FE:=λd=>match xf d i with
 |some _=>match f d with
  |some (.d? c,a)=>match xf a i with
   |some b=>if b.length+c.length<=1000 then Z (.E,putAt a i (b++c))else J
   |none=>J
  |_=>J
 |none=>J
def OJ(h:PE X e (tBM G.K "list" (Nv G.K) (BY i) (Ea (tF G f) J5))):PE X e (tF G (Dl i f)):=PE.en h λσ H Q A=>by
 obtain⟨F,c,w,d,S,R,e,k⟩:=A;unfold Dl at e;cases j:xf c i with
 |none=>simp only[j]at e;cases e
 |some z=>
  simp only[j]at e;rcases vH (f:=f) (ρ:=c)with l|⟨x,b,l⟩<;>simp only[l]at e
  .cases e
  .cases x with
   |d? Y=>
    cases m:xf b i with
    |none=>simp only[m]at e;cases e
    |some W=>
     simp only[m]at e;split at e
     .rename_i B;cases e;obtain⟨a,N,r,E,s3,_⟩:=yC R j;refine⟨.ref a,r,.inl ⟨O,N,gi.of E⟩,F,c,w,_,b,R,l,λv T y s q rs=>?_⟩;unfold cb at rs;obtain⟨p,P,rfl,C,rs⟩:=rs;obtain⟨U,o,t,I,u,M⟩:=yC q m;rw[r]at t;cases t;refine⟨a,p,o,P,O,O,I,ij.mono q.sub C,?_,k _ _ _ s (M _ _ (xk u rs)) A0⟩;rw[<-uX u,<- uX rs];exact yd B
     .cases e
   |_=>cases e
end
section
variable{X:Cx}{G:Bg}{H:Hp}
def aap(I:c3 X p R H s)(hK:X.K=G.K)(hd:cb G H d v)(c:e8 v u)(B:∀k m e,d=.obj k m e->Nl X.K (G.ca k)):
  ∃HH:Heap->Prop,W.KitX X.K u ((tyD d).val G) HH/\HH s.heap/\u≠.builtin "__main__.__loader__#opaque" := by
 cases d with
 |E=>unfold cb at hd;subst hd;cases (show u=Value.none from c);exact⟨_,qV,True.intro,λz=>nomatch z⟩
 |I x=>unfold cb at hd;subst hd;cases (show u=Value.bool x from c);exact⟨_,qW,True.intro,λz=>nomatch z⟩
 |int x=>unfold cb at hd;subst hd;obtain⟨t,q⟩:=(show ∃t,u=Value.int x t from c);cases q;exact⟨_,W.kitx_int,True.intro,λz=>nomatch z⟩
 |str x=>unfold cb at hd;subst hd;obtain⟨t,q⟩:=(show ∃t,u=Value.str x t from c);cases q;exact⟨_,W.kitx_str,True.intro,λz=>nomatch z⟩
 |d? e=>unfold cb at hd;obtain⟨a,f,rfl,b,j⟩:=hd;cases c;rw[<-hK]at b;obtain⟨l,_,⟨o,h,i,_⟩,_⟩:=I.tuple b;exact⟨_,mx,⟨o,h,i⟩,λz=>nomatch z⟩
 |bt e=>unfold cb at hd;obtain⟨a,f,rfl,b,j⟩:=hd;cases c;obtain⟨_,_,n,_,q⟩:=(show wL X.prog X.w H s.heap a (.bt f) from I.fx a _ b);exact⟨_,iX,⟨_,q,O⟩,λz=>nomatch z⟩
 |R e=>unfold cb at hd;obtain⟨a,f,rfl,b,j⟩:=hd;cases c;rw[<-hK]at b;obtain⟨l,_,⟨o,n,h,i,_⟩,_⟩:=I.list b;exact⟨_,iX,⟨o,h,i⟩,λz=>nomatch z⟩
 |Q C e=>unfold cb at hd;obtain⟨a,E,f,rfl,b,j,A⟩:=hd;cases c;obtain⟨_,_,_,Q,_,o,N,M,h,i,_⟩:=(show wL X.prog X.w H s.heap a (.o? E (.dK (C.zip f))) from I.fx a _ b);exact⟨_,jS,⟨o,h,i.1⟩,λz=>nomatch z⟩
 |obj k m e=>have ci:=B k m e O;unfold cb at hd;obtain⟨a,F,f,rfl,b,j,A⟩:=hd;cases c;obtain⟨mA,r,_⟩:=EY I.fx b;obtain⟨P,y,_⟩:=r.look;exact⟨_,W.kitx_own (ci.cl.get _) ci.cl.hd ci.ha ci.hn ci.htk ci.hm,y,λz=>nomatch z⟩
def RE(G:Bg)(cs:List Nat):bL:=cs.map λc=>.ref (G.ca c)
def T2(G:Bg)(cs:List Nat):List ab:=cs.map λc=>.ref (G.ca c)
def T4(cs:List Nat)(r:er (RE G cs) a):a=T2 G cs:=by
 induction cs generalizing a with
 |nil=>cases r;rfl
 |cons c cs b=>
  cases r with
  |cons r d=>cases r;exact bH _ (b d)
def PZ(G:Bg)(cs:List Nat)(t:Ty->Option Bool):Prop:=(∀y b,t y=Z b->W.kitAny G.K (y.val G) (T2 G cs)=Z b)/\∀j b,t (.c j)=Z b->Nl G.K (G.ca j)
def OK(i:PZ G cs t)(hK:X.K=G.K:=by rfl):wR X (.builtin "isinstance") (λl H Q=>∃d x b a,l=[x,.ref a]/\H a=Z (.d? (RE G cs))/\cb G H d x/\t (tyD d)=Z b/\Q (.I b) H):=by
 intro j s σ H l U Q I r h;obtain⟨d,x,b,a,rfl,o,hd,e,q⟩:=h;obtain⟨u,Y,rfl,E,f⟩:=Y' r;cases f;obtain⟨HH,AT,z,A⟩:=aap I hK hd E λk R P y=>by subst y;rw[hK];exact i.2 k b e
 obtain⟨_,p,F,⟨⟨c,N,M,S⟩,B,C,n,q3⟩⟩:=(show wL X.prog X.w H s.heap a (.d? (RE G cs)) from I.fx a _ o);cases C;cases q3;have m:=T4 cs F;subst m;exact W.kia_tup AT I.rf z B (by rw[hK];exact i.1 _ _ e) A λT=>⟨.I b,H,I.x? _,O,q⟩
def tCls(G:Bg):List Nat->TA
 |[]=>J5
 |c::r=>Ea (tC (.ref (G.ca c))) (tCls G r)
theorem P1:∀(cs:List Nat) (a:St) (H:Hp) (Q:bL->Hp->Prop),Q (RE G cs) H->tCls G cs a H Q
 |[],_,_,_,h=>h
 |c::r,a,H,Q,h=>P1 r a H (λd b=>Q (.ref (G.ca c)::d) b) h
def T5(h:PE X e (tCB (λz H Q=>∃d x b m,z=[x,.ref m]/\H m=Z (.d? (RE G cs))/\cb G H d x/\t (tyD d)=Z b/\Q (.I b) H) (Ea (tF G f) (Ea (tTup (tCls G cs)) J5))))(y:cs.length<=1000:=by decide):PE X e (tF G (c1 (v3 t) f)):=PE.en h λC H Q w=>by
 obtain⟨F,A,o,d,l,R,e,k⟩:=w;obtain⟨x,u,a⟩:=E6 e;unfold v3 at a;cases i:t (tyD x)with
 |none=>rw[i]at a;cases a
 |some b=>
  rw[i]at a;cases a;refine⟨F,A,o,x,l,R,u,λv B q s c r=>P1 cs _ _ _ ⟨?_,λp j=>?_⟩⟩
  .unfold RE;rw[ag];exact yd y
  .exact⟨x,v,b,p,O,ve,cb.mono (c.sub.t (vy j _)) _ _ r,i,k _ _ _ (s.t (vy (c.f3 j) _)) (c.O' j _) (xZ b)⟩
end
abbrev one(j:Nat)(led pl:Bool):bC:=⟨7,#[j],#[],0,led,0,pl⟩
section
variable{prog:aH}{w:az}{A:aJ}{E:ab->ae->Prop}{s:ae}
abbrev TK(prog:aH)(w:az):=IsTupleKey (vF prog w)
def cls_val(n:Nat)(h:lZ v=γ):iJ n v=pure δ:=by
 cases v with
 |ref a=>simp[lZ]at h
 |_=>first|rfl|simp[iJ]|(unfold iJ;rfl)
def P2(e:TK prog w s.heap j a)(h:Q δ s):ah (model prog w) A (iJ 8 (.ref a)) Q E s:=by
 have hT:=e.typeIs;obtain⟨o,items,n,i,_,hd,f⟩:=e;unfold iJ;refine af (jQ hT ?_);show ah _ _ (pure γ>>=_) _ _ s;refine af (ar ?_);simp only[Bool.not_true,eG,if_false];refine af (l3 i hd ?_);refine af ?_;show ah _ _ (forIn items _ _) _ _ s;rw[<-o9];refine lu _ (λey r d=>r.1=J/\d=s/\∀v∈ey,lZ v=γ) _ ?_ ?_ _ _ ⟨O,O,f.byValue⟩
 .rintro v ey r d ⟨b,rfl,hall⟩;rw[cls_val _ (hall v aX)];refine af (ar ?_);simp only[eG,if_false];exact ar ⟨O,O,λu c=>hall u (ba _ c)⟩
 .rintro⟨l,m⟩ d ⟨b,rfl,_⟩;simp only at b;subst b;exact ar h
end
section
variable{prog:aH}{w:az}{A:aJ}{E:ab->ae->Prop}{s:ae}
def OL{a:Heap}(b:a.get? S=Z o)(hd:o.data=.set es ep t):(a.update S (hU es' t')).get? S=Z { o with data:=.set es' (ep+1) t' }:=by have:=fi (hU es' t') b (by rw[putSet_of es' t' hd];rfl);rw[putSet_of es' t' hd]at this;exact this
end
section
variable{prog:aH}{w:az}{A:aJ}{R:gv->ae->Prop}{I:Addr}{fp wr:List Addr}{GG:Array gu->Array gu->Prop}{PP:Nat->ab->Prop}{SS:Nat->ae->Prop}
def TK.g?{c:Heap}(t:TK prog w h ks a)(e:∀o,h.get? a=Z o->c.get? a=Z o):TK prog w c ks a:=by obtain⟨o,b,n,d,m⟩:=t;exact⟨o,b,n,e o d,m⟩
def Set2(h:Heap)(S:Addr)(n:Nat):Prop:=∃o a b t,h.get? S=Z o/\o.ExactSet/\o.data=.set a b t/\a.size<scanBound/\t.fits a.size=γ/\a.size=n
end
def D0:isSubtype (.type "tuple") (.type "set")=pure δ:=by rw[jN];kernel_rfl
def q?:isSubtype (.type "tuple") (.type "frozenset")=pure δ:=by rw[jN];kernel_rfl
section
variable{prog:aH}{w:az}{A:aJ}{E:ab->ae->Prop}{s:ae}{Q:ab->ae->Prop}
abbrev Aw(led:Bool):Obj:={ cls:=.type "set", dict:=J,data:=.set #[] 0 (.fresh 0 0 led) }
abbrev inK(a:List fh):fh->Bool:=λj=>(AX a).any (λz=>decide (z=j))
structure SrcK(prog:aH)(w:az)(h:Heap)(a:Addr)(items:Array ab)(ks:List fh):Prop where
 len:ks.length=items.size
 key:∀i v (hi:i<ks.length),items[i]?=Z v->(vF prog w).is ks[i] v=γ/\v.scannable=γ
 bnd:items.size+1<scanBound
def Xf(s:ae)(PS:Heap->Prop)(E:ab->ae->Prop):gv->ae->Prop:=
 wants (λr s2=>r=.none/\∃a k2,s2={ s with heap:=a,toks:=k2 }/\PS a/\∀b o,b<s.heap.objs.size->s.heap.get? b=Z o->a.get? b=Z o) E
def Nw(K:SrcK prog w s.heap c items ks)(hlt:c<s.heap.objs.size)
  (W:Walks prog w A.in1 (s.heap.objs.size+1) [s.heap.objs.size+1,c] [s.heap.objs.size+1] items.size (λi v=>items[i]?=Z v) SS) (st:SS 0 ((s.heap.push (Aw led)).push itO))
  (hR:∀a k2,a.SetOf (vF prog w) s.heap.objs.size (inK ks) (AX ks).length->(∀b o,b<s.heap.objs.size->s.heap.get? b=Z o->a.get? b=Z o)->R (.ok (.ret .none)) { s with heap:=a,toks:=k2 }) (tk:Nat):
  cy (model prog w) A (.builtin "set.update.loop" ⟨[.ref s.heap.objs.size,.ref (s.heap.objs.size+1)],[]⟩) R { s with heap:=(s.heap.push (Aw led)).push itO,toks:=tk }:=by
 have notin:s.heap.objs.size∉[s.heap.objs.size+1,c]:=by
  intro z;rcases aO.1 z with z|z
  .exact aq z (bb (dy _))
  .exact aq (bp.1 z) (gm hlt)
 have f:((s.heap.push (Aw led)).push itO).get? s.heap.objs.size=Z (Aw led):=aK _ (bx _ O);refine TZ W.toS s.heap.objs.size notin ks K.len (λi v hi p=>K.key i v hi p) K.bnd (items.size - 0) 0 _ (by omega) (cp _) st ?_ λs2 mv d=>?_
 .exact⟨_,#[],0,_,f,⟨O,O,O⟩,O,λe m=>by simp at m,λk=>by simp[AX],by unfold scanBound;decide,by rfl,O⟩
 .obtain⟨a,g2,d2,k2,q⟩:=s2;have j:g2=s.gens:=mv.gens;have h:d2=s.drawn:=mv.drawn;have l:q=s.os:=mv.os;subst j h l;refine hR a k2 d λb o hb e=>mv.heap b o (λz=>?_) (aK _ (aK _ e));rcases aO.1 z with z|z
  .exact aq z (bb hb)
  .exact aq (bp.1 z) (bb (eI hb))
theorem OM(a:ab)(h:Q₁ (.ref s.heap.objs.size) { s with heap:=s.heap.push (Aw (!w.params.followText "set-order")) }):
  cy (model prog w) A (.call (.builtin "set.__new__") ⟨[.type "set", a],[]⟩) (wants Q₁ E) s:=by
 refine p8 ?_;show ah _ A.in1 (do checkBuiltinCall "set.__new__" ⟨[.type "set", a],[]⟩;again (.builtin "set.__new__" ⟨[.type "set", a],[]⟩)) _ _ s;refine af (wpAny_of_eq (F.newCall_set_1 a) (ar ⟨gh p9 _,dQ F.entry_set_new ?_⟩));rw[eC p9 _];unfold dJ.«set.__new__» sJ;have hsub:=sub_set_self;obtain⟨b,g,d,tk,os⟩:=s;dsimp only
 wp_walk
 refine ly (ar ?_);dsimp only;simp only[newObj];refine af (wpAny_alloc (ar ?_));exact ar h
theorem Fj{PS:Heap->Prop}(t:s.heap.get? d=Z o)(B:o.cls=.type T)
  (S:isSubtype (.type T) (.type "set")=pure δ) (U:isSubtype (.type T) (.type "frozenset")=pure δ) (W:(Value.type T==Value.type "dict")=δ)
  (itr:∀(A:aJ) (Q:ab->ae->Prop) (E:ab->ae->Prop) (f:ae),f.heap.get? d=Z o->Q (.ref f.heap.objs.size) { f with heap:=f.heap.push itO }->ah (model prog w) A (pyIter (.ref d)) Q E f)
  (fil:∀tk (R:gv->ae->Prop),(∀a k2,PS a->(∀b o,b<s.heap.objs.size->s.heap.get? b=Z o->a.get? b=Z o)->R (.ok (.ret .none)) { s with heap:=a,toks:=k2 })->
   cy (model prog w) A.in1.in1 (.builtin "set.update.loop" ⟨[.ref s.heap.objs.size,.ref (s.heap.objs.size+1)],[]⟩) R { s with heap:=(s.heap.push (Aw (!w.params.followText "set-order"))).push itO,toks:=tk })
  (h:∀a k2,PS a->(∀b o,b<s.heap.objs.size->s.heap.get? b=Z o->a.get? b=Z o)->Q (.ref s.heap.objs.size) { s with heap:=a,toks:=k2 }):
  ah (model prog w) A (call (.type "set") [.ref d]) Q E s:=by
 have hlt:d<s.heap.objs.size:=aR t;obtain⟨c,P,hmro⟩:=fL.mro;have made:=fL.made;have subs:=fL.sub;refine jW (p8 ?_);show ah _ _ (callAny (.type "set") _) _ _ _;refine ar ⟨Code.quiet_builtin _ (by decide +kernel),dQ F.entry_type_call ?_⟩;rw[Around.under_plain (weight_type_call_type "set" [.ref d] []) O];have I:=fL.notType;have M:=fL.canCreate;have N:=F.typeCall_set_1 (.ref d)
 repeat (any_goals (first|assumption|wp_step))
 let led:Bool:=!w.params.followText "set-order";refine hE (OM (.ref d) (E:=E) (Q₁:=λv f=>v=.ref s.heap.objs.size/\f={ s with heap:=s.heap.push (Aw led) }) ⟨O,O⟩) λr f hr=>?_;cases r with
 |error e=>exact hr
 |ok z=>
  cases z with
  |ret v=>
   obtain⟨rfl,rfl⟩:=hr;have u:(s.heap.push (Aw led)).get? s.heap.objs.size=Z (Aw led):=bx _ O;have p:md { s with heap:=s.heap.push (Aw led) } (.ref s.heap.objs.size) "set" := ⟨_,u,O⟩;have G:=fL.init.lookup;have H:=fL.init.bind (.ref s.heap.objs.size)
   repeat (any_goals (first|assumption|wp_step))
   refine hE (oI (R:=Xf s PS E) fL.init.plain F.entry_set_init (check_set_init_1 p ?_)) λC s2 i=>?_
   .obtain⟨oc,od,oda,osl⟩:=o;cases B;have x:(s.heap.push (Aw led)).get? d=Z { cls:=.type T,dict:=od,data:=oda,slots:=osl }:=aK _ t;unfold dJ.«set.__init__» noKeywords sG;generalize gP:pyIter=PP
    wp_walk
    subst gP;refine itr _ _ _ _ x ?_;refine af (qo ?_);have y:(s.heap.push (Aw led)).objs.size=s.heap.objs.size+1:=dc _ _;show cy _ _ (.builtin "set.update.loop" ⟨[.ref s.heap.objs.size,.ref (s.heap.push (Aw led)).objs.size],[]⟩) _ _;rw[y];refine fil _ _ λa k2 j m=>?_;show ah _ _ _ _ _ _;refine ar ?_;show ah _ _ (ret Value.none) _ _ _;exact ar ⟨O,a,k2,O,j,m⟩
   .cases C with
    |error e=>exact i
    |ok l=>
     cases l with
     |ret r=>
      obtain⟨rfl,a,k2,rfl,j,m⟩:=i
      repeat (any_goals (first|assumption|wp_step))
      exact h _ _ j m
     |_=>exact i.elim
  |_=>exact hr.elim
end
section
variable{X:Cx}{G:Bg}{H:Hp}{pins:cD}{σ:St}{s:ae}
def T6(h:(vF P w).is k v=γ):v.scannable=γ:=by rcases wj h with ⟨i,t,_,rfl⟩|⟨x,t,_,rfl⟩<;>rfl
def T7{b:List fh}(r:er (b.map kV) c)(o:b.length+1<scanBound):SrcK X.prog X.w s.heap a c.toArray b:=by
 have l:b.length=c.length:=by have:=r.length;rw[ag]at this;exact this
 refine⟨by rw[bg];exact l,λi v j f=>?_,by rw[bg];omega⟩;have e:(b.map kV)[i]?=Z (kV b[i]):=by rw[bB,bh j];rfl
 obtain⟨u,d,m⟩:=r.get e;have h:v=u:=by rw[jy]at f;rw[f]at d;exact cI d
 subst h;have:=GY (P:=X.prog) (w:=X.w) m;exact⟨this,T6 this⟩
def adA{ks:List fh}(I:c3 X pins σ H s)(h:ij X.K H a (ks.map kV)):TK X.prog X.w s.heap ks a:=by
 obtain⟨b,r,p,_⟩:=I.tuple h;obtain⟨o,f,e,n,hd⟩:=p;refine⟨o,_,n,f,e,hd,?_⟩;have sx:∀(ks:List fh) (b:List ab),er (ks.map kV) b->PySem.ItemsAre (vF X.prog X.w) ks b:=λks=>by
  induction ks with
  |nil=>intro b r;cases r;exact .nil
  |cons k ks i=>intro b r;cases r with|cons c d=>exact .cons (GY c) (i _ d)
 exact sx ks b r
def SrcO(K:av)(H:Hp)(a:Addr)(n:Nat):Prop:=∃b,(gi K H a (b.map kV)\/ij K H a (b.map kV))/\b.length+1<scanBound/\n=(AX b).length
def SetV(X:Cx)(S:av->Hp->Addr->Nat->Prop):Prop:=∀{pins:cD} {σ:St} {H:Hp} {s:ae} {A:aJ} {E:ab->ae->Prop} {Q:ab->ae->Prop} {a:Addr} {n:Nat},c3 X pins σ H s->A.handled=J->A.units+8<cLine->S X.K H a n->
 (∀c k2,Set2 c s.heap.objs.size n->(∀b o,b<s.heap.objs.size->s.heap.get? b=Z o->c.get? b=Z o)->Q (.ref s.heap.objs.size) { s with heap:=c,toks:=k2 })->ah (model X.prog X.w) A (call (.type "set") [.ref a]) Q E s
def adB:SetV X (SrcO):=by
 intro pins σ H s A E Q a n I m x i h;have l:A.in1.in1.in1.handled=J:=by simp[m]
 have j:∀{f:Heap} {ks:List fh},f.SetOf (vF X.prog X.w) s.heap.objs.size (inK ks) (AX ks).length->Set2 f s.heap.objs.size (AX ks).length:=λS=>by obtain⟨o,es,ep,t,b,hex,hd,_,_,q,hf,hn⟩:=S;exact⟨o,es,ep,t,b,hex,hd,q,hf,hn⟩
 have it:∀{o:Obj} {led:Bool},o.isFreed=δ->((s.heap.push (Aw led)).push o).get? (s.heap.objs.size+1)=Z o:=λ{o led} z=>by rw[show s.heap.objs.size+1=(s.heap.push (Aw led)).objs.size from(dc _ _).symm];exact bx _ z
 obtain⟨ks,i|i,hb,rfl⟩:=i
 .obtain⟨d,r,p,_⟩:=I.list i;obtain⟨o,b,c,n,hd⟩:=p.isList;have hne:a≠s.heap.objs.size+1:=bb (eI (aR b));refine Fj b c l4 kP (by decide) (itO:={ cls:=.type "list_iterator", data:=.fields #[.ref a,.int 0 0] })
   (λA Q E u e k=>fV ⟨o,e,c,n,hd⟩ k) (λtk R hR=>Nw (T7 r hb) (aR b) (i3 l _ a hne d.toArray) ⟨⟨_,it O,O,O⟩,⟨o,aK _ (aK _ b),c,n,hd⟩⟩ (λf k2 S=>hR f k2 (j S)) tk) h
 .obtain⟨d,r,p,_⟩:=I.tuple i;obtain⟨o,b,c,n,hd⟩:=p;have hne:a≠s.heap.objs.size+1:=bb (eI (aR b));refine Fj b c D0 q? (by decide) (itO:={ cls:=.type "tuple_iterator", data:=.fields #[.ref a,.int 0 0] })
   (λA Q E u e k=>o4 ⟨o,e,c,n,hd⟩ k) (λtk R hR=>Nw (T7 r hb) (aR b) (Walks.tuple l _ a hne d.toArray) ⟨⟨_,it O,O,O⟩,⟨o,aK _ (aK _ b),c,n,hd⟩⟩ (λf k2 S=>hR f k2 (j S)) tk) h
def P3(S:av->Hp->Addr->Nat->Prop)(K:av)(c:TE):TE:=λσ H Q=>c σ H λx b=>∃a n,x=.ref a/\S K b a n/\Q (.int n) b
def RG{p2 p3:Pos}(hV:SetV X S)(R:X.A.units+64<cLine)(r:X.n6=γ)(g1:Gl X "len")(E:X.mg "len" = J)(g2:Gl X "set")(F:X.mg "set" = J)(w:PE X e P)
  (f:aA [Expr.Call (.Name "set" p2) [e] [] p3] X.b1=[(δ,eval (.Call (.Name "set" p2) [e] [] p3) X.b1)]:=by rfl) (i:aA [e] X.b1=[(δ,eval e X.b1)]:=by rfl):PE X (.Call (.Name "len" T) [.Call (.Name "set" p2) [e] [] p3] [] U) (P3 S X.K P):=by
 intro pins s σ H Q I h;refine dN (BZ I g1 E qp ?_ (by decide) (by decide));refine callWith_builtin1 ?_ f O;rw[f];show ah _ _ (spliced [(δ,eval (.Call (.Name "set" p2) [e] [] p3) X.b1)]) _ _ s;refine eE ?_;refine dN (BZ I g2 F qZ ?_ (by decide) (by decide));refine callWith_type1 (f5 (xj w zW i p3 pins s σ H (λvs H1=>match vs with
  |[x]=>∃a n,x=.ref a/\S X.K H1 a n/\Q (.int n) H1
  |_=>False) I h) λus N ⟨vs,H1,c,r1,d⟩=>?_) i O
 match vs,r1,d with
 |[x],r1,d=>
 obtain⟨a,n,m,z,q⟩:=d;subst m;obtain⟨u,rfl,M⟩:=mq r1;cases M;refine hV c (c.ok.hd r) (by omega) z λp k2 l C=>?_;refine fW ?_;obtain⟨o,es,ep,t,y,hex,hd,B,hf,hn⟩:=l;have j:c3 X pins σ H1 { N with heap:=p,toks:=k2 }:=c.g? λb o e=>C b o (aR e) e;refine call_len_set y hex hd hf (by unfold scanBound at B;omega) ⟨.int n,H1,j.x? _,⟨_,by rw[hn]⟩,q⟩
def G4:bj->Option (List fh)
 |[]=>Z []
 |d::a=>match BJ d,G4 a with
  |some k,Z b=>Z (k::b)
  |_,_=>J
theorem KU:∀{a:bj} {f:bL} {c:List fh},uS G H a f->G4 a=Z c->f=c.map kV
 |[],f,c,r,e=>by cases e;unfold uS at r;exact r
 |d::a,f,c,r,e=>by
  unfold G4 at e;cases b:BJ d with
  |none=>rw[b]at e;cases e
  |some k=>
   cases h:G4 a with
   |none=>rw[b,h]at e;cases e
   |some l=>rw[b,h]at e;cases e;unfold uS at r;obtain⟨v,m,rfl,i,j⟩:=r;rw[Ca i b,KU j h];rfl
def x8(ds:bj):Option D:=match G4 ds with
 |some a=>if a.length<=1000 then Z (.int (AX a).length)else J
 |none=>J
def Fk(g:bj->Option D):D->Option D
 |.bt a=>match x8 a with
  |some r=>Z r
  |none=>g a
 |.d? a=>x8 a
 |.R a=>x8 a
 |_=>J
def Xg(h:x8 a=Z r):Fk g (.bt a)=Z r:=by show (match x8 a with|some r=>Z r|none=>g a)=Z r;rw[h]
def ON(hK:X.K=G.K)(hO:∀{H a n},SrcO X.K H a n->S X.K H a n)
  (E:∀{c d m b a i},g c=Z d->gi X.K b a i->uS G m c i->vm m b->∃n:Nat,S X.K b a n/\d=.int n)
  (h:PE X e (P3 S X.K (tF G f))):PE X e (tF G (c1 (Fk g) f)):=PE.en h λσ H Q I=>by
 obtain⟨F,N,z,d,u,R,e,k⟩:=I;obtain⟨x,B,l⟩:=E6 e;have key:∀{c:bj} {i:bL} {a:Addr} {m b:Hp},x8 c=Z d->uS G m c i->vm z m->vA G F σ u m b->(gi X.K b a i\/ij X.K b a i)->
   ∃A n,V.ref a=.ref A/\S X.K b A n/\Q (.int n) b:=λ{c i a m b} o rs s j t=>by
  unfold x8 at o;cases y:G4 c with
  |none=>rw[y]at o;cases o
  |some M=>
   rw[y]at o;simp only at o;split at o
   .rename_i P;cases o;rw[KU rs y]at t;exact⟨a,_,O,hO ⟨M,t,by unfold scanBound;omega,O⟩,k _ _ _ s j (xy _)⟩
   .cases o
 refine⟨F,N,z,x,u,R,B,λv m b s j r=>?_⟩;cases x with
 |bt c=>
  unfold cb at r;obtain⟨a,i,rfl,p,q⟩:=r;have t:gi X.K b a i:=gi.of (j.sub _ _ p);replace l:(match x8 c with|some r=>Z r|none=>g c)=Z d:=l;cases w:x8 c with
  |some r=>rw[w]at l;cases l;exact key w q s j (.inl t)
  |none=>rw[w]at l;obtain⟨n,C,rfl⟩:=E l t q j.sub;exact⟨a,n,O,C,k _ _ _ s j (xy _)⟩
 |d? c=>unfold cb at r;obtain⟨a,i,rfl,p,q⟩:=r;rw[<-hK]at p;exact key l q s j (.inr (ij.mono j.sub p))
 |R c=>unfold cb at r;obtain⟨a,i,rfl,p,q⟩:=r;rw[<-hK]at p;exact key l q s j (.inl (j.sub.seq p))
 |_=>cases l
end
def P4(h:(vF P w).is k v=γ):e8 (kV k) v:=by
 rcases wj h with ⟨i,t,rfl,rfl⟩|⟨x,t,rfl,rfl⟩
 .exact⟨t,O⟩
 .exact⟨t,O⟩
def Itd(a:Addr)(o:Obj)(kvs:List (fh×V)):It:=
 ⟨λi H=>i<kvs.length/\H a=Z (.o? o (.dK kvs)),λi H x b=>b=H/\∃k z,kvs[i]?=Z (k,z)/\x=kV k,λi H=>kvs.length<=i/\H a=Z (.o? o (.dK kvs))⟩
section
variable{X:Cx}{pins:cD}{σ:St}{H:Hp}{s:ae}
def G5(I:c3 X pins σ H s)(e:H a=Z (.o? o (.dK kvs)))(hd:o.data=.dict i f):
  (a==dF)=δ/\s.heap.get? a=Z o/\∃b,KV kvs b/\s.heap.DictAt (vF X.prog X.w) a b f:=by
 obtain⟨c,_,y,b,r,p,j,h,d,l,q3,m⟩:=(show wL X.prog X.w H s.heap a (.o? o (.dK kvs)) from I.fx a _ e);rw[c]at d;cases d;rw[hd]at q3;cases q3;exact⟨y,c,b,r,o,i,c,l,hd,m⟩
def aat{kvs:List (fh×V)}{a:List (fh×ab)}(r:KV kvs a){i:Nat}{k:fh}{x:ab}(e:a[i]?=Z (k,x)):∃z,kvs[i]?=Z (k,z):=by
 induction r generalizing i with
 |nil=>cases e
 |@cons p q l c h _ b=>
  cases i with
  |zero=>obtain⟨pk,pv⟩:=p;cases e;exact⟨pv,by rw[show pk=k from h.1];rfl⟩
  |succ i=>exact b e
end
def RH{K:av}(a it:Addr)(o:Obj)(kvs:List (fh×V)):π P w K tg (Itd a o kvs) [it] it (λi h=>∃es ep,o.data=.dict es ep/\h.IsKeyIter it a i kvs.length ep) where
 mem:=by simp
 obj:=λi h st b hb=>by
  have e:b=it:=by simpa using hb
  subst e;obtain⟨es,ep,hd,ob,e,c,d⟩:=st;exact⟨ob,e,λv z=>by rw[d]at z;cases z⟩
 keep:=λi h h' st k=>by obtain⟨es,ep,hd,x⟩:=st;exact⟨es,ep,hd,x.at λo e=>k it (by simp) o e⟩
 item:=by
  intro X hP hw hK C i pins s σ H E I hf st hg;subst hP hw hK;obtain⟨hi,p⟩:=hg;obtain⟨es,ep,hd,m⟩:=st;obtain⟨j,t,N,u,y,B⟩:=hf it (by simp);obtain⟨_,_,vs,r,q⟩:=G5 I p hd;have l:kvs.length=vs.length:=r.length;have hne:a≠it:=λz=>by subst z;rw[p]at j;cases j
  have W:=Walks.dictKeys (knd:=vF X.prog X.w) (A:=X.A) (I.ok.hd C) it a hne vs ep;refine W.item i s _ _ (by omega) ⟨by rw[<-l];exact m,q⟩ λv h' tk R F U=>?_;obtain⟨k,x,S,Q⟩:=R;obtain⟨z,T⟩:=aat r S;have G:c3 X pins σ H { s with heap:=h',toks:=tk }:=I.lb (λb o hb e=>U b o (by simpa using hb) e) j t u y B;obtain⟨f,_⟩:=F;rw[<-l]at f;obtain⟨ob,e,c,d⟩:=id f;exact⟨v,O,Pk (s:={ s with heap:=h',toks:=tk }) e c d (by decide) ⟨kV k,H,G,P4 Q,⟨O,k,z,T,O⟩,⟨es,ep,hd,f⟩,λb hb=>(hf b hb).1⟩⟩
 done:=by intro X hP hw hK C i pins s σ H E I hf st hg;subst hP hw hK;obtain⟨hi,p⟩:=hg;obtain⟨es,ep,hd,m⟩:=st;obtain⟨j,t,N,u,y,B⟩:=hf it (by simp);obtain⟨_,_,vs,r,q⟩:=G5 I p hd;have l:kvs.length=vs.length:=r.length;exact wpAny_pyNext_dict_end (I.ok.hd C) (by rw[<-l];exact m) q (gL (by rw[<-l];exact hi)) λh' M=>⟨O,I.lb (t':=s.toks) (λb o hb e=>M b o hb e) j t u y B⟩
 self:=λ_ _ _ _ _ st h=>by obtain⟨es,ep,hd,m⟩:=st;exact wpAny_pyIter_keyiter m h
section
variable{X:Cx}{G:Bg}{tg:Expr}
def iDic(c:TE):TI:=λd H R=>c d H λx b=>∃a o kvs,x=.ref a/\b a=Z (.o? o (.dK kvs))/\R (Itd a o kvs) b
def Xh(j:PE X l P):PI X tg l (iDic P):=by
 intro c s Q H R I h;refine f5 (j c s Q H _ I h) λv d zz=>?_;obtain⟨x,m,f,N,M⟩:=zz;obtain⟨a,o,kvs,e,F,q⟩:=M;subst e;cases N;obtain⟨z,_,y,A,r,S,u,i,p,B,t,C⟩:=(show wL X.prog X.w m d.heap a (.o? o (.dK kvs)) from f.fx a _ F);rw[z]at p;cases p;have j:kvs.length=A.length:=r.length;refine wpAny_pyIter_dict (knd:=vF X.prog X.w) (kvs:=A) (ep:=i) y ⟨o,u,z,B,t,C⟩ ?_;refine⟨d.heap.objs.size,[d.heap.objs.size],_,_,m,O,f.g? (t':=d.toks) λb o e=>aK _ e,RH a _ o kvs,⟨u,i,t,⟨_,bx _ O,O,by rw[j];rfl⟩⟩,λb E=>?_,q⟩;have e:b=d.heap.objs.size:=by simpa using E
 subst e;exact f.ζ (aN _) (f.fx.fresh (aN _))
def keyV:fh->D
 |.inl i=>.int i
 |.inr x=>.str x
def Xi(k:fh):cb G H (keyV k) (kV k):=by
 cases k with
 |inl i=>exact xy i
 |inr x=>exact zJ x
def iD(f:FE):FA:=λd=>match f d with
 |some (.Q b c,a)=>if b.length=c.length then Z (b.map keyV,a)else J
 |_=>J
def T8(h:PI X tg e (iDic (tF G f))):PI X tg e (XC G (iD f)):=PI.en h λσ H R Q=>by
 obtain⟨F,ρ,B,ds,ρ',R,e,k⟩:=Q;unfold iD at e;split at e
 .rename_i p M ρ1 N;split at e
  .rename_i x;cases e;refine⟨F,ρ,B,_,_,R,N,λv H1 C s w r=>?_⟩;unfold cb at r;obtain⟨a,o,Y,rfl,q,W,r3⟩:=r;have A:(p.zip Y).length=p.length:=by rw[iO,<- W,iV]
   refine⟨a,o,_,O,w.sub _ _ q,k _ _ _ s w λi E I t u=>⟨λd c=>?_,λT=>?_⟩⟩
   .rw[bB]at c;cases m:p[i]? with
    |none=>rw[m]at c;cases c
    |some j=>
     rw[m]at c;cases c;have S:i<p.length:=(cg.1 m).1;refine⟨⟨by rw[A];exact S,u _ _ (t _ _ q)⟩,λz H3 y=>?_⟩;obtain⟨P,U,z',l,rfl⟩:=y;subst P;have:U=j:=by rw[List.getElem?_zip_eq_some]at l;have:=l.1;rw[m]at this;exact(cI this).symm
     subst this;exact⟨E,vm.refl _,u,vm.refl _,λb o e=>.inl e,Xi _⟩
   .refine⟨by rw[A,T,ag];exact aN _,u _ _ (t _ _ q)⟩
  .cases e
 .cases e
end
mutual
def w?(N c:Nat):D->Bool
 |.E=>γ
 |.I _=>γ
 |.int _=>γ
 |.str _=>γ
 |.d? a=>z4 N c a
 |.bt a=>z4 N c a
 |.R a=>z4 N c a
 |.obj k _ a=>decide (k<N)&&decide (k≠c)&&z4 N c a
 |.Q _ a=>z4 N c a
def z4(N c:Nat):bj->Bool
 |[]=>γ
 |d::a=>w? N c d&&z4 N c a
end
def without(H:Hp)(a:Addr):Hp:=λb=>if b=a then J else H b
def Je(h:b≠a):without H a b=H b:=by unfold without;rw[ao h]
def Fl(h:without H a b=Z o):b≠a/\H b=Z o:=by
 unfold without at h;by_cases c:b=a
 .rw[aj c]at h;cases h
 .rw[ao c]at h;exact⟨c,h⟩
def yQ(e:H a=Z u)(c:H b=Z v)(d:u≠v):without H a b=Z v:=by rw[Je (λz=>by subst z;rw[e]at c;exact d (cI c))];exact c
section
variable{G:Bg}{H:Hp}{a dx:Addr}{fs:List (Str×V)}{N c:Nat}
def Nx(b:H a=Z (.nr (G.ca c) dx fs))(h:ij G.K H p d):ij G.K (without H a) p d:=by
 rcases h with (h|⟨o,h⟩)|h
 .exact .inl (.inl (yQ b h (λz=>nomatch z)))
 .exact .inl (.inr ⟨o,yQ b h (λz=>nomatch z)⟩)
 .exact .inr h
def Ny(b:H a=Z (.nr (G.ca c) dx fs))(h:gi G.K H p d):gi G.K (without H a) p d:=by
 rcases h with (h|⟨o,h⟩)|h
 .exact .inl (.inl (yQ b h (λz=>nomatch z)))
 .exact .inl (.inr ⟨o,yQ b h (λz=>nomatch z)⟩)
 .exact .inr h
mutual
theorem G6(inj:∀j k,j<N->k<N->G.ca j=G.ca k->j=k)(q:c<N)(f:H a=Z (.nr (G.ca c) dx fs)):∀(d:D) (v:V),w? N c d=γ->cb G H d v->cb G (without H a) d v
 |.E,v,_,h=>by unfold cb at h ⊢;exact h
 |.I _,v,_,h=>by unfold cb at h ⊢;exact h
 |.int _,v,_,h=>by unfold cb at h ⊢;exact h
 |.str _,v,_,h=>by unfold cb at h ⊢;exact h
 |.d? i,v,n,h=>by unfold w? at n;unfold cb at h ⊢;obtain⟨p,b,e,l,m⟩:=h;exact⟨p,b,e,Nx f l,yj inj q f i b n m⟩
 |.bt i,v,n,h=>by unfold w? at n;unfold cb at h ⊢;obtain⟨p,b,e,l,m⟩:=h;exact⟨p,b,e,yQ f l (λz=>nomatch z),yj inj q f i b n m⟩
 |.R i,v,n,h=>by unfold w? at n;unfold cb at h ⊢;obtain⟨p,b,e,l,m⟩:=h;exact⟨p,b,e,Ny f l,yj inj q f i b n m⟩
 |.obj k x i,v,n,h=>by unfold w? at n;simp only[aY,bT]at n;unfold cb at h ⊢;obtain⟨p,r,b,e,l,m,t⟩:=h;refine⟨p,r,b,e,yQ f l (λz=>?_),m,yj inj q f i b n.2 t⟩;injection z with u;exact n.1.2 (inj k c n.1.1 q u.symm)
 |.Q w i,v,n,h=>by unfold w? at n;unfold cb at h ⊢;obtain⟨p,o,b,e,l,m,t⟩:=h;exact⟨p,o,b,e,yQ f l (λz=>nomatch z),m,yj inj q f i b n t⟩
theorem yj(inj:∀j k,j<N->k<N->G.ca j=G.ca k->j=k)(l:c<N)(i:H a=Z (.nr (G.ca c) dx fs)):∀(b:bj) (f:bL),z4 N c b=γ->uS G H b f->uS G (without H a) b f
 |[],f,_,h=>by unfold uS at h ⊢;exact h
 |d::b,f,n,h=>by unfold z4 at n;simp only[aY]at n;unfold uS at h ⊢;obtain⟨v,r,e,m,o⟩:=h;exact⟨v,r,e,G6 inj l i d v n.1 m,yj inj l i b r n.2 o⟩
end
end
def Bk:Sl->Sl
 |.z d=>.z d
 |_=>.un
def Ef(N:Nat)(f:FE):FE:=λa=>match a with
 |.ob c e b::r=>match f (.z (.obj c e b)::r.map Bk)with
  |some (d,_)=>if (decide (c<N)&&w? N c d)=γ then Z (d,a)else J
  |none=>J
 |_=>J
section
variable{X:Cx}{G:Bg}
def OO:(Bk s).jj=δ:=by cases s<;>rfl
def Xj(inj:∀j k,j<N->k<N->G.ca j=G.ca k->j=k)(h:PE X e (tF G f)):PE X e (tF G (Ef N f)):=PE.en h λσ H Q T=>by
 obtain⟨F,ρ,H0,d,ρ',R,e,k⟩:=T;unfold Ef at e;split at e
 .rename_i c ns ds r;rcases vH (f:=f) (ρ:=.z (.obj c ns ds)::r.map Bk)with w|⟨x,A,w⟩<;>simp only[w]at e
  .cases e
  split at e
  .rename_i hn;cases e;simp only[aY,bT]at hn;obtain⟨a,dx,xs,I,M,y,W,P,S⟩:=R.sl 0 _ O;have RL:vA G ⟨fl H0 a (.nr (G.ca c) dx (ns.zip xs)),H,[]⟩ σ (.z (.obj c ns ds)::r.map Bk) (fl H0 a (.nr (G.ca c) dx (ns.zip xs))) H:={
    sub:=λb o q=>by
     by_cases hb:b=a
     .subst hb;rw[ve]at q;cases q;exact M
     .rw[vt hb]at q;exact R.sub _ _ q
    g0:=vm.refl _
    keep:=λb o q _=>q
    fr:=λb o q=>.inl q
    am:=λb q=>by cases q
    len:=by have:=R.len;simpa using this
    sl:=λi s q=>by
     cases i with
     |zero=>cases q;exact⟨.ref a,I,by unfold cb;exact⟨a,dx,xs,O,ve,P,uS.mono (vy y _) _ _ S⟩⟩
     |succ i=>
      have l:(r.map Bk)[i]?=Z s:=q;rw[bB]at l;cases m:r[i]? with
      |none=>rw[m]at l;cases l
      |some t=>
       rw[m]at l;cases l;have ok:=R.sl (i+1) t m;cases t with
       |z d=>obtain⟨v,g1,g2⟩:=ok;exact⟨v,g1,cb.mono (vy y _) _ _ g2⟩
       |_=>trivial
    ap:=λi j s t b _ B _ so=>by
     cases i with
     |zero=>cases B;cases so
     |succ i=>
      have l:(r.map Bk)[i]?=Z s:=B;rw[bB]at l;cases m:r[i]? with
      |none=>rw[m]at l;cases l
      |some t=>rw[m]at l;cases l;rw[OO]at so;cases so }
   refine⟨_,_,_,d,A,RL,w,λv H1 p s u U=>?_⟩;have ha:H1 a=Z (.nr (G.ca c) dx (ns.zip xs)):=s _ _ ve;have C:vm H0 (without H1 a):=λb o q=>by
    have hb:b≠a:=λz=>by subst z;rw[y]at q;cases q
    rw[Je hb];exact s b o (by rw[vt hb];exact q)
   refine k v (without H1 a) p C ?_ (G6 inj hn.1 ha d v hn.2 U);refine R.i1 (λb o q=>u.keep b o q (by simp)) C (λb o q=>u.sub _ _ (Fl q).2) λb o q=>?_;obtain⟨hb,q⟩:=Fl q;rcases u.fr b o q with z|z
   .have E:fl H0 a (.nr (G.ca c) dx (ns.zip xs)) b=Z o:=z;rw[vt hb]at E;exact .inl E
   .exact .inr z
  .cases e
 .cases e
end
section
variable{X:Cx}{pins:cD}{σ:St}{H:Hp}{s:ae}{a:Addr}{A:aJ}{E:ab->ae->Prop}
theorem aav(I:c3 X pins σ H s)(e:H a=Z (.dK kvs))(M:e8 (kV k) u)(N:e8 z r)(P:kvs.length<aG)
  (l:∀v w f,y9 kvs k=Z v->c3 X pins σ H f->e8 v w->Q w f) (m:∀f,y9 kvs k=J->c3 X pins σ (fl H a (.dK (n3 kvs k z))) f->Q r f):
  ah (model X.prog X.w) A (call (.builtin "dict.setdefault") [.ref a,u,r]) Q E s:=by
 obtain⟨y,hd,i,rel,h⟩:=Yg I.fx e;have G:i.length<=aG:=by rw[<-rel.length];exact y
 have t:(n3 kvs k z).length<=aG:=by have:=De kvs k z;omega
 have b:=rel.val k;refine hG om h.typeIs F.entry_dict_setdefault (F.args_dict_setdefault_3 _ _ _) (kt_meets_setdefault (vF X.prog X.w) a (GY M) hd r) ⟨i,h,G,λw C=>?_,λp j d B=>?_⟩
 .rw[C]at b;cases c:y9 kvs k with
  |none=>rw[c]at b;exact b.elim
  |some v=>rw[c]at b;exact l v w _ c (I.x? _) b
 .rw[p]at b;cases c:y9 kvs k with
  |some v=>rw[c]at b;exact b.elim
  |none=>have o:∃q,j.get? a=Z q:=let ⟨q,_,_,x,_⟩:=d;⟨q,x⟩;exact m _ c (LR I (by rw[e];exact True.intro) B o (SL t hd (rel.put k N) d))
def T9(e ty f:TE):TE:=λσ H Q=>e σ H λx c=>∃a,x=.ref a/\IsD c a/\ty σ c λy d=>f σ d λz b=>∃kvs k,b a=Z (.dK kvs)/\y=kV k/\kvs.length<aG/\
 (∀v,y9 kvs k=Z v->Q v b)/\(y9 kvs k=J->Q z (fl b a (.dK (n3 kvs k z))))
theorem Ua(U:PE X o td)(R:PE X e ty)(S:PE X f tx)(m:M2 X o "setdefault" apos e f cpos):PE X (.Call (.Attribute o "setdefault" apos) [e,f] [] cpos) (T9 td ty tx):=by
 intro pins s σ H Q I h;refine jF m.b? m.few m.line jG om F.type_dict_setdefault (f5 (U pins s σ H _ I h) λu s1 zz=>?_);obtain⟨x,p,j,rx,a,G,d,W⟩:=zz;subst G;obtain rfl:u=Value.ref a:=rx;obtain⟨t1,t2,_⟩:=LU j d;refine⟨t1,t2,?_⟩;rw[m.O?];refine iw O (iB (eE (f5 (R pins s1 σ p _ j W) λiv s2 ⟨y,q,t,ry,Y⟩=>
  eE (f5 (S pins s2 σ q _ t Y) λfv s3 ⟨z,r,B,l,kvs,k,C,M,T,N,P⟩=>fW ?_))))
 subst M;exact aav B C ry l T (λv w s' c b i=>⟨v,r,b,i,N v c⟩) λs' c b=>⟨z,_,b,l,P c⟩
end
def Cb(a:List fh)(dss:List bj)(k:fh)(d:D):List fh×List bj:=
 if HZ a k=γ then (a,gn (λc b=>if c=k then b++[d]else b) a dss)else (a++[k],dss++[[d]])
def Fm:HZ c k=γ ↔ k∈c:=by unfold HZ;rw[fE];exact⟨λ⟨x,a,b⟩=>bF b▸a,λh=>⟨k,h,aU O⟩⟩
def Ub{b:List fh}{a:bL}:b.length=a.length->y9 (b.zip a) k=Z v->∃j:Nat,b[j]?=Z k/\a[j]?=Z v:=by
 induction b generalizing a with
 |nil=>intro _ h;cases h
 |cons l b i=>
  intro c h;cases a with
  |nil=>cases c
  |cons m a=>
   unfold y9 at h;rw[fo,dB]at h;by_cases e:l=k
   .subst e;simp only[decide_true]at h;cases h;exact⟨0,O,O⟩
   .simp only[e,decide_false]at h;obtain⟨j,d,f⟩:=i (by simpa using c) h;exact⟨j+1,d,f⟩
def Uc{a:List fh}{b:bL}:a.length=b.length->y9 (a.zip b) k=J->k∉a:=by
 induction a generalizing b with
 |nil=>intro _ _ h;cases h
 |cons i a f=>
  intro c h d;cases b with
  |nil=>cases c
  |cons j b=>
   unfold y9 at h;rw[fo,dB]at h;by_cases e:i=k
   .subst e;simp only[decide_true]at h;cases h
   .simp only[e,decide_false]at h;rcases aO.1 d with z|z
    .exact e z.symm
    .exact f (by simpa using c) h z
structure Rl(G:Bg)(F:Fr)(H0 H:Hp)(a:Addr)(ks:List fh)(dss:List bj)(bs:List Addr):Prop where
 i?:H a=Z (.dK (ks.zip (bs.map V.ref)))
 n0:H0 a=J
 nB:F.B a=J
 len:ks.length=bs.length
 Bx:bs.length=dss.length
 nd:bs.Nodup
 kd:ks.Nodup
 each:∀(i:Nat) (b:Addr) (ds:bj),bs[i]?=Z b->dss[i]?=Z ds->∃xs,H b=Z (.bt xs)/\H0 b=J/\F.B b=J/\uS G H0 ds xs
section
variable{G:Bg}{F:Fr}{σ:St}{ρ:aS}{H0 H H0' H':Hp}{a:Addr}{ks:List fh}{dss:List bj}{bs:List Addr}
def Rl.i1(g:Rl G F H0 H a ks dss bs)(c:vm H H')(h:vm H0 H0')(hf:∀b o,H0' b=Z o->H0 b=Z o\/H b=J):Rl G F H0' H' a ks dss bs where
 i?:=c _ _ g.i?
 n0:=by
  cases q:H0' a with
  |none=>rfl
  |some o=>
   rcases hf a o q with z|z
   .rw[g.n0]at z;cases z
   .rw[g.i?]at z;cases z
 nB:=g.nB
 len:=g.len
 Bx:=g.Bx
 nd:=g.nd
 kd:=g.kd
 each:=λi b ds e f=>by
  obtain⟨xs,d,j,q3,l⟩:=g.each i b ds e f;refine⟨xs,c _ _ d,?_,q3,uS.mono h _ _ l⟩;cases q:H0' b with
  |none=>rfl
  |some o=>
   rcases hf b o q with z|z
   .rw[j]at z;cases z
   .rw[d]at z;cases z
def vA.still(R:vA G F σ ρ H0 H)(no:∀s∈ρ,s.jj=δ):vA G ⟨H0,H,[]⟩ σ ρ H0 H where
 sub:=R.sub
 g0:=vm.refl _
 keep:=λb o e _=>e
 fr:=λb o e=>.inl e
 am:=λa h=>by cases h
 len:=R.len
 sl:=λi s e=>by
  have ok:=R.sl i s e;have n:=no s (cj e);cases s with
  |un=>trivial
  |z d=>exact ok
  |_=>cases n
 ap:=λi j s t b _ e _ so=>by rw[no s (cj e)]at so;cases so
theorem vA.touch(R:vA G F σ ρ H0 H)(no:∀s∈ρ,s.jj=δ)(c:∀b o,H b=Z o->(H0 b≠J\/F.B b≠J)->H' b=Z o)(ha:∀b o,H b=Z o->∃f,H' b=Z f):vA G F σ ρ H0 H' where
 sub:=λb o e=>c b o (R.sub _ _ e) (.inl (by rw[e];exact λz=>nomatch z))
 g0:=R.g0
 keep:=λb o e n=>c b o (R.keep b o e n) (.inr (by rw[e];exact λz=>nomatch z))
 fr:=R.fr
 am:=λb hb=>by obtain⟨o,e⟩:=R.am b hb;exact ha b o e
 len:=R.len
 sl:=λi s e=>by
  have ok:=R.sl i s e;have n:=no s (cj e);cases s with
  |un=>trivial
  |z d=>exact ok
  |_=>cases n
 ap:=λi j s t b _ e _ so=>by rw[no s (cj e)]at so;cases so
def aaw{bs:List Addr}(h:bs.Nodup){i j:Nat}{b:Addr}(c:bs[i]?=Z b)(d:bs[j]?=Z b):i=j:=by obtain⟨l,e⟩:=cg.1 c;obtain⟨m,f⟩:=cg.1 d;exact(lq h).1 (e.t f.symm)
def aax{ks:List fh}(h:ks.Nodup){i j:Nat}{b:fh}(c:ks[i]?=Z b)(d:ks[j]?=Z b):i=j:=by obtain⟨l,e⟩:=cg.1 c;obtain⟨m,f⟩:=cg.1 d;exact(lq h).1 (e.t f.symm)
def Rl.more(g:Rl G F H0 H a ks dss bs){j:Nat}{k:fh}{b:Addr}{d:D}{v:V}{y:bL}(h:ks[j]?=Z k)(p:bs[j]?=Z b)(l:H b=Z (.bt y))(I:cb G H0 d v):
  Rl G F H0 (fl H b (.bt (y++[v]))) a (Cb ks dss k d).1 (Cb ks dss k d).2 bs:=by
 have A:HZ ks k=γ:=Fm.2 (cj h);unfold Cb;rw[aj A];have E:a≠b:=λz=>by subst z;rw[g.i?]at l;cases l
 refine⟨by rw[vt E];exact g.i?,g.n0,g.nB,g.len,?_,g.nd,g.kd,λi c N o e=>?_⟩
 .rw[kQ,<- g.Bx,<- g.len,iV,g.len]
 .rw[List.getElem?_zipWith]at e;cases f:ks[i]? with
  |none=>rw[f]at e;cases e
  |some B=>
   cases t:dss[i]? with
   |none=>rw[f,t]at e;cases e
   |some m=>
    rw[f,t]at e;cases e;obtain⟨M,u,w,w3,x⟩:=g.each i c m o t;by_cases q:B=k
    .subst q;have r:=aax g.kd f h;subst r;rw[o]at p;cases p;rw[u]at l;cases l;rw[aj O];exact⟨_,ve,w,w3,xk x (vU I vN)⟩
    .rw[ao q];have C:c≠b:=λz=>by subst z;have r:=aaw g.nd o p;subst r;rw[f]at h;cases h;exact q O
     exact⟨M,by rw[vt C];exact u,w,w3,x⟩
theorem Rl.fresh(g:Rl G F H0 H a ks dss bs)(t:k∉ks)(q:H p=J)(C:H0 p=J)(hB:F.B p=J)(N:cb G H0 d v):
  Rl G F H0 (fl (fl (fl H p (.bt [])) a (.dK ((ks++[k]).zip ((bs++[p]).map V.ref)))) p (.bt [v])) a (Cb ks dss k d).1 (Cb ks dss k d).2 (bs++[p]):=by
 have E:¬HZ ks k=γ:=λz=>t (Fm.1 z);unfold Cb;rw[ao E];have M:a≠p:=λz=>by subst z;rw[g.i?]at q;cases q
 have w:p∉bs:=λz=>by
  obtain⟨i,l,e⟩:=kR z;have b:bs[i]?=Z p:=by rw[bh l,e]
  obtain⟨j,f⟩:∃j,dss[i]?=Z j:=⟨dss[i]'(by rw[<-g.Bx];exact l),bh _⟩;obtain⟨A,h,_⟩:=g.each i p j b f;rw[q]at h;cases h
 refine⟨by rw[vt M,ve],g.n0,g.nB,by simp[g.len],by simp[g.Bx],?_,?_,λi c j b f=>?_⟩
 .rw[cn];refine⟨g.nd,by simp,λx r y m=>?_⟩;rw[bp]at m;subst m;exact λz=>w (z▸r)
 .rw[cn];refine⟨g.kd,by simp,λx r y m=>?_⟩;rw[bp]at m;subst m;exact λz=>t (z▸r)
 .by_cases l:i<bs.length
  .rw[fS l]at b;rw[fS (by rw[<-g.Bx];exact l)]at f;obtain⟨A,h,P,w3,Q⟩:=g.each i c j b f;have u:c≠p:=λz=>w (z▸cj b);have I:c≠a:=λz=>by subst z;rw[g.i?]at h;cases h
   exact⟨A,by rw[vt u,vt I,vt u];exact h,P,w3,Q⟩
  .have o:i=bs.length:=by have:i<(bs++[p]).length:=(cg.1 b).1;rw[aC,cF]at this;omega
   subst o;rw[fR (aN _),qI]at b;rw[g.Bx,fR (aN _),qI]at f;cases b;cases f;exact⟨[v],ve,C,hB,vU N vN⟩
def NA(G:Bg)(b:FE):TS:=X6 (tBM G.K "list" LQ (T9 (BY 1) (tF G b) (tLst J5)) (Ea (BY 2) J5))
theorem Ud{T:ν}{m:V}(R:vA G F σ ρ H0 H)(no:∀s∈ρ,s.jj=δ)(h1:σ[1]?=Z (Z (.ref a)))(X:σ[2]?=Z (Z m))(rd:cb G H0 d m)
  (g:Rl G F H0 H a ks dss bs) (hk:fk ρ=Z (x,ρ)) (ek:BJ x=Z k) (l1:ks.length<1000) (l2:∀l∈dss,l.length<1000)
  (kont:∀E I N,vm H0 E->vA G F σ ρ E I->Rl G F E I a (Cb ks dss k d).1 (Cb ks dss k d).2 N->T.nx σ I):NA G fk T σ H:=by
 refine⟨.ref a,h1,a,O,.inl ⟨_,.inl g.i?⟩,_,_,_,x,ρ,vA.still R no,hk,λv h f s M r=>?_⟩;have hs:vm H f:=λb o e=>M.keep b o e (by simp);have Y:∀b o,h b=Z o->H0 b=Z o\/H b=J:=M.fr;have R2:vA G F σ ρ h f:=R.i1 hs s M.sub Y;have u:Rl G F h f a ks dss bs:=g.i1 hs s Y;have A:=cb.mono s _ _ rd;refine⟨cp _,λp i=>?_⟩;have np:a≠p:=λz=>by subst z;rw[u.i?]at i;cases i
 have U:vA G F σ ρ h (fl f p (.bt [])):=R2.l' i _;have P:Rl G F h (fl f p (.bt [])) a ks dss bs:=u.i1 (vy i _) (vm.refl _) λb o e=>.inl e;have lz:(ks.zip (bs.map V.ref)).length<aG:=by rw[iO,ag,<- g.len,iV,bQ];omega
 refine⟨_,k,P.i?,Ca r ek,lz,λw C=>?_,λC=>?_⟩
 .obtain⟨j,e1,q⟩:=Ub (by rw[ag];exact g.len) C;rw[bB]at q;cases t:bs[j]? with
  |none=>rw[t]at q;cases q
  |some b=>
   rw[t]at q;cases q;obtain⟨l,W⟩:∃l,dss[j]?=Z l:=⟨dss[j]'(by rw[<-g.Bx];exact(cg.1 t).1),bh _⟩;obtain⟨S,Q,w2,w3,w4⟩:=P.each j b l t W;have lx:S.length<aG:=by rw[<-uX w4,bQ];have:=l2 l (cj W);omega
   refine⟨.inl ⟨O,S,gi.of Q⟩,m,X,b,S,m,O,O,Q,lx,?_⟩;refine kont h _ bs s (vA.touch U no (λc o e z=>?_) λc o e=>?_) (P.more e1 t Q A)
   .have nc:c≠b:=λy=>by
     subst y;rcases z with z|z
     .exact z w2
     .exact z w3
    rw[vt nc];exact e
   .by_cases y:c=b
    .subst y;exact⟨_,ve⟩
    .rw[vt y];exact⟨o,e⟩
 .have nk:=Uc (by rw[ag];exact g.len) C;have h0p:h p=J:=R2.f3 i;have hBp:F.B p=J:=R2.i0 i;have ez:n3 (ks.zip (bs.map V.ref)) k (.ref p)=(ks++[k]).zip ((bs++[p]).map V.ref):=by rw[SJ _ C,bz,lQ (by rw[ag];exact g.len)];rfl
  rw[ez];have q0:fl (fl f p (.bt [])) a (.dK ((ks++[k]).zip ((bs++[p]).map V.ref))) p=Z (.bt []):=by rw[vt (λz=>np z.symm),ve]
  refine⟨.inl ⟨O,[],gi.of q0⟩,m,X,p,[],m,O,O,q0,by rw[bQ];decide,?_⟩;refine kont h _ (bs++[p]) s (vA.touch U no (λc o e z=>?_) λc o e=>?_) (u.fresh nk i h0p hBp A)
  .have n1:c≠p:=λy=>by
    subst y;rcases z with z|z
    .exact z h0p
    .exact z hBp
   have n2:c≠a:=λy=>by
    subst y;rcases z with z|z
    .exact z u.n0
    .exact z u.nB
   rw[cw,vt n1,vt n2];exact e
  .by_cases y:c=p
   .subst y;exact⟨_,ve⟩
   .rw[vt y];by_cases y2:c=a
    .subst y2;exact⟨_,ve⟩
    .rw[vt y2];exact⟨o,e⟩
end
def Dm(b:D->Option D):bj->List fh->List bj->Option (List fh×List bj)
 |[],a,dss=>Z (a,dss)
 |d::r,a,dss=>match b d with
  |some x=>match BJ x with
   |some k=>if (decide (a.length<1000)&&dss.all λc=>decide (c.length<1000))=γ then Dm b r (Cb a dss k d).1 (Cb a dss k d).2 else J
   |none=>J
  |none=>J
def OP(b:D->Option D):FS:=λc=>match c with
 |[.z (.bt L),.un,.un]=>match Dm b L [] []with
  |some (a,dss)=>Z (.rt (.Q a (dss.map .bt)) [.z (.bt L),.un,.un])
  |none=>J
 |_=>J
section
variable{X:Cx}{G:Bg}
theorem G7:∀(bs:List Addr) (dss:List bj),bs.length=dss.length->(∀(i:Nat) (b:Addr) (a:bj),bs[i]?=Z b->dss[i]?=Z a->∃c,d b=Z (.bt c)/\uS G d a c)->
  uS G d (dss.map .bt) (bs.map V.ref)
 |[],[],_,_=>vN
 |[],_::_,h,_=>by cases h
 |_::_,[],h,_=>by cases h
 |b::bs,a::dss,h,k=>by obtain⟨c,j,l⟩:=k 0 b a O O;exact vU (B5 j l) (G7 bs dss (by simpa using h) λi b a e f=>k (i+1) b a e f)
theorem Xk(R:vA G F σ [.z (.bt L),.un,s2] H0 H)(g:Rl G F H0 H a ks dss bs)(o:Obj):
  ∃q,vm H0 q/\vA G F σ [.z (.bt L),.un,.un] q (fl H a (.o? o (.dK (ks.zip (bs.map V.ref)))))/\cb G q (.Q ks (dss.map .bt)) (.ref a):=by
 have r:∀{b:Addr},b∈bs->∃xs,H b=Z (.bt xs)/\H0 b=J/\F.B b=J:=λ{b} hb=>by obtain⟨i,hi,e⟩:=kR hb;obtain⟨xs,h,m,w3,_⟩:=g.each i b (dss[i]'(by rw[<-g.Bx];exact hi)) (by rw[bh hi,e]) (bh _);exact⟨xs,h,m,w3⟩
 have na:a∉bs:=λz=>by obtain⟨xs,h,_⟩:=r z;rw[g.i?]at h;cases h
 have p:vm H0 (λc=>if c=a then Z (.o? o (.dK (ks.zip (bs.map V.ref))))else if c∈bs then H c else H0 c):=λc u e=>by
  have f:c≠a:=λz=>by subst z;rw[g.n0]at e;cases e
  have l:c∉bs:=λz=>by obtain⟨_,_,m,_⟩:=r z;rw[m]at e;cases e
  show (if c=a then _ else if c∈bs then H c else H0 c)=_;rw[ao f,ao l];exact e
 refine⟨_,p,?_,?_⟩
 .exact {
   sub:=λc u e=>by
    have d:(if c=a then Z (HO.o? o (.dK (ks.zip (bs.map V.ref))))else if c∈bs then H c else H0 c)=Z u:=e;by_cases f:c=a
    .subst f;rw[aj O]at d;rw[ve];exact d
    .rw[ao f]at d;rw[vt f];by_cases l:c∈bs
     .rw[aj l]at d;exact d
     .rw[ao l]at d;exact R.sub _ _ d
   g0:=R.g0.t p
   keep:=λc u e n=>by rw[vt (λz=>by subst z;rw[g.nB]at e;cases e)];exact R.keep c u e n
   fr:=λc u e=>by
    have d:(if c=a then Z (HO.o? o (.dK (ks.zip (bs.map V.ref))))else if c∈bs then H c else H0 c)=Z u:=e;by_cases f:c=a
    .subst f;exact .inr g.nB
    .rw[ao f]at d;by_cases l:c∈bs
     .obtain⟨_,_,_,w3⟩:=r l;exact .inr w3
     .rw[ao l]at d;exact R.fr _ _ d
   am:=λc y=>by
    by_cases f:c=a
    .subst f;exact⟨_,ve⟩
    .rw[vt f];exact R.am c y
   len:=R.len
   sl:=λi s e=>by
    match i,e with
    |0,e=>cases e;obtain⟨v,h,m⟩:=R.sl 0 _ O;exact⟨v,h,cb.mono p _ _ m⟩
    |1,e=>cases e;trivial
    |2,e=>cases e;trivial
    |i+3,e=>cases e
   ap:=λi j s t b _ e _ so=>by
    match i,e with
    |0,e=>cases e;cases so
    |1,e=>cases e;cases so
    |2,e=>cases e;cases so
    |i+3,e=>cases e }
 .unfold cb;refine⟨a,o,bs.map V.ref,O,by show (if a=a then _ else _)=_;rw[aj O],by rw[ag];exact g.len,G7 bs dss g.Bx λi b ds w x=>?_⟩;obtain⟨xs,h,m,w3,C⟩:=g.each i b ds w x;have hb:=cj w;refine⟨xs,?_,uS.mono p _ _ C⟩;show (if b=a then _ else if b∈bs then H b else H0 b)=_;have A:b≠a:=λz=>na (by rw[<-z];exact hb);rw[ao A,aj hb];exact h
def Ue{L:bj}{b:Sl}(h:b.jj=δ):∀s∈[Sl.z (.bt L),.un,b],s.jj=δ:=λs a=>by
 simp only[aO,cA,or_false]at a;rcases a with rfl|rfl|rfl
 .rfl
 .rfl
 .exact h
inductive GI(G:Bg) (F:Fr) (Ha:Hp) (p:Addr) (L:bj) (vk:D->Option D) (KS:List fh) (DSS:List bj) (i:Nat) (σ':St) (H':Hp):Prop
 |mk (Hi:Hp) (ks:List fh) (dss:List bj) (bs:List Addr) (s2:Sl):vm Ha Hi->Sl.jj s2=δ->vA G F σ' [.z (.bt L),.un,s2] Hi H'->σ'[1]?=Z (Z (.ref p))->Rl G F Hi H' p ks dss bs->Dm vk (L.drop i) ks dss=Z (KS,DSS)->GI G F Ha p L vk KS DSS i σ' H'
def RI(h1:PS X st1 (Ex Ow (AY 1)))(h2:PS X st2 (Y4 (XC G (iL (cV 0))) (AY 2) (NA G (c1 f (cV 2)))))
  (h3:PS X st3 (tRet (λw H Q=>BY 1 w H λx I=>Q x I\/∃a kvs,I a=Z (.dK kvs)/\∀o,Q x (fl I a (.o? o (.dK kvs)))))):qi X [st1,st2,st3] (mu G (OP f)):=
 qi.en (IA h1 (IA h2 (LG h3))) λE w H hh=>by
  obtain⟨F,ρ,H0,o,R,e,k,k2⟩:=hh;unfold OP at e;split at e
  .rename_i L;cases P:Dm f L [] []with
   |none=>simp only[P]at e;cases e
   |some p=>
    obtain⟨KS,DSS⟩:=p;simp only[P]at e;cases e;intro p hp;have R1:vA G F (w.set 1 (Z (.ref p))) [.z (.bt L),.un,.un] H0 (fl H p (.dK [])):=(R.l' hp (.dK [])).set (i:=1) (v:=.ref p) (s:=.un) trivial (λz=>by cases z);have t:w.length=3:=R.len;have g1:Rl G F H0 (fl H p (.dK [])) p [] [] []:=⟨ve,R.f3 hp,R.i0 hp,O,O,l5,l5,λi b ds e1=>by cases e1⟩;have v1:(w.set 1 (Z (V.ref p)))[1]?=Z (Z (.ref p)):=by rw[jw (by rw[t];decide)]
    refine⟨_,_,_,L,_,vA.still R1 (Ue O),O,λAt M Hb s B wk=>?_⟩;have hs:vm (fl H p (.dK [])) Hb:=λb o e=>B.keep b o e (by simp);have R2:=R1.i1 hs s B.sub B.fr;have g2:=g1.i1 hs s B.fr;refine⟨λi m A h=>m=L.length - i/\i<=L.length/\GI G F M p L f KS DSS i A h,
     ⟨_,O,cp _,M,[],[],[],.un,vm.refl _,O,R2,v1,g2,P⟩,?_⟩
    rintro i m d j ⟨rfl,hi,Hi,ks,dss,bs,s2,C,n2,l,vi,U,c⟩;by_cases hlt:i<L.length
    .have ed:L.drop i=L[i]::L.drop (i+1):=jo hlt;rw[ed]at c;unfold Dm at c;cases T:f L[i]with
     |none=>simp only[T]at c;cases c
     |some x=>
      simp only[T]at c;cases S:BJ x with
      |none=>simp only[S]at c;cases c
      |some kk=>
       simp only[S]at c;split at c
       .rename_i W;simp only[aY,bT,aQ]at W;obtain⟨go,yl⟩:=(wk i Hi j C l.sub).1 L[i] (bh hlt);refine .inr ⟨go,GI G F M p L f KS DSS (i+1),
         λA h q=>⟨L.length - (i+1),by omega,O,hlt,q⟩,λu h y=>?_⟩
        obtain⟨H2,t1,t2,t3,t4,t5⟩:=yl u h y;have Y:d.length=3:=l.len;have R3:vA G F (d.set 2 (Z u)) [.z (.bt L),.un,.z L[i]] H2 h:=(l.i1 t3 t1 t2 t4).setIm 2 t5;have w1:(d.set 2 (Z u))[1]?=Z (Z (.ref p)):=by rw[kM (by decide)];exact vi
        have w2:(d.set 2 (Z u))[2]?=Z (Z u):=by rw[jw (by rw[Y];decide)]
        refine Ud R3 (Ue O) w1 w2 t5 (U.i1 t3 t1 t4) (by show c1 f (cV 2) _=_;unfold c1 cV;simp only[List.getElem?_cons_succ,List.getElem?_cons_zero,T]) S W.1 (λds hd=>W.2 ds hd) λHc Hd N sc Rc gc=>?_;exact⟨Hc,_,_,N,_,C.t (t1.t sc),O,Rc,w1,gc,c⟩
       .cases c
    .have r:i=L.length:=by omega
     refine .inl ⟨(wk i Hi j C l.sub).2 r,?_⟩;subst r;rw[List.drop_length]at c;cases c;refine⟨.ref p,vi,.inr ⟨p,_,U.i?,λo=>?_⟩⟩;obtain⟨Hq,q1,q2,q3⟩:=Xk l U o;exact k _ _ Hq _ (s.t (C.t q1)) q2 q3
  .cases e
end
section
variable{X:Cx}{G:Bg}
def Xl:∀y b,wx "int" y=Z b->di X.K (y.val G) (.type "int")=Z b:=λy b h=>by
 cases y with
 |c k=>cases h
 |b n=>
  unfold wx at h;simp only at h
  iterate 7 (split at h;· rename_i e;subst e;cases h;first|rfl|kernel_rfl)
  cases h
def Ug:∀y b,wx "bool" y=Z b->di X.K (y.val G) (.type "bool")=Z b:=λy b h=>by
 cases y with
 |c k=>cases h
 |b n=>
  unfold wx at h;simp only at h
  iterate 7 (split at h;· rename_i e;subst e;cases h;first|rfl|kernel_rfl)
  cases h
def ω:∀y b,wx "tuple" y=Z b->di X.K (y.val G) (.type "tuple")=Z b:=λy b h=>by
 cases y with
 |c k=>cases h
 |b n=>
  unfold wx at h;simp only at h
  iterate 7 (split at h;· rename_i e;subst e;cases h;first|rfl|kernel_rfl)
  cases h
end
end L4
namespace L4
open PySem PySem.Spec PySem.Calls PyProof.Rows PySem.W L2 L3
def RJ{b:Type}(c:Nat->Nat->Bool):KasT b->b
 |.ret a=>a
 |.ask i j k=>RJ c (k (c i j))
def zA{c:Type}(P:Nat->Nat->Prop)(R:c->Prop):KasT c->Prop
 |.ret a=>R a
 |.ask i j k=>P i j/\∀b,zA P R (k b)
theorem zA.run{b:Type}{P:Nat->Nat->Prop}{R:b->Prop}(c:Nat->Nat->Bool):∀(t:KasT b),zA P R t->R (RJ c t)
 |.ret a,h=>h
 |.ask i j k,h=>zA.run c (k (c i j)) (h.2 (c i j))
theorem zA.bind{c e:Type}{P:Nat->Nat->Prop}{R:c->Prop}{S:e->Prop}{f:c->KasT e}(d:∀a,R a->zA P S (f a)):∀{t:KasT c},zA P R t->zA P S (t.bind f)
 |.ret a,h=>d a h
 |.ask i j k,h=>⟨h.1,λb=>zA.bind d (h.2 b)⟩
theorem P5{b:Type}{cmp:Nat->Nat->(Bool->ae->Prop)->ae->Prop}{c:Nat->Nat->Bool}{P:Nat->Nat->Prop}{s:ae}{Q:b->ae->Prop}(d:∀i j C,P i j->C (c i j) s->cmp i j C s):
  ∀{R:b->Prop} {t:KasT b},zA P R t->Q (RJ c t) s->t.kasWp cmp Q s
 |R,.ret a,_,q=>q
 |R,.ask i j k,h,q=>d i j _ h.1 (P5 d (h.2 (c i j)) q)
def x9(n:Nat)(p:Array Nat):Prop:=p.toList.Perm (aZ n)
theorem x9.getD(h:x9 n p)(a:0<n)(i:Nat):p.getD i 0<n:=by
 unfold Array.getD;split
 .rename_i b;have:p[i]∈p.toList:=by simp
  exact bN.1 (h.mem_iff.1 this)
 .exact a
def x9.rev(h:x9 n p)(i j:Nat):x9 n (kas_rev p i j):=by unfold x9 kas_rev mirror;exact(nV.1 (foldl_swaps_perm _ _ _ _)).t h
def x9.bub(h:x9 n p)(i j:Nat):x9 n (bubble p i j):=(nV.1 (bubble_perm _ _ _)).t h
abbrev In2(n:Nat):Nat->Nat->Prop:=λi j=>i<n/\j<n
theorem L8(a:0<n)(h:x9 n p):∀f k,zA (In2 n) (λ_=>True) (kas_asc p f k)
 |0,k=>trivial
 |f+1,k=>⟨⟨h.getD a _,h.getD a _⟩,λb=>by cases b<;>first|exact trivial|exact L8 a h f (k+1)⟩
theorem Fn(a:0<n):∀f (p:Array Nat) k q,x9 n p->zA (In2 n) (λr=>x9 n r.1) (kas_desc f p k q)
 |0,p,k,q,h=>h
 |f+1,p,k,q,h=>⟨⟨h.getD a _,h.getD a _⟩,λb=>by
   cases b with
   |true=>
    show zA _ _ (if q > 0 then _ else _);split
    .exact Fn a f _ _ _ (h.rev _ _)
    .exact Fn a f _ _ _ h
   |false=>
    refine⟨⟨h.getD a _,h.getD a _⟩,λd=>?_⟩;cases d with
    |true=>exact h
    |false=>exact Fn a f _ _ _ h⟩
def NB(b:0<n)(h:x9 n p)(k m:Nat):zA (In2 n) (λr=>x9 n r.2) (kas_tail3 k m p):=
 zA.bind (P:=In2 n) (R:=λ_=>True) (S:=λ(r:Nat×Array Nat)=>x9 n r.2) (f:=λm=>.ret (m,kas_rev p 0 k)) (λa _=>h.rev 0 k) (L8 b (h.rev 0 k) _ _)
def Fo(a:0<n)(h:x9 n p)(k m:Nat):zA (In2 n) (λr=>x9 n r.2) (kas_descPart k m p):=
 zA.bind (λr b=>by
  show zA _ _ (if r.2.2 > 0 then _ else _);split
  .exact NB a (b.rev _ _) _ _
  .exact NB a b _ _) (Fn a _ p _ _ h)
def RK(a:0<n)(h:x9 n p)(m:Nat):zA (In2 n) (λr=>x9 n r.2) (kas_count m p):=
 zA.bind (λk _=>by
  show zA _ _ (if (k==m)=γ then _ else _);split
  .exact h
  .split
   .refine⟨⟨h.getD a _,h.getD a _⟩,λb=>?_⟩;cases b with
    |true=>exact h
    |false=>exact Fo a (h.rev _ _) _ _
   .exact Fo a h _ _) (L8 a h _ _)
theorem Gm(a:0<n)(h:x9 n p)(k:Nat):∀f l r,zA (In2 n) (λ_=>True) (kas_place p k f l r)
 |0,l,r=>trivial
 |f+1,l,r=>by
  unfold kas_place;split
  .trivial
  .refine⟨⟨h.getD a _,h.getD a _⟩,λb=>?_⟩;cases b with
   |true=>exact Gm a h k f _ _
   |false=>exact Gm a h k f _ _
theorem P6(a:0<n):∀f (p:Array Nat) k,x9 n p->zA (In2 n) (x9 n) (kas_bin f p k)
 |0,p,k,h=>h
 |f+1,p,k,h=>zA.bind (λl _=>P6 a f _ _ (h.bub _ _)) (Gm a h k _ _ _)
def Jf(a:0<n):zA (In2 n) (x9 n) (jZ n):=
 zA.bind (λr b=>by
  show zA _ _ (if r.1<n then _ else _);split
  .exact P6 a _ _ _ b
  .exact b) (RK a (p:=List.toArray (aZ n)) (by unfold x9;exact List.Perm.refl _) n)
def DY(a:Addr)(h c:Heap):Prop:=∀b o,b≠a->h.get? b=Z o->c.get? b=Z o
section
variable{prog:aH}{w:az}{A:aJ}{E:ab->ae->Prop}{s:ae}
def Gp(c:Nat->Nat->Bool)(a:List ab):List ab:=(RJ c (jZ a.length)).toList.map λi=>a.getD i Value.none
def Uh(c:Nat->Nat->Bool)(a:List ab)(h:0<a.length):(Gp c a).length=a.length:=by unfold Gp;rw[ag];have:=(Jf h).run c _;rw[this.length_eq,cH]
def Ui(c:Nat->Nat->Bool)(v:ab):Gp c [v]=[v]:=rfl
def Uj{vs:List ab}(u:s.heap.get? a=Z (seqObj "list" vs.toArray n))(B:0<vs.length)(F:vs.length<64)
  (W:∀(h':Heap) (C:SortKind->ae->Prop),DY a s.heap h'->C S { s with heap:=h' }->ah (model prog w) A (keyKind' vs.toArray) C (λ_ _=>False) { s with heap:=h' })
  (U:∀(h':Heap) (i j:Nat) (C:Bool->ae->Prop),DY a s.heap h'->i<vs.length/\j<vs.length->C (c i j) { s with heap:=h' }->j1 prog w A S vs i j C { s with heap:=h' })
  (h:∀h' e,DY a s.heap h'->h'.get? a=Z (seqObj "list" (Gp c vs).toArray e)->P (.done (.ret .none)) { s with heap:=h' }):
  ah (model prog w) A (dJ.«list.sort» ⟨[.ref a],[]⟩) P E s:=by
 have ha:a<s.heap.objs.size:=aR u;obtain⟨z,R⟩:∃z,(s.heap.update a (cN λ_=>(#[]:Array ab))).get? a=Z (seqObj "list" #[] z):=⟨_,qa u λ_=>#[]⟩;generalize hw:((s.heap.update a (cN λ_=>(#[]:Array ab))).push (seqObj "tuple" vs.toArray 0)).push (seqObj "list" #[] 0)=d;have M:DY a s.heap d:=λb o hb q=>by rw[<-hw];exact aK _ (aK _ ((gH s.heap _ (dj hb)).t q))
 have t:d.get? a=Z (seqObj "list" #[] z):=by rw[<-hw];exact aK _ (aK _ R)
 rw[list_sort_plain];refine af (listItems_at u O (af (mf u O ?_ (by rw[bg,bQ];omega) (cp _))));refine af (mO R O (af (qq ?_ (by show vs.length<=_;rw[bQ];omega))));refine af (mh (bP ?_) (cp _));show ah (model prog w) A _ P E { s with heap:=((s.heap.update a (cN λ_=>(#[]:Array ab))).push (seqObj "tuple" vs.toArray 0)).push (seqObj "list" #[] 0) };rw[hw];dsimp only;obtain⟨c2,I⟩:∃c2,(d.update a (cN λ_=>(Gp c vs).toArray)).get? a=Z (seqObj "list" (Gp c vs).toArray c2):=⟨_,qa t λ_=>(Gp c vs).toArray⟩;have fin:=h _ c2 (λb o hb q=>(gH d _ (dj hb)).t (M b o hb q)) I;have szo:(Gp c vs).toArray.size<=aG+1:=by rw[bg,Uh c vs B,bQ];omega
 by_cases N:2<=vs.length
 .have m:¬vs.toArray.size<2:=by rw[bg];omega
  rw[ao m,ao m];refine af (b8 (W d (λk l=>k=S/\l={ s with heap:=d }) M ⟨O,O⟩) ?_ λ_ _ x=>x.elim);rintro k l ⟨rfl,rfl⟩;refine af (b8 (kat_run (Q:=λf l=>l={ s with heap:=d }/\(arrOf f).map (·.2)=(Gp c vs).toArray/\failedOf f=J) (G:=λp l=>p=RJ c (jZ vs.length)/\l={ s with heap:=d }) O N F ?_ ?_) ?_ λ_ _ e=>e)
  .rintro p f l _ har hf ⟨rfl,rfl⟩;exact⟨O,kat_snds O har,hf⟩
  .exact P5 (P:=In2 vs.length) (λi j C q r=>U d i j C M q r) (Jf B) ⟨O,O⟩
  .rintro⟨⟨⟩,f⟩ l ⟨rfl,H,hf⟩;dsimp only;refine af (mO t O ?_);rw[H,hf];refine af (mf t O ?_ (cp _) szo);simp only[bne_self_eq_false,eG,if_false];exact ar fin
 .obtain⟨v,rfl⟩:∃v,vs=[v]:=by
   cases vs with
   |nil=>cases B
   |cons v r=>
    cases r with
    |nil=>exact⟨v,O⟩
    |cons x y=>exact aq (by simp) N
  refine af (ar ?_);refine af (ar ?_);refine af (mO t O ?_);have T:rj (λx=>x.snd) (arrOf ((),SortSt.mk' general' (#[v].zip #[v]) #[] 7 J).snd)=(Gp c [v]).toArray:=by rw[Ui];show rj (λx=>x.snd) (#[v].zip #[v])=#[v];simp
  rw[T];refine af (mf t O ?_ (cp _) szo);simp only[bne_self_eq_false,eG,if_false];exact ar fin
def OQ{vs:List ab}(hT:T="list" \/ T="tuple")(x:s.heap.get? l=Z o)(hcl:o.cls=.type T)(hd:o.data=.seq vs.toArray n)(p:0<vs.length)(f:vs.length<64)
  (u:∀(h':Heap) (C:SortKind->ae->Prop),(∀b o,s.heap.get? b=Z o->h'.get? b=Z o)->C κ { s with heap:=h' }->ah (model prog w) A.in1.in1 (keyKind' vs.toArray) C (λ_ _=>False) { s with heap:=h' })
  (t:∀(h':Heap) (i j:Nat) (C:Bool->ae->Prop),(∀b o,s.heap.get? b=Z o->h'.get? b=Z o)->i<vs.length/\j<vs.length->C (c i j) { s with heap:=h' }->j1 prog w A.in1.in1 κ vs i j C { s with heap:=h' })
  (h:∀(g h':Heap) e,(∀b o,s.heap.get? b=Z o->g.get? b=Z o)->(∀b o,g.get? b=Z o->h'.get? b=Z o)->h'.get? g.objs.size=Z (seqObj "list" (Gp c vs).toArray e)->Q (.ref g.objs.size) { s with heap:=h' }):
  ah (model prog w) A (call (.builtin "sorted") [.ref l]) Q E s:=by
 refine nW kind_sorted plain_sorted entry_sorted (args_sorted1 _) ?_;unfold dJ.«sorted»;refine af (m:=checkCount "sorted" 1 1 _) (ar (af (wpAny_collect_seq l hT x hcl hd (λg d=>?_) (by rw[bQ];simp;omega))));refine af (mh ?_ (by rw[bQ];simp;omega));show ah _ _ _ _ _ { s with heap:=g.push (seqObj "list" vs.toArray 0) };have on:(g.push (seqObj "list" vs.toArray 0)).get? g.objs.size=Z (seqObj "list" vs.toArray 0):=bx _ O;have all:∀h',DY g.objs.size (g.push (seqObj "list" vs.toArray 0)) h'->∀b o,g.get? b=Z o->h'.get? b=Z o:=λh' a b o q=>a b o (bb (aR q)) (aK _ q)
 show ah _ _ (do let _<-holding [Value.ref g.objs.size] _;_) _ _ _;refine af (bP (fX qr ⟨_,on,O⟩ qb ?_ (qt _)));refine Uj (s:={ s with heap:=g.push (seqObj "list" vs.toArray 0) }) on p f (λh' C a q=>u h' C (λb o z=>all h' a b o (d b o z)) q) (λh' i j C a q r=>t h' i j C (λb o z=>all h' a b o (d b o z)) q r) λh' e a q=>?_;exact⟨_,O,ar ⟨_,O,h g h' e d (all h' a) q⟩⟩
end
def ltS(a b:Str):Bool:=decide (a.cps.toList<b.cps.toList)
def Ki:aE->aE->Bool
 |[],[]=>δ
 |[],_::_=>γ
 |_::_,[]=>δ
 |x::a,y::b=>if x=y then Ki a b else ltS x y
inductive AZ:List ab->aE->Prop
 |nil:AZ [] []
 |cons (x:Str) (t:Tok) {vs:List ab} {xs:aE} (h:AZ vs xs):AZ (.str x t::vs) (x::xs)
def OR(c:Nat->Nat->Bool)(n:Nat):List Nat:=(RJ c (jZ n)).toList
def Gq(c:Nat->Nat->Bool)(h:0<n):(OR c n).Perm (aZ n):=(Jf h).run c _
def L9(c:Nat->Nat->Bool)(h:0<n):∀i∈OR c n,i<n:=λi a=>bN.1 ((Gq c h).mem_iff.1 a)
theorem KW(r:er a c):∀(is:List Nat),(∀i∈is,i<a.length)->er (is.map λi=>a.getD i V.E) (is.map λi=>c.getD i Value.none)
 |[],_=>.nil
 |i::is,h=>by have b:=h i (.head _);obtain⟨u,e,f⟩:=r.get (bh b);refine .cons ?_ (KW r is λj d=>h j (.tail _ d));show e8 (a.getD i V.E) (c.getD i Value.none);rw[cY,cY,e,bh b];exact f
section
variable{X:Cx}{G:Bg}{pins:cD}{σ:St}{H:Hp}{s:ae}
def seq_val(I:c3 X pins σ H s)(c:gi X.K H a h\/ij X.K H a h):∃b,er h b/\∃T o n,(T="list" \/ T="tuple")/\s.heap.get? a=Z o/\o.cls=.type T/\o.data=.seq b.toArray n:=by
 rcases c with c|c
 .obtain⟨b,f,pl,_⟩:=I.list c;obtain⟨o,a1,d,n,e⟩:=pl.isList;exact⟨b,f,_,o,n,.inl O,a1,d,e⟩
 .obtain⟨b,f,⟨o,a1,d,n,e⟩,_⟩:=I.tuple c;exact⟨b,f,_,o,n,.inr O,a1,d,e⟩
def Eg:bj->Option aE
 |[]=>Z []
 |.str x::a=>match Eg a with
  |some b=>Z (x::b)
  |none=>J
 |_=>J
theorem EC:∀{a:bj} {b:bL} {l:aE},uS G H a b->Eg a=Z l->b=l.map V.str
 |[],b,l,r,e=>by cases e;unfold uS at r;exact r
 |d::a,b,l,r,e=>by
  cases d with
  |str x=>
   unfold Eg at e;cases c:Eg a with
   |none=>rw[c]at e;cases e
   |some i=>rw[c]at e;cases e;unfold uS at r;obtain⟨v,j,rfl,f,h⟩:=r;unfold cb at f;subst f;rw[EC h c,aI]
  |_=>cases e
theorem KY(r:uS G H a c):∀(is:List Nat),(∀i∈is,i<a.length)->uS G H (is.map λi=>a.getD i .E) (is.map λi=>c.getD i V.E)
 |[],_=>vN
 |i::is,h=>by have b:=h i (.head _);obtain⟨v,e,f⟩:=zN r (bh b);refine vU ?_ (KY r is λj d=>h j (.tail _ d));show cb G H (a.getD i .E) (c.getD i V.E);rw[cY,cY,e,bh b];exact f
end
end L4
namespace L4
open PySem PySem.Spec PyProof.Rows L2 L3
section
variable{X:Cx}{G:Bg}
def Xm:l? G (λx y H Q=>∃z n,x=.str z/\y=.int n/\MulOk z n/\Q (.str (m6 z n)) H) KP:=λx y z o H v u Q e s d f k=>by
 unfold KP at e;split at e
 .rename_i a n;split at e
  .rename_i m;obtain⟨p,r,h⟩:=m;cases e;unfold cb at d f;refine⟨a,n,d,f,⟨?_,λi j l=>?_,λi j=>?_⟩,k _ λ_ _=>zJ _⟩
   .rw[kO];exact⟨aT (by omega),aT (by omega)⟩
   .have c:(0:Int)<n:=by omega
    have q:(9223372036854775807:Int) / n >= 9223372036854775:=by have:=Int.le_ediv_of_mul_le (a:=9223372036854775) (b:=9223372036854775807) c (by omega);exact this
    have:((2:Int) ^ 63 - 1)=9223372036854775807:=by decide
    rw[this]at l;omega
   .have c:n.toNat<=1000:=by omega
    have:a.length * n.toNat<=100 * 1000:=Nat.mul_le_mul h c;refine aT ?_;rw[bQ];omega
  .cases e
 .cases e
end
def P7:List String:=["NoneType", "bool", "int", "str", "tuple", "list", "dict"]
def zd(n c:Nat):Ty->Option Bool:=λy=>match y with
 |.b x=>if P7.contains x=γ then Z δ else J
 |.c k=>if k<n then Z (k==c)else J
def xp(K:av)(cs:List Addr)(C:Addr)(c:Nat):Bool:=
 P7.all (λx=>di K (.type x) (.ref C)==Z δ)&&(aZ cs.length).all λk=>di K (.ref (cs.getD k 0)) (.ref C)==Z (k==c)
def wG{B:Bg}(h:xp B.K cs (B.ca c) c=γ)(i:cs.length=n)(d:∀k,k<n->cs.getD k 0=B.ca k)(hI:∀k,k<n->Nl B.K (B.ca k)):Jd B c (zd n c):=by
 unfold xp at h;rw[aY,aQ,aQ]at h;refine⟨λy b e=>?_,λj b e=>?_⟩
 .cases y with
  |b x=>
   unfold zd at e;simp only at e;split at e
   .rename_i f;cases e;exact gr (h.1 x (kK.1 f))
   .cases e
  |c k=>
   unfold zd at e;simp only at e;split at e
   .rename_i a;cases e;have:=gr (h.2 k (bN.2 (by omega)));rw[d k a]at this;exact this
   .cases e
 .unfold zd at e;simp only at e;split at e
  .rename_i a;exact hI j a
  .cases e
def aay{l:List Addr}(h:l.Nodup)(a:j<l.length)(b:k<l.length)(e:l.getD j 0=l.getD k 0):j=k:=by
 rw[cY,cY,bh a,bh b]at e;have c:=List.pairwise_iff_getElem.1 h;rcases Nat.lt_trichotomy j k with y|y|y
 .exact aq e (c j k a b y)
 .exact y
 .exact aq e.symm (c k j b a y)
section
variable{B:Bg}{K:av}{mg:Str->Option ab}{h:Heap}
def υ(X:K.In h)(a:h.Ns bf mg)(e:i8 K bf x=Z (Z (.int i t))):A2 B mg x (.int i):=
 ⟨.int i,_,i7 X a e,⟨_,O⟩,λ_=>xy _⟩
inductive Cc:List ab->aE->Prop
 |nil:Cc [] []
 |cons {v:ab} {x:Str} {t:Tok} {vs:List ab} {xs:aE} (e:v=.str x t) (h:Cc vs xs):Cc (v::vs) (x::xs)
def Cc.vals(h:Cc b c):er (c.map V.str) b:=by
 induction h with
 |nil=>exact .nil
 |cons e h a=>exact .cons ⟨_,e⟩ a
theorem Jg:∀a:aE,uS B H (a.map D.str) (a.map V.str)
 |[]=>vN
 |x::a=>vU (zJ x) (Jg a)
def OS(c:aE)(X:B.K.In h)(d:h.Ns bf mg)(e:i8 B.K bf x=Z (Z (.ref a)))(l:B.K.lookup a=Z o)(f:o.cls=.type "tuple")(hd:o.data=.seq b n)(i:b.size<=1000)
  (r:Cc b.toList c):A2 B mg x (.d? (c.map D.str)):=
 ⟨.ref a,_,i7 X d e,O,λH=>E5 (.inr ⟨o,b,n,l,f,hd,by rw[bQ];omega,r.vals⟩) (Jg c)⟩
end
section
variable{f g' h:FS}{c:FT}{e e' e2:FE}{a a':FA}{ρ ρ' ρ1 ρ2 ρ3:aS}{d x y z:D}{ds xs ys:bj}{k:Nat}{e?:List Nat}{g:FG}{ft:FT}{fe:FE}
theorem Jh{i:Type}(j:i->D)(p:i->Bool)(h:i->D):∀l:List i,
  (∀a∈l,∃ρ1 ρ2,g (j a) (Fb k e? ρ)=Z ρ1/\ft ρ1=Z (p a,ρ2)/\(p a=γ->∃ρ3,fe ρ2=Z (h a,ρ3)/\yD e? (ρ3.drop k) ρ=Z ρ)/\(p a=δ->yD e? (ρ2.drop k) ρ=Z ρ))->
  Av k e? g ft fe (l.map j) ρ=Z ((l.filter p).map h,ρ)
 |[],_=>rfl
 |a::l,st=>by
  obtain⟨ρ1,ρ2,o,q,r,t⟩:=st a aX;have m:=Jh j p h l λa' A=>st a' (ba _ A);rw[aI];unfold Av;rw[o];simp only[q];cases b:p a with
  |true=>obtain⟨ρ3,u,w⟩:=r b;simp only[u,w,m,fY,b,if_true,aI]
  |false=>simp only[t b,m,fY,b];rfl
def Xo{i:Type}(b:i->D)(h:i->D)(l:List i)(st:∀a∈l,∃ρ1 ρ3,g (b a) (Fb k e? ρ)=Z ρ1/\fe ρ1=Z (h a,ρ3)/\yD e? (ρ3.drop k) ρ=Z ρ):Av k e? g vP fe (l.map b) ρ=Z (l.map h,ρ):=by have:=Jh (ft:=vP) b (λ_=>γ) h l λa p=>let ⟨ρ1,ρ3,j,m,o⟩:=st a p;⟨ρ1,ρ1,j,O,λ_=>⟨ρ3,m,o⟩,λz=>by cases z⟩;rw[this,oU.2 λ_ _=>O]
def xN(neg:Bool)(a b:Str):fb neg (.str a) (.str b)=Z (.I (if neg then !decide (a=b)else decide (a=b))):=by
 have e:Kg neg (.str a) (.str b)=Z (.I (if neg then !decide (V.str a=V.str b)else decide (V.str a=V.str b))):=rfl;have e2:decide (V.str a=V.str b)=decide (a=b):=by
  by_cases h:a=b
  .subst h;simp
  .rw[aT h,aT (λz=>h (by injection z))]
 unfold fb;rw[e,e2]
def Uk(a:Str)(l:aE):inV (V.str a) (l.map V.str)=decide (a∈l):=by
 unfold inV;rw[c9,fE,bT];constructor
 .rintro⟨v,o,i⟩;obtain⟨b,m,rfl⟩:=au.1 o;have:b=a:=by unfold eqV at i;simpa using i
  rw[<-this];exact m
 .intro j;refine⟨.str a,cG j,?_⟩;unfold eqV;simp
def RN(l:aE):(l.map D.str).all xH=γ:=by rw[qJ,aQ];intro x _;rfl
def Xp(l:aE):(l.map D.str).map vD=l.map V.str:=by rw[bc];rfl
def xU(neg:Bool)(a:Str)(l:aE):m? neg (.str a) (.bt (l.map D.str))=Z (.I (if neg then !decide (a∈l)else decide (a∈l))):=by unfold m?;show (if xH (.str a)&&(l.map D.str).all xH then Z (D.I (if neg then !inV (vD (.str a)) ((l.map D.str).map vD)else inV (vD (.str a)) ((l.map D.str).map vD)))else J)=_;rw[RN,Xp];show Z (D.I (if neg then !inV (V.str a) (l.map V.str)else inV (V.str a) (l.map V.str)))=_;rw[Uk]
def Ul(neg:Bool)(a:Str)(l:aE):m? neg (.str a) (.d? (l.map D.str))=Z (.I (if neg then !decide (a∈l)else decide (a∈l))):=xU neg a l
theorem Ma:∀bs:List Bool,Kh (bs.map D.I)=Z bs
 |[]=>rfl
 |b::bs=>by rw[aI];unfold Kh;rw[Ma bs];rfl
def Um(bs:List Bool):zY (.bt (bs.map D.I))=Z (.I (bs.all id)):=by unfold zY;simp only[Ma];rfl
def Uo(bs:List Bool):Ia (.bt (bs.map D.I))=Z (.I (bs.any id)):=by unfold Ia;simp only[Ma];rfl
def Xq{b:Type}(l:List b)(p:b->Bool):zY (.bt (l.map λa=>D.I (p a)))=Z (.I (l.all p)):=by rw[show (l.map λa=>D.I (p a))=(l.map p).map D.I by rw[bc];rfl,Um,qJ];rfl
def P8{b:Type}(l:List b)(p:b->Bool):Ia (.bt (l.map λa=>D.I (p a)))=Z (.I (l.any p)):=by rw[show (l.map λa=>D.I (p a))=(l.map p).map D.I by rw[bc];rfl,Uo,List.any_map];rfl
theorem Ji:∀l:aE,G4 (l.map D.str)=Z (l.map Sum.inr)
 |[]=>rfl
 |x::l=>by rw[aI];unfold G4;rw[Ji l];rfl
theorem Up:∀(l acc:List fh),(acc++l).Nodup->l.foldl ddp acc=acc++l
 |[],acc,_=>by rw[bS];rfl
 |k::l,acc,h=>by
  have i:acc.any (λz=>decide (z=k))=δ:=by rw[jH];intro z;obtain⟨y,j,b⟩:=fE.1 z;rw[cn]at h;exact h.2.2 y j k aX (bF b)
  rw[iN,show ddp acc k=acc++[k] by unfold ddp;rw[i];rfl,Up l (acc++[k]) (by simpa using h)];simp
def DZ{l:aE}(h:l.Nodup):(l.map (Sum.inr:Str->fh)).Nodup:=by unfold List.Nodup at h ⊢;rw[pB];exact h.imp λhne z=>hne (jR z)
def NC{l:aE}(h:l.Nodup)(b:l.length<=1000):x8 (l.map D.str)=Z (.int l.length):=by unfold x8;rw[Ji];simp only[ag,b,if_true];unfold AX;rw[Up _ [] (by simpa using DZ h)];simp
def yH(neg:Bool)(a b:Int):fb neg (.int a) (.int b)=Z (.I (if neg then !decide (a=b)else decide (a=b))):=by
 have e:Kg neg (.int a) (.int b)=Z (.I (if neg then !decide (V.int a=V.int b)else decide (V.int a=V.int b))):=rfl;have e2:decide (V.int a=V.int b)=decide (a=b):=by
  by_cases h:a=b
  .subst h;simp
  .rw[aT h,aT (λz=>h (by injection z))]
 unfold fb;rw[e,e2]
def vn(b:e ρ=Z (.I γ,ρ1)):wa e e' ρ=e' ρ1:=by unfold wa;rw[b]
def vB{g:Nat->Option (bj->Option D)}{m:Str}{c:Nat}{ns:aE}{hh:bj->Option D}(b:e ρ=Z (.obj c ns xs,ρ1))(i:g c=Z hh)(j:ns.contains m=δ)(l:a ρ1=Z (ys,ρ2))(o:hh (.obj c ns xs::ys)=Z d):vg g m e a ρ=Z (d,ρ2):=by unfold vg;rw[b];simp only[i,j,l,o];rfl
def xA{c:Nat}{g:bj->Option (aE×bj)}{ns:aE}(b:a ρ=Z (ds,ρ1))(i:g ds=Z (ns,xs)):vG c g a ρ=Z (.obj c ns xs,ρ1):=by unfold vG;rw[b];simp only[i]
def Bl(i:ds.length=j)(h:b (L4.D' n ds)=Z (.nx ρ)):fc j n b ds=Z .E:=by unfold fc;rw[aj i,h]
def Gr(i:ds.length=j)(h:b (L4.D' n ds)=Z (.X xs ρ)):fc j n b ds=Z (.bt xs):=by unfold fc;rw[aj i,h]
theorem Fp:∀{b:List fh} {ds:bj} {k:fh} {d:D},b.Nodup->(k,d)∈b.zip ds->xu b ds k=Z d
 |[],_,k,d,_,h=>by simp at h
 |j::b,[],k,d,_,h=>by simp at h
 |j::b,l::ds,k,d,i,h=>by
  unfold xu;rw[fo]at h;rcases aO.1 h with e|h
  .cases e;rw[aj O]
  .rw[dA]at i;rw[ao (λz=>i.1 (by subst z;exact(jL h).1))];exact Fp i.2 h
end
end L4
namespace L4
open PySem PySem.Spec PyProof.Rows L2 L3
open PySem.W (nsIn findIn keepIn isFn makesIn fnOf)
def OT{b:Type}:Nat->(List b->Prop)->Prop
 |0,P=>P []
 |n+1,P=>∀a,OT n λl=>P (a::l)
theorem Io{b:Type}:∀{n:Nat} {P:List b->Prop},OT n P->∀l,l.length=n->P l
 |0,P,h,[],_=>h
 |n+1,P,h,a::l,e=>Io (P:=λl=>P (a::l)) (h a) l (iW e)
structure CF(K:av)(C:Addr)(xs:aE):Prop where
 ci:Nl K C
 mks:makesIn K C=γ
 kp:keepIn K (.ref C)=γ
 na:(xs.all λx=>match findIn K (.ref C) x with|some J=>γ|_=>δ)=γ
theorem CF.at{K:av}(c:CF K C xs)(i:Nat)(h:xs[i]?=Z x):T1 K C/\Au K C x:=⟨c.ci.cl,by
 have e:=aQ.1 c.na x (cj h);unfold Au;split at e
 .rename_i a;exact a
 .cases e⟩
def yk{Q:Nat->Prop}{i:Nat}(h:Q i):∀c,(c==i)=γ->Q c:=λc e=>by rw[beq_iff_eq]at e;subst e;exact h
def orQ{Q:Nat->Prop}{p:Nat->Bool}{i:Nat}(h:∀c,p c=γ->Q c)(a:Q i):∀c,(p c||c==i)=γ->Q c:=λc e=>by
 rw[jM]at e;rcases e with e|e
 .exact h c e
 .exact yk a c e
structure Yw(P:aH)(w:az)(mg:Str->Option ab)(b?:Heap)(G:Bg):Prop where
 m:∃h:Heap,G.K.In h/\h.Ns bf mg
section
variable{P:aH}{w:az}{mg:Str->Option ab}{b?:Heap}{G:Bg}{x m qual:Str}{st:Stmt}{N ps:aE}{k c:Nat}{K:av}
def Yw.g(y:Yw P w mg b? G)(e:nsIn G.K bf x=Z (Z v)):mg x=Z v:=by obtain⟨h,X,a⟩:=y.m;exact i7 X a e
def Yw.n(y:Yw P w mg b? G){xs:aE}(h:(xs.all λx=>match nsIn G.K bf x with|some J=>γ|_=>δ)=γ)(i:Nat)(d:xs[i]?=Z x):mg x=J:=by
 obtain⟨f,X,a⟩:=y.m;have e:=aQ.1 h x (cj d);split at e
 .rename_i b;exact W.mg_none_of X a b
 .cases e
def GC(K:av)(x:Str)(i:Int):Prop:=∃t:Tok,nsIn K bf x=Z (Z (.int i t))
def Yw.ci(y:Yw P w mg b? G)(q:GC G.K x i):A2 G mg x (.int i):=by obtain⟨h,X,a⟩:=y.m;obtain⟨t,e⟩:=q;exact υ X a e
def GS(K:av)(x:Str)(d:aE):Prop:=∃(a:Addr) (o:Obj) (b:Array ab) (n:Nat),nsIn K bf x=Z (Z (.ref a))/\K.lookup a=Z o/\o.cls=.type "tuple" /\ o.data=.seq b n/\b.size<=1000/\Cc b.toList d
def Yw.cs(y:Yw P w mg b? G)(q:GS G.K x b):A2 G mg x (.d? (b.map D.str)):=by obtain⟨h,X,d⟩:=y.m;obtain⟨a,o,r,n,e,l,f,i,j,p⟩:=q;exact OS b X d e l f i j p
def GD(K:av)(x:Str)(st:Stmt):Prop:=∃(f:Addr) (a:bV),nsIn K bf x=Z (Z (.ref f))/\χ K x x st f a
def GM(K:av)(C:Addr)(m qual:Str)(st:Stmt):Prop:=∃(f:Addr) (a:bV),findIn K (.ref C) m=Z (Z (.ref f))/\isFn K (.ref f)=γ/\χ K m qual st f a
def GJ(K:av)(C:Addr)(qual:Str)(st:Stmt)(b:bL):Prop:=∃(f:Addr) (a:bV) (T:Addr) (o:Obj) (dl:List ab) (n:Nat),findIn K (.ref C) "__init__" = Z (Z (.ref f))/\isFn K (.ref f)=γ/\Re K "__init__" qual st f a T/\K.lookup T=Z o/\o.data=.seq dl.toArray n/\er b dl
abbrev Bdy(P:aH)(w:az)(K:av)(mg:Str->Option ab)(b?:Heap)(N:aE)(qual:Str)(st:Stmt)(k:Nat)(t:TS):Prop:=∀(f:Addr) (cdv:ab) (A:aJ) (da:List Env) (s:ae) (H:Hp) (E:XK),xB k (A.deeper (envOfC qual (vw st) s.heap.objs.size f cdv))->qi (G2 P w K mg b? N qual st f cdv A da s H E) (vY st) t
abbrev ε(x qual:Str)(st:Stmt)(ps:aE):Prop:=OT ps.length λa=>∀(kV doc e:ab) (b:Option Addr) (cdv d:ab),bindArgs (fnOf x qual (za st) (vY st) (vw st) .none kV doc e b cdv d) ⟨a,[]⟩=pure (ps.zip a)
theorem ε.ok(b:ε x qual st ps)(F:χ K x qual st f e):m1 K e ps []:=F.tp λkV doc i a cdv d j h=>Io b j h kV doc i a cdv d
theorem gD(y:Yw P w mg b? G)(q:GD G.K x st)(d:ε x x st ps)(ok:∀f b,χ G.K x x st f b->zr P w G.K mg b? H? k f b ps e):Ed P w G.K mg b? k x ps e:=by obtain⟨f,b,a,F⟩:=q;exact⟨f,b,y.g a,F.kp,d.ok F,ok f b F⟩
def gF(d:g=fc h n b)(y:Yw P w mg b? G)(q:GD G.K x st)(S:xK N ps (vw st))(body:Bdy P w G.K mg b? N x st k (mu G b))(e:ps.length=h:=by rfl)(hN:N.length=n:=by rfl)(a:ε x x st ps:=by (repeat intro _);rfl):Ed P w G.K mg b? (k+1) x ps (fy G g):=
 gD y q a λf i F=>TB d e hN F S (body f)
def gN'(d:g=xr h n b)(y:Yw P w mg b? G)(q:GD G.K x st)(S:xK N ps (vw st))(body:Bdy P w G.K mg b? N x st k (mu G b))(e:ps.length=h:=by rfl)(hN:N.length=n:=by rfl)(a:ε x x st ps:=by (repeat intro _);rfl):Ed P w G.K mg b? (k+1) x ps (ub G g):=
 gD y q a λf i F=>adv d e hN F S (body f)
def gM(d:g=u6 h n b)(y:Yw P w mg b? G)(q:GD G.K x st)(S:xK N (p::ps) (vw st))(body:Bdy P w G.K mg b? N x st k (mu G b))(e:ps.length=h:=by rfl)(hN:N.length=n:=by rfl)(a:ε x x st (p::ps):=by (repeat intro _);rfl):Ed P w G.K mg b? (k+1) x (p::ps) (vl G g):=
 gD y q a λf i F=>adw d e hN F S (body f)
def gI(h:g=xo c o n b)(y:Yw P w mg b? G)(C:CF G.K (G.ca c) r)(a:nsIn G.K bf x=Z (Z (.ref (G.ca c))))(q:GM G.K (G.ca c) "__init__" qual st)(S:xK N (p::ps) (vw st))(body:Bdy P w G.K mg b? N qual st k (mu G b))(j:ps.length=o:=by rfl)(hN:N.length=n:=by rfl)(d:ε "__init__" qual st (p::ps):=by (repeat intro _);rfl):L6 G P w mg b? (k+1) x c (p::ps) [] g:=by obtain⟨f,e,i,l,F⟩:=q;exact⟨f,e,[],⟨C.mks,i,l,C.kp⟩,y.g a,d.ok F,.nil,adx h j hN F S (body f)⟩
def ND(h:er d b):b.length=d.length:=by
 induction h with
 |nil=>rfl
 |cons _ _ a=>rw[aM,aM,a]
def RO(h:er f e):∀j,er (f.drop j) (e.drop j):=by
 induction h with
 |nil=>intro j;rw[qC,qC];exact .nil
 |cons a b d=>
  intro j;cases j with
  |zero=>exact .cons a b
  |succ j=>exact d j
theorem gJ(E:g=xo c Q n b)(y:Yw P w mg b? G)(C:CF G.K (G.ca c) R)(a:nsIn G.K bf x=Z (Z (.ref (G.ca c))))(q:GJ G.K (G.ca c) qual st z)(S:xK N (p::ps) (vw st))(body:Bdy P w G.K mg b? N qual st k (mu G b))(j:Nat)(I:ps.length=Q:=by rfl)(hN:N.length=n:=by rfl)
  (A:OT z.length λdl=>OT ((p::ps).length - (z.drop j).length) λd=>∀(T:Addr) (kV doc u:ab) (h:Option Addr) (cdv t:ab),∃k,bindArgs (fnOf "__init__" qual (za st) (vY st) (vw st) (.ref T) kV doc u h cdv t) ⟨d,[]⟩=seqItems? (.ref T)>>=k/\k (Z dl.toArray)=pure ((p::ps).zip (d++dl.drop j)):=by (repeat intro _);exact⟨_,O,O⟩):L6 G P w mg b? (k+1) x c (p::ps) (z.drop j) g:=by
 obtain⟨f,B,T,o,dl,n,i,M,F,l,e,r⟩:=q;refine⟨f,B,dl.drop j,⟨C.mks,i,M,C.kp⟩,y.g a,F.tp l e λkV doc u h cdv t d H=>?_,RO r j,aak E I hN F S (body f)⟩;exact Io (Io A dl (ND r)) d (by rw[H,fC,fC,ND r]) T kV doc u h cdv t
end
end L4
namespace L4
open PySem PySem.Spec PyProof.Rows L2 L3
def J?(a b:Str):Bool:=decide (a.cps.toList<=b.cps.toList)
def zt(a:aE):aE:=a.mergeSort J?
def Jj(a b c:Str)(h:J? a b=γ)(d:J? b c=γ):J? a c=γ:=aU (List.le_trans (bF h) (bF d))
def Ip(a b:Str):(J? a b||J? b a)=γ:=by
 rw[jM];rcases List.le_total a.cps.toList b.cps.toList with h|h
 .exact .inl (aU h)
 .exact .inr (aU h)
def Jk(a b:Str)(h:J? a b=γ)(c:J? b a=γ):a=b:=by have e:=List.le_antisymm (bF h) (bF c);cases a with|mk a=>cases b with|mk b=>cases a;cases b;simp only at e;rw[e]
theorem Gs:∀(r:aE) (x:Str),risingS x r=γ->(∀y∈r,J? x y=γ)/\r.Pairwise λa b=>J? a b=γ
 |[],x,_=>⟨λy h=>(cA h).elim,.nil⟩
 |z::r,x,h=>by
  unfold risingS at h;rw[aY,fw,ltCps_eq]at h;obtain⟨j,l⟩:=h;obtain⟨d,i⟩:=Gs r z l;have f:J? x z=γ:=aU (of_decide_eq_false j);refine⟨λy c=>?_,.cons d i⟩;rcases aO.1 c with e|c
  .rw[e];exact f
  .exact Jj _ _ _ f (d y c)
def OU:∀l:aE,sortedS l=γ->l.Pairwise λa b=>J? a b=γ
 |[],_=>.nil
 |x::r,h=>.cons (Gs r x h).1 (Gs r x h).2
def Jl{l:aE}(p:l.Perm c)(h:sortedS l=γ):l=zt c:=
 kH (λa b _ _=>Jk a b) (OU l h) (ju Jj Ip c) (p.t (gO c J?).symm)
theorem NF:∀{b:aE} {a:List ab},er (b.map V.str) a->jA a b
 |[],a,h=>by cases h;exact .nil
 |x::b,a,h=>by
  cases h with
  |cons r c=>obtain⟨t,rfl⟩:=r;exact .cons x t (NF c)
theorem Uq:∀{vs:List ab} {a:aE},jA vs a->er (a.map V.str) vs
 |_,_,.nil=>.nil
 |_,_,.cons x t h=>.cons ⟨t,O⟩ (Uq h)
section
variable{X:Cx}{G:Bg}{pins:cD}{σ:St}{H:Hp}{s:ae}
def Mb:wR X (.builtin "sorted") (λj H Q=>∃(a:Addr) (c:aE),j=[.ref a]/\gi X.K H a (c.map V.str)/\c.length<64/\∀p,H p=J->Q (.ref p) (fl H p (.bt ((zt c).map V.str)))):=by
 intro pins s σ H j A Q I r h;obtain⟨a,c,rfl,w,m,q⟩:=h;obtain⟨u,rfl,x⟩:=mq r;cases x;obtain⟨b,i,pl,_⟩:=I.list w;have t:(c.map V.str).length=b.length:=i.length;rw[ag]at t;refine sorted_strs pl.isList (NF i) (by omega) λout y a1 d l=>?_;obtain⟨e,o⟩:=sortedAll_at s.heap b out;have f:=Jl d l;refine⟨.ref (s.heap.objs.size+1),_,I.laid (t':=s.toks) (λ_ _=>sortedAll_old) (gp _) ?_,O,q _ (I.fx.fresh (gp _))⟩;refine⟨?_,out.toList,e,?_,o⟩
 .rw[ag,<- f,d.length_eq,bQ];omega
 .rw[<-f];exact Uq a1
def Gu(f:FE):FA:=λd=>match f d with
 |some (.bt c,a)=>match Eg c with
  |some b=>if b.length<64 then Z ((zt b).map D.str,a)else J
  |none=>J
 |_=>J
theorem ED:∀a:aE,uS G H (a.map D.str) (a.map V.str)
 |[]=>vN
 |x::a=>vU (zJ x) (ED a)
def NG(h:PE X e (tCB (λq H Q=>∃(a:Addr) (c:aE),q=[.ref a]/\gi G.K H a (c.map V.str)/\c.length<64/\∀p,H p=J->Q (.ref p) (fl H p (.bt ((zt c).map V.str)))) (vf G (ax f vC)))):PE X e (z0 G (Gu f)):=PE.en h λσ H Q y=>by
 obtain⟨F,A,r,I,B,R,e,k⟩:=y;unfold Gu at e;split at e
 .rename_i l C u;cases i:Eg l with
  |none=>simp only[i]at e;cases e
  |some c=>
   simp only[i]at e;split at e
   .rename_i j;cases e;refine⟨F,A,r,[.bt l],_,R,by unfold ax;rw[u];rfl,λN E t s b rs=>?_⟩;unfold uS at rs;obtain⟨v,M,rfl,o,m⟩:=rs;unfold uS at m;subst m;unfold cb at o;obtain⟨a,q,rfl,w,x⟩:=o;have z:=EC x i;subst z;refine⟨a,c,O,gi.of (b.sub _ _ w),j,λp d=>?_⟩;exact k p _ _ _ s (b.l' d _) ve (b.f3 d) (b.i0 d) (b.apart d) (ED _)
   .cases e
 .cases e
def Kj(hK:X.K=G.K:=by rfl):wR X (.builtin "sorted") (λc H Q=>∃(a:Addr) (b:aE),c=[.ref a]/\gi G.K H a (b.map V.str)/\b.length<64/\∀p,H p=J->Q (.ref p) (fl H p (.bt ((zt b).map V.str)))):=by rw[<-hK];exact Mb
end
end L4
namespace L4
open PySem PySem.Spec PySem.Calls PyProof.Rows PySem.W L2 L3
structure Sto(c:Nat->Nat->Bool)(n:Nat):Prop where
 tr:∀i j k,i<n->j<n->k<n->c i j=γ->c j k=γ->c i k=γ
 tot:∀i j,i<n->j<n->i≠j->c i j=δ->c j i=γ
section
variable{X:Cx}{G:Bg}{pins:cD}{σ:St}{H:Hp}{s:ae}
def Kk(K:av)(H:Hp)(y:V)(k:aE):Prop:=∃a p q,y=.ref a/\k=[p,q]/\ij K H a [.str p,.str q]
def Ur(I:c3 X pins σ H s)(h:Kk X.K H y k)(r:e8 y u):∃a p q t v,u=.ref a/\k=[p,q]/\gw s.heap a #[.str p t,.str q v]:=by
 obtain⟨a,p,q,rfl,rfl,b⟩:=h;cases r;obtain⟨c,i,j,_⟩:=I.tuple b;cases i with
 |cons d e=>
  obtain⟨t,rfl⟩:=d;cases e with
  |cons q3 f=>obtain⟨v,rfl⟩:=q3;cases f;exact⟨a,p,q,t,v,O,O,j⟩
end
section
variable{prog:aH}{w:az}{A:aJ}{s:ae}
def It2(h:Heap)(b:List ab)(c:List aE):Prop:=∀i,i<b.length->∃a p q t v,b.getD i Value.none=.ref a/\c.getD i []=[p,q]/\gw h a #[.str p t,.str q v]/\b[i]?=Z (.ref a)
def RP(item:It2 s.heap b H)(G:0<b.length)(hC:C (tuples' γ) s):ah (model prog w) A (keyKind' b.toArray) C (λ_ _=>False) s:=by
 have zE:∀(l:List ab),(∀v∈l,∃i,i<b.length/\b[i]?=Z v)->∃fs,KatTups s.heap l fs/\fs.length=l.length/\∀f∈fs,∃(x:Str) (t:Tok),f=.str x t:=λl=>by
  induction l with
  |nil=>exact λ_=>⟨[],KatTups.nil,O,λf hf=>by cases hf⟩
  |cons v l z=>
   intro c;obtain⟨fs,h,m,j⟩:=z λw y=>c w (.tail _ y);obtain⟨i,d,u⟩:=c v (.head _);obtain⟨a,p,q,t,w,_,_,⟨o,B,E,n,F⟩,r⟩:=item i d;rw[u]at r;cases r;refine⟨.str p t::fs,KatTups.cons B E F (by simp) h,by rw[aM,aM,m],λf hf=>?_⟩;rcases aO.1 hf with rfl|hf
   .exact⟨p,t,O⟩
   .exact j f hf
 obtain⟨fs,h,m,j⟩:=zE b λv c=>by obtain⟨i,d,e⟩:=kN.1 c;exact⟨i,d,by rw[bh d,e]⟩
 refine kat_kind (T:=.type "str") h (by omega) (λv c=>?_) (by decide) ?_
 .obtain⟨x,t,rfl⟩:=j v c;exact .now
 .rw[show (Value.type "str" != Value.type "tuple")=γ by decide];exact hC
def Us(item:It2 s.heap a e)(hij:i<a.length/\j<a.length)(hC:C (Ki (e.getD i []) (e.getD j [])) s):j1 prog w A (tuples' γ) a i j C s:=by
 obtain⟨a1,b,c,f,l,q,x,⟨F,t,c1,B,o⟩,_⟩:=item i hij.1;obtain⟨z,p2,d,h,m,r,y,⟨G,u,c2,E,p⟩,_⟩:=item j hij.2;unfold j1;rw[q,r];rw[x,y]at hC;refine kat_lt t o u p ?_;show KatLex _ _ _ _ _ _ [(Value.str b f,Value.str p2 h),(Value.str c l,Value.str d m)] 0 _;refine kat_cons (kX b f p2 h _ _ _ _ ?_);unfold Ki at hC;by_cases hpp:b=p2
 .subst hpp;rw[aj O]at hC;rw[beq_self_eq_true];refine kat_yes (kat_cons (kX c l d m _ _ _ _ ?_));unfold Ki at hC;by_cases hqq:c=d
  .subst hqq;rw[aj O]at hC;rw[beq_self_eq_true];exact kat_yes (kat_nil hC)
  .rw[ao hqq]at hC;rw[beq_false_of_ne hqq];exact kat_no (kat_one _ _ (uw hC))
 .rw[ao hpp]at hC;rw[beq_false_of_ne hpp];exact kat_no (oneLt_str hC)
end
section
variable{X:Cx}{G:Bg}{pins:cD}{σ:St}{H:Hp}{s:ae}
def Mc(hu:X.A.units+64<cLine):wR X (.builtin "sorted") (λxs H Q=>∃(a:Addr) (d:bL) (ks:List aE),xs=[.ref a]/\gi X.K H a d/\0<d.length/\d.length<64/\ks.length=d.length/\(∀(i:Nat) (y:V) (k:aE),d[i]?=Z y->ks[i]?=Z k->Kk X.K H y k)/\
  ∀p,H p=J->Q (.ref p) (fl H p (.bt ((OR (λi j=>Ki (ks.getD i []) (ks.getD j [])) d.length).map λi=>d.getD i V.E)))):=by
 intro pins s σ H xs us Q I r h;obtain⟨a,d,ks,rfl,hq,R,S,hkl,Y,q⟩:=h;obtain⟨u,rfl,w⟩:=mq r;cases w;obtain⟨f,m,T,ob,nn,hT,F,M,N⟩:=seq_val I (.inl hq);have U:d.length=f.length:=m.length;have item:∀{h':Heap},(∀b o,s.heap.get? b=Z o->h'.get? b=Z o)->It2 h' f ks:=λ{h'} l i hi=>by
  have E:c3 X pins σ H { s with heap:=h',toks:=s.toks }:=I.g? l;have B:i<d.length:=by omega
  have z:i<ks.length:=by omega
  obtain⟨u,e,w⟩:=m.get (bh B);obtain⟨a,p,q,t,v,rfl,P,ti⟩:=Ur E (Y i _ _ (bh B) (bh z)) w;refine⟨a,p,q,t,v,?_,?_,ti,e⟩
  .rw[cY,e];rfl
  .rw[cY,bh z];exact P
 refine OQ (κ:=tuples' γ) (c:=λi j=>Ki (ks.getD i []) (ks.getD j [])) hT F M N (by omega) (by omega) (λh' C l hC=>RP (s:={ s with heap:=h' }) (item l) (by omega) hC) (λh' i j C l hij hC=>Us (s:={ s with heap:=h' }) (item l) hij hC) λg h' e k1 k2 W=>?_
 .have x:c3 X pins σ H { s with heap:=g,toks:=s.toks }:=I.g? k1;refine⟨.ref g.objs.size,_,x.laid (t':=s.toks) k2 (aN _) ?_,O,q _ (x.fx.fresh (aN _))⟩;have hn:0<d.length:=R;refine⟨?_,Gp _ f,e,?_,W⟩
  .rw[ag,(Gq _ hn).length_eq,cH,bQ];omega
  .unfold Gp;rw[<-U];exact KW m _ λi hi=>L9 _ hn i hi
end
def RQ:D->Option aE
 |.d? [.str p,.str q]=>Z [p,q]
 |_=>J
def zu:bj->Option (List aE)
 |[]=>Z []
 |d::a=>match RQ d,zu a with
  |some k,Z b=>Z (k::b)
  |_,_=>J
def Jm(a:bj):Option bj:=match zu a with
 |some b=>if 0<a.length/\a.length<64 then Z ((OR (λi j=>Ki (b.getD i []) (b.getD j [])) a.length).map λi=>a.getD i .E)else J
 |none=>J
def Gv(f:FE):FA:=λd=>match f d with
 |some (.bt b,a)=>match Jm b with
  |some c=>Z (c,a)
  |none=>J
 |_=>J
section
variable{X:Cx}{G:Bg}{H:Hp}
def NH(r:cb G H d v)(e:RQ d=Z k):Kk G.K H v k:=by
 unfold RQ at e;split at e
 .rename_i p q;cases e;unfold cb at r;obtain⟨a,t,rfl,i,b⟩:=r;unfold uS at b;obtain⟨m,j,rfl,c,f⟩:=b;unfold uS at f;obtain⟨o,l,rfl,q3,h⟩:=f;unfold uS at h;unfold cb at c q3;subst h c q3;exact⟨a,p,q,O,O,i⟩
 .cases e
theorem KZ:∀{a:bj} {b:List aE},zu a=Z b->b.length=a.length
 |[],b,e=>by cases e;rfl
 |d::a,b,e=>by
  unfold zu at e;cases c:RQ d with
  |none=>rw[c]at e;cases e
  |some k=>
   cases f:zu a with
   |none=>rw[c,f]at e;cases e
   |some h=>rw[c,f]at e;cases e;rw[aM,aM,KZ f]
theorem K0:∀{a:bj} {f:List aE} {h:bL},uS G H a h->zu a=Z f->∀(i:Nat) (y:V) (k:aE),h[i]?=Z y->f[i]?=Z k->Kk G.K H y k
 |[],f,h,r,e,i,y,k,l,c=>by cases e;cases c
 |d::a,f,h,r,e,i,y,k,l,c=>by
  unfold zu at e;cases b:RQ d with
  |none=>rw[b]at e;cases e
  |some q=>
   cases j:zu a with
   |none=>rw[b,j]at e;cases e
   |some m=>
    rw[b,j]at e;cases e;unfold uS at r;obtain⟨v,t,rfl,o,p⟩:=r;cases i with
    |zero=>cases l;cases c;exact NH o b
    |succ i=>exact K0 p j i y k l c
theorem Kk.mono{K:av}(s:vm b c)(h:Kk K b y k):Kk K c y k:=by obtain⟨a,p,q,d,e,f⟩:=h;exact⟨a,p,q,d,e,ij.mono s f⟩
def NI(h:PE X e (tCB (λu H Q=>∃(a:Addr) (c:bL) (l:List aE),u=[.ref a]/\gi G.K H a c/\0<c.length/\c.length<64/\l.length=c.length/\(∀(i:Nat) (y:V) (k:aE),c[i]?=Z y->l[i]?=Z k->Kk G.K H y k)/\
  ∀p,H p=J->Q (.ref p) (fl H p (.bt ((OR (λi j=>Ki (l.getD i []) (l.getD j [])) c.length).map λi=>c.getD i V.E)))) (vf G (ax f vC)))):PE X e (z0 G (Gv f)):=PE.en h λσ H Q t=>by
 obtain⟨F,W,A,es,Y,R,e,k⟩:=t;unfold Gv at e;split at e
 .rename_i q ρ1 C;cases b:Jm q with
  |none=>simp only[b]at e;cases e
  |some E=>
   simp only[b]at e;cases e;unfold Jm at b;cases m:zu q with
   |none=>simp only[m]at b;cases b
   |some l=>
    simp only[m]at b;split at b
    .rename_i t;obtain⟨P,M⟩:=t;cases b;refine⟨F,W,A,[.bt q],_,R,by unfold ax;rw[C];rfl,λc H1 B s d rs=>?_⟩;unfold uS at rs;obtain⟨v,r0,rfl,z,x⟩:=rs;unfold uS at x;subst x;unfold cb at z;obtain⟨a,u,rfl,I,r⟩:=z;have w:=uX r;refine⟨a,u,l,O,gi.of (d.sub _ _ I),by omega,by omega,by rw[KZ m,w],λi y S T U=>Kk.mono d.sub (K0 r m i y S T U),λp o=>?_⟩;refine k p _ _ _ s (d.l' o _) ve (d.f3 o) (d.i0 o) (d.apart o) ?_;rw[<-w];exact KY r _ λi N=>L9 _ P i N
    .cases b
 .cases e
def Kl(d:X.A.units+64<cLine)(hK:X.K=G.K:=by rfl):wR X (.builtin "sorted") (λe H Q=>∃(a:Addr) (b:bL) (c:List aE),e=[.ref a]/\gi G.K H a b/\0<b.length/\b.length<64/\c.length=b.length/\(∀(i:Nat) (y:V) (k:aE),b[i]?=Z y->c[i]?=Z k->Kk G.K H y k)/\
  ∀p,H p=J->Q (.ref p) (fl H p (.bt ((OR (λi j=>Ki (c.getD i []) (c.getD j [])) b.length).map λi=>b.getD i V.E)))):=by rw[<-hK];exact Mc d
end
end L4
namespace L4
open PySem PySem.Spec PyProof.Rows L2 L3
structure Bz where
 P:aH
 w:az
 mg:Str->Option ab
 b?:Heap
 G:Bg
structure ZE(X:Cx)(B:Bz)(e:Expr)(f:FE):Prop where p:PE X e (tF B.G f)
structure ZN(X:Cx)(B:Bz)(e:Expr)(f:FA):Prop where p:PE X e (z0 B.G f)
structure ZT(X:Cx)(B:Bz)(e:Expr)(f:FT):Prop where p:PT X e (pa B.G f)
structure ZW(X:Cx)(B:Bz)(e:Expr)(f:FT):Prop where p:PW X e (pa B.G f)
structure ZF(X:Cx)(B:Bz)(e:List Expr)(f:FT):Prop where p:PIf X e (pa B.G f)
structure ZA(X:Cx)(B:Bz)(e:List Expr)(f:FA):Prop where p:PA X e (vf B.G f)
structure ZS(X:Cx)(B:Bz)(e:Stmt)(f:FS):Prop where p:PS X e (mu B.G f)
structure ZB(X:Cx)(B:Bz)(e:List Stmt)(f:FS):Prop where p:qi X e (mu B.G f)
structure ZI(X:Cx)(B:Bz)(tg e:Expr)(f:FA):Prop where p:PI X tg e (XC B.G f)
structure ZO(X:Cx)(B:Bz)(e:Option Expr)(f:FO):Prop where p:PO X e (tFO B.G f)
structure ZG(X:Cx)(B:Bz)(e:Expr)(n:Nat)(f:FG):Prop where p:PG X e (tFG B.G n f)
structure ZH(X:Cx)(B:Bz)(e:List Expr)(n:Nat)(f:bj->aS->Option aS):Prop where p:R' X e (Rg B.G n f)
structure ZK(X:Cx)(e:Option Expr)(i:Option Int):Prop where p:PO X e (tO i)
structure ZV(X:Cx)(e:Expr)(i:Nat):Prop where p:PE X e (BY i)
abbrev Gz(X:Cx)(x:Str):Prop:=X.b1.kindOf x=Z .globalImplicit
abbrev Dz(x:Str):Prop:=(x==("__debug__" : Str))=δ
abbrev Nz(x:Str):Prop:=(decide (x≠"__name__")&&!(x==("__debug__" : Str)))=γ
abbrev Sz(X:Cx)(e:Expr)(a:List Expr):Prop:=aA (e::a) X.b1=(δ,eval e X.b1)::aA a X.b1
abbrev S1(X:Cx)(e:Expr):Prop:=aA [e] X.b1=[(δ,eval e X.b1)]
abbrev Lz(X:Cx)(pos:Pos)(a:List Expr):Prop:=(bD pos (aA a X.b1)).any (·.1)=δ
abbrev Wz(X:Cx)(e o:Expr)(pos:Pos):Prop:=dG e (Z o) pos.line X.b1=pure δ
abbrev Az(X:Cx)(o:Expr)(m:Str):Prop:=fJ o m X.b1 (eval o X.b1)=eval o X.b1
abbrev Ez(p pos:Pos):Prop:=(p.endLine==pos.line)=γ
abbrev Iz(e:Expr):Prop:=(λo i=>subscripted e δ o i)=λo i=>operate [o,i] (getItem o i)
abbrev Fz(X:Cx)(e:Expr):Prop:=(λx=>iH e X.b1 x)=λx=>pure x
class Cz(X:Cx)(B:outParam Bz)(k:outParam Nat):Prop where
 P:X.prog=B.P
 w:X.w=B.w
 K:X.K=B.G.K
 mg:X.mg=B.mg
 b:X.b?=B.b?
 c:X.n6=γ
 r:xB k X.A
class Yb(B:Bz):Prop where y:Yw B.P B.w B.mg B.b? B.G
class Df(B:Bz)(j:outParam Nat)(x:Str)(sp:Sp):Prop where p:∃ps,Ed B.P B.w B.G.K B.mg B.b? j x ps sp
class Kf(B:Bz)(j:outParam Nat)(x:Str)(c:Nat)(g:bj->Option (aE×bj))(dds:bj):Prop where
 p:∃ps,L6 B.G B.P B.w B.mg B.b? j x c ps (dds.map vD) g
 f:dds.all xH=γ
class Mf(B:Bz)(j:outParam Nat)(m:Str)(g:Nat->Option (bj->Option D)):Prop where p:∀c h,g c=Z h->B9 B.G B.P B.w B.mg B.b? j m c h
class Ff(B:Bz)(ok:Nat->Bool)(f:Str):Prop where p:∀c,ok c=γ->T1 B.G.K (B.G.ca c)/\Au B.G.K (B.G.ca c) f
class Af(B:Bz)(c:Nat)(xs:outParam aE):Prop where p:CF B.G.K (B.G.ca c) xs
class Nb(B:Bz)(x:Str):Prop where p:B.mg x=J
class Co(B:Bz)(x:Str)(d:D):Prop where p:A2 B.G B.mg x d
class Ic(B:Bz)(x:Str)(t:Ty->Option Bool):Prop where p:∃c,Jd B.G c t/\B.mg x=Z (.ref (B.G.ca c))
class Ij(B:Bz)(n:Nat):Prop where p:∀j k,j<n->k<n->B.G.ca j=B.G.ca k->j=k
class OpC(op:Operator)(g:D->D->Option D):Prop where p:∀(X:Cx) (G:Bg),∃r,j? X (cJ op) r/\l? G r g
instance in1:OpC .Mod yB:=⟨λ_ _=>⟨_,Za,Z5⟩⟩
instance in2:OpC .FloorDiv Ec:=⟨λ_ _=>⟨_,V2,Z6⟩⟩
instance in3:OpC .Mult yA:=⟨λ_ _=>⟨_,Y9,Z4⟩⟩
instance in4:OpC .Sub IV:=⟨λ_ _=>⟨_,Y8,Z3⟩⟩
instance in5:OpC .Pow Tj:=⟨λ_ _=>⟨_,Zb,Z7⟩⟩
instance in6:OpC .Add wZ:=⟨λ_ _=>⟨_,Y7,Z2⟩⟩
instance in7:OpC .Add Fe:=⟨λ_ _=>⟨_,Oj,WY⟩⟩
instance in8:OpC .Mult KP:=⟨λ_ _=>⟨_,Oz,Xm⟩⟩
class I?(op:CmpOp)(g:D->D->Option D):Prop where p:∀(X:Cx) (G:Bg),X.K=G.K->X.A.units+64<cLine->∃r,j? X (bw op) r/\l? G r g
instance in9:I? .Eq (fb δ):=⟨λ_ _ h u=>⟨_,aac u h,adq⟩⟩
instance in10:I? .NotEq (fb γ):=⟨λ_ _ h u=>⟨_,aad u h,ads⟩⟩
instance in11:I? .In (m? δ):=⟨λ_ _ h _=>⟨_,aae h,Yj⟩⟩
instance in12:I? .NotIn (m? γ):=⟨λ_ _ h _=>⟨_,Rr h,Yj⟩⟩
instance in13:I? .Is zw:=⟨λ_ _ _ _=>⟨_,Zc,Z9⟩⟩
instance in14:I? .IsNot w6:=⟨λ_ _ _ _=>⟨_,V3,WZ⟩⟩
instance in16:I? .Lt HY:=⟨λ_ _ _ _=>⟨_,acT,adm⟩⟩
instance in17:I? .LtE Ae:=⟨λ_ _ _ _=>⟨_,acU,adn⟩⟩
instance in18:I? .Gt LZ:=⟨λ_ _ _ _=>⟨_,acV,ado⟩⟩
instance in19:I? .GtE Z1:=⟨λ_ _ _ _=>⟨_,acW,adp⟩⟩
instance in20:I? .LtE Tn:=⟨λ_ _ _ _=>⟨_,Rb,Z8⟩⟩
class B1(x:Str)(g:D->Option D):Prop where p:∀(X:Cx) (G:Bg),X.K=G.K->X.n6=γ->∃(id:String) (r:bL->Hp->VK->Prop),wR X (.builtin id) r/\IY G r g/\dW x=Z (.builtin id)
instance in21:B1 "len" wY:=⟨λ_ _ h _=>⟨_,_,Ru h,aaf,qp⟩⟩
instance in22:B1 "all" zY:=⟨λ_ _ h c=>⟨_,_,Rv c h,aah,boot_all⟩⟩
instance in23:B1 "any" Ia:=⟨λ_ _ h c=>⟨_,_,RD c h,aam,boot_any⟩⟩
class KtC(x:Str)(T:outParam String):Prop where p:(∀(X:Cx) (G:Bg) y b,wx T y=Z b->di X.K (y.val G) (.type T)=Z b)/\dW x=Z (.type T)
instance in24:KtC "str" "str" := ⟨λ_ _=>W7,Pv.boot_str⟩
instance in25:KtC "int" "int" := ⟨λ_ _=>Xl,q8⟩
instance in26:KtC "bool" "bool" := ⟨λ_ _=>Ug,Pv.boot_bool⟩
instance in27:KtC "list" "list" := ⟨λ_ _=>TJ,qK⟩
instance in28:KtC "tuple" "tuple" := ⟨λ_ _=>ω,qD⟩
theorem Yn:∀{dds:bj},dds.all xH=γ->uS G H dds (dds.map vD)
 |[],_=>vN
 |d::a,h=>by rw[f9,aY]at h;exact vU (Fd h.1 H) (Yn h.2)
def eqI{c:Sort u}{a b:c}(h:a=b):a=b:=h
def yq(X:Cx)(i:Nat)(x:Str):Bool:=decide (X.N[i]?=Z x)&&(match X.b1.scope.names.lookup x with|some .local=>γ|some .cell=>γ|some .free=>γ|_=>δ)&&!(x==("__debug__" : Str))&&!(x==("__classdict__" : Str))
def z3(X:Cx)(i:Nat)(x:Str):Bool:=decide X.N.Nodup&&decide (X.N[i]?=Z x)&&(match X.b1.scope.names.lookup x with|some .local=>γ|some .cell=>X.fn x|_=>δ)
section
variable{X:Cx}{B:Bz}{k j i n c0:Nat}{x m:Str}{e e' o tg it:Expr}{es:List Expr}{p p2 p3 pos apos:Pos}{f f' f2:FE}{a:FA}{g:D->D->Option D}
def S3(h:yq X i x=γ):PE X (.Name x p) (BY i):=by
 unfold yq at h;simp only[aY,bT,fw]at h;obtain⟨⟨⟨c,b⟩,d⟩,l⟩:=h;refine pv i c ?_ d l;unfold Vis;split at b
 .rename_i e;exact .inl e
 .rename_i e;exact .inr (.inl e)
 .rename_i e;exact .inr (.inr e)
 .cases b
def adD(h:yq X i x=γ):ZE X B (.Name x p) (cV i):=⟨OA (S3 h)⟩
def aaz(h:yq X i x=γ):ZE X B (.Name x p) (Hs i):=⟨adk (S3 h)⟩
def Xr(h:yq X i x=γ):ZN X B (.Name x p) (Kc i):=⟨WT (S3 h)⟩
def Me(h:z3 X i x=γ):X.N.Nodup/\X.N[i]?=Z x/\L2.Loc X.b1.scope x/\(X.fn x=γ\/X.b1.scope.names.lookup x=Z .local):=by
 unfold z3 at h;simp only[aY,bT]at h;obtain⟨⟨c,d⟩,b⟩:=h;unfold L2.Loc;split at b
 .rename_i e;exact⟨c,d,.inl e,.inr e⟩
 .rename_i e;exact⟨c,d,.inr e,.inl b⟩
 .cases b
def pgI(h:z3 X i x=γ):PG X (.Name x p) (AY i):=by obtain⟨b,c,d,l⟩:=Me h;exact Pj b c d l
def aaA(h:z3 X i x=γ)(b:Nat.blt i n=γ):ZG X B (.Name x p) n (gN i):=⟨S8 n (pgI h) (Nat.blt_eq.mp b)⟩
def stW(h:z3 X i x=γ)(q:PE X e t)(r:Wz X e (.Name x p) pos):PS X (.Assign [.Name x p] e pos) (Ex t (AY i)):=by obtain⟨b,c,d,l⟩:=Me h;exact Y1 b c d q r l
def aaB(h:z3 X i x=γ)(b:ZE X B e f)(c:Wz X e (.Name x p) pos):ZS X B (.Assign [.Name x p] e pos) (vd i f):=⟨PJ (stW h b.p c)⟩
def aaC(h:z3 X i x=γ)(b:ZN X B e a)(c:Wz X e (.Name x p) pos):ZS X B (.Assign [.Name x p] e pos) (yz i a):=⟨Na (stW h b.p c)⟩
def aaD(h:z3 X i x=γ)(b:Wz X (.Dict [] [] p2) (.Name x p) pos):ZS X B (.Assign [.Name x p] (.Dict [] [] p2) pos) (Jc i):=⟨TU (stW h MY b)⟩
def aaE [b:OpC q g](h:ZE X B e f)(l:ZE X B e' f'):ZE X B (.BinOp e q e' pos) (c2 g f f'):=by obtain⟨r,c,d⟩:=b.p X B.G;exact⟨ada c d h.p l.p⟩
def aaF [C:Cz X B k](b:ZE X B e f)(c:ZE X B e' f')(d:Iz e'):ZE X B (.Subscript e e' pos) (c2 f? f f'):=⟨adb (ix_X C.K) adt b.p c.p λo i=>congrFun (congrFun d o) i⟩
def Xs [C:Cz X B k](h:yq X i x=γ)(b:ZE X B e' f')(c:Iz e'):ZE X B (.Subscript (.Name x p) e' pos) (Ng i f'):=⟨ZZ (Yd (SW B.G.K C.K) (S3 h) b.p λo i=>congrFun (congrFun c o) i)⟩
def aaG [C:Cz X B k](b:ZE X B e f)(c:ZE X B e' f')(d:Iz e'):ZE X B (.Subscript e e' pos) (c2 Ee f f'):=⟨Xa (MZ C.r) b.p c.p λo i=>congrFun (congrFun d o) i⟩
section
variable{op op':CmpOp}{g':D->D->Option D}
def aaH [b:I? op g][C:Cz X B k](h:ZE X B e f)(l:ZE X B e' f')(q:f7 op e'=δ):ZE X B (.Compare e [op] [e'] pos) (c2 g f f'):=by obtain⟨r,c,d⟩:=b.p X B.G C.K C.r.units;exact⟨ZC c d h.p l.p q⟩
def aaI [b:I? op g][C:Cz X B k](h:ZE X B e f)(l:ZE X B e' f')(q:f7 op e'=δ):ZT X B (.Compare e [op] [e'] pos) (cT (c2 g f f')):=by obtain⟨r,c,d⟩:=b.p X B.G C.K C.r.units;exact⟨Wq c d h.p l.p q⟩
def aaJ [b:I? op g][c:I? op' g'][C:Cz X B k](t:ZE X B e f)(u:ZE X B e' f')(w:ZE X B o f2)(y:lastMarks [op,op'] [e',o]=δ):ZE X B (.Compare e [op,op'] [e',o] pos) (yN g g' f f' f2):=by obtain⟨r,d,h⟩:=b.p X B.G C.K C.r.units;obtain⟨z,l,q⟩:=c.p X B.G C.K C.r.units;exact⟨Tx d l h q t.p u.p w.p y⟩
def aaK [b:I? op g][c:I? op' g'][C:Cz X B k](t:ZE X B e f)(u:ZE X B e' f')(w:ZE X B o f2)(y:lastMarks [op,op'] [e',o]=δ):ZT X B (.Compare e [op,op'] [e',o] pos) (cT (yN g g' f f' f2)):=by obtain⟨r,d,h⟩:=b.p X B.G C.K C.r.units;obtain⟨z,l,q⟩:=c.p X B.G C.K C.r.units;exact⟨Rx d l h q t.p u.p w.p y⟩
end
def aaL(h:ZE X B e f)(b:(λwhole=>isTrue e X.b1 whole)=λwhole=>(do let v<-whole;standAt e.pos;holding [v] (truthy v))):ZT X B e (cT f):=⟨Wr h.p λw=>congrFun b w⟩
def aaM(d:ZT X B e b)(h:ZW X B (.BoolOp .Or (e'::es) pos) c):ZT X B (.BoolOp .Or (e::e'::es) pos) (xM b c):=⟨PW.pt (S0 d.p h.p)⟩
def aaN(d:ZT X B e b)(h:ZW X B (.BoolOp .And (e'::es) pos) c):ZT X B (.BoolOp .And (e::e'::es) pos) (xl b c):=⟨PW.pt (Wu d.p h.p)⟩
def aaO [C:Cz X B k][Q:Co B x d](b:Gz X x)(hd:Dz x):ZE X B (.Name x pos) (cC d):=⟨TC (C.mg▸Q.p) b hd⟩
def aaP [C:Cz X B k][Q:Ff B ok m](c:ZE X B e f)(b:Az X e m):ZE X B (.Attribute e m pos) (c1 (uU ok m) f):=⟨Tc c.p (C.K▸Q.p) b⟩
section
variable(hg:Gz X x)(hd:Dz x)(hs:Sz X e es)(hl:Lz X pos es)
include hg hd
theorem dz [C:Cz X B k][Q:Df B j x d]:∃c,Ed X.prog X.w X.K X.mg X.b? j x c d:=by rw[C.P,C.w,C.K,C.mg,C.b];exact Q.p
theorem aaQ{g:bj->Option bj}[C:Cz X B k][Q:Df B j x (ub B.G g)](b:eT j k=γ):ZN X B (.Call (.Name x p) [] [] pos) (vM g vC):=by obtain⟨c,q⟩:=dz hg hd (X:=X) (Q:=Q);exact⟨Tz q (C.r.mono (eO.mp b)) hg hd⟩
include hs hl
theorem aaR{g:bj->Option D}[C:Cz X B k][Q:Df B j x (fy B.G g)](b:ZA X B (e::es) a)(c:eT j k=γ):ZE X B (.Call (.Name x p) (e::es) [] pos) (uO g a):=by obtain⟨d,q⟩:=dz hg hd (X:=X) (Q:=Q);exact⟨aaj q (C.r.mono (eO.mp c)) b.p hg hd hs hl⟩
theorem aaS{g:bj->Option bj}[C:Cz X B k][Q:Df B j x (ub B.G g)](b:ZA X B (e::es) a)(c:eT j k=γ):ZN X B (.Call (.Name x p) (e::es) [] pos) (vM g a):=by obtain⟨d,q⟩:=dz hg hd (X:=X) (Q:=Q);exact⟨W4 q (C.r.mono (eO.mp c)) b.p hg hd hs hl⟩
theorem aaT{g:bj->bj->Option (D×bj)}[C:Cz X B k][Q:Df B j x (vl B.G g)](d:ZV X e i)(b:ZA X B es a)(c:eT j k=γ):ZE X B (.Call (.Name x p) (e::es) [] pos) (vK g i a):=by obtain⟨h,q⟩:=dz hg hd (X:=X) (Q:=Q);exact⟨W5 q (C.r.mono (eO.mp c)) d.p b.p hg hd hs hl⟩
theorem aaU{g:bj->Option (aE×bj)}{dds:bj}[C:Cz X B k][Q:Kf B j x c0 g dds](d:ZA X B (e::es) a)(h:eT (j+1) k=γ):ZE X B (.Call (.Name x p) (e::es) [] pos) (vG c0 (λc=>g (c++dds)) a):=by obtain⟨l,q⟩:=Q.p;exact⟨W6 (by rw[C.P,C.w,C.mg,C.b];exact q) (λH=>Yn Q.f) (C.r.mono (eO.mp h)) d.p C.K hg hd hs hl⟩
end
def mz{g:Nat->Option (bj->Option D)}[C:Cz X B k][Q:Mf B j m g]:∀c h,g c=Z h->B9 B.G X.prog X.w X.mg X.b? j m c h:=by rw[C.P,C.w,C.mg,C.b];exact Q.p
def aaV{g:Nat->Option (bj->Option D)}{pl:Sem Bool}[C:Cz X B k][Q:Mf B j m g](d:ZE X B o f)(c:eT j k=γ)
  (h:eval (.Call (.Attribute o m apos) [] [] pos) X.b1=(do
   let b<-eval o X.b1
   standAt apos.atName
   let (f,first)<-holding [b] (getMethod b m pl)
   callWith pos f first (bD pos (aA [] X.b1)) (backToKw pos (dY [] X.b1)))):ZE X B (.Call (.Attribute o m apos) [] [] pos) (vg g m f vC):=⟨OF mz (C.r.mono (eO.mp c)) d.p C.K h⟩
def aaW{g:Nat->Option (bj->Option D)}{pl:Sem Bool}[C:Cz X B k][Q:Mf B j m g](l:ZE X B o f)(c:ZA X B (e::es) a)(d:eT j k=γ)(q:Sz X e es)(h:Lz X pos es)
  (t:eval (.Call (.Attribute o m apos) (e::es) [] pos) X.b1=(do
   let b<-eval o X.b1
   standAt apos.atName
   let (f,first)<-holding [b] (getMethod b m pl)
   callWith pos f first (bD pos (aA (e::es) X.b1)) (backToKw pos (dY [] X.b1)))):ZE X B (.Call (.Attribute o m apos) (e::es) [] pos) (vg g m f a):=⟨Ry mz (C.r.mono (eO.mp d)) l.p c.p C.K q h t⟩
section
variable(hg:Gz X x)(hd:Nz x)(hs:S1 X e)
include hg hd hs
theorem cbI{id:String}[C:Cz X B k][N:Nb B x](c:wR X (.builtin id) r)(d:dW x=Z (.builtin id))(b:PA X [e] t):PE X (.Call (.Name x p) [e] [] pos) (tCB r t):=by simp only[aY,bT,fw]at hd;exact BF c hg (C.mg▸N.p) d b hd.1 hd.2 hs O
theorem ctI [C:Cz X B k][N:Nb B x](c:wR X (.type T) r)(d:dW x=Z (.type T))(b:PA X [e] t):PE X (.Call (.Name x p) [e] [] pos) (tCB r t):=by simp only[aY,bT,fw]at hd;exact Q2 c hg (C.mg▸N.p) d b hd.1 hd.2 hs O
theorem aaX{g:D->Option D}[Q:B1 x g][C:Cz X B k][N:Nb B x](l:ZE X B e f):ZE X B (.Call (.Name x p) [e] [] pos) (c1 g f):=by obtain⟨id,r,b,d,h⟩:=Q.p X B.G C.K C.c;exact⟨Tr d (cbI hg hd hs b h (wU l.p yh hs))⟩
end
section
variable(hs:S1 X e)
include hs
theorem aaY [C:Cz X B k][N:Nb B "list"](c:Gz X "list")(b:ZE X B e f):ZN X B (.Call (.Name "list" p) [e] [] pos) (A1 f):=⟨Tu (ctI c (by decide) hs (OE C.K) qK (wU b.p yh hs))⟩
theorem aaZ [C:Cz X B k][N:Nb B "tuple"](c:Gz X "tuple")(b:ZE X B e f):ZE X B (.Call (.Name "tuple" p) [e] [] pos) (Fh f):=⟨Tv (ctI c (by decide) hs (Rw C.K) qD (wU b.p yh hs))⟩
theorem aa0 [C:Cz X B k][N:Nb B "sorted"](c:Gz X "sorted")(b:ZE X B e f):ZN X B (.Call (.Name "sorted" p) [e] [] pos) (Gv f):=⟨NI (cbI c (by decide) hs (Kl C.r.units C.K) mQ (wU b.p yh hs))⟩
theorem aa1 [C:Cz X B k][N:Nb B "sorted"](c:Gz X "sorted")(b:ZE X B e f):ZN X B (.Call (.Name "sorted" p) [e] [] pos) (Gu f):=⟨NG (cbI c (by decide) hs (Kj C.K) mQ (wU b.p yh hs))⟩
theorem aa2 [C:Cz X B k][N:Nb B "range"](c:Gz X "range")(b:ZE X B e f):ZI X B tg (.Call (.Name "range" p) [e] [] pos) (N? f):=⟨OC (QS c (C.mg▸N.p) (wU b.p yh hs) hs)⟩
end
section
variable(hi:Gz X "isinstance")(hg:Gz X x)(hs:aA [e,.Name x p2] X.b1=[(δ,eval e X.b1),(δ,eval (.Name x p2) X.b1)])(hs':S1 X (.Name x p2))
include hi hg hs hs'
theorem aa3 [Q:KtC x T][C:Cz X B k][N:Nb B "isinstance"][d:Nb B x](h:ZE X B e f)(hd:Nz x):ZE X B (.Call (.Name "isinstance" p) [e,.Name x p2] [] pos) (c1 (v3 (wx T)) f):=by
 simp only[aY,bT,fw]at hd;refine⟨PU (c:=.b T) (BF (KO (.b T) (Q.p.1 X B.G) TH C.K) hi (C.mg▸N.p) lY (xj h.p (xj (VV (v:=.ty T) hg (C.mg▸d.p) Q.p.2 O hd.1 hd.2) zW ?_) ?_) (by decide) (by decide) ?_ ?_)⟩
 .exact hs'
 .rw[hs,hs']
 .rw[hs,hs']
 .rw[hs'];rfl
theorem aa4 [Q:Ic B x t][C:Cz X B k][N:Nb B "isinstance"](b:ZE X B e f)(hd:Dz x):ZE X B (.Call (.Name "isinstance" p) [e,.Name x p2] [] pos) (c1 (v3 t) f):=by
 obtain⟨c,d,h⟩:=Q.p;refine⟨PU (c:=.c c) (BF (OH d C.K) hi (C.mg▸N.p) lY (xj b.p (xj (Ih (v:=.ref (B.G.ca c)) hg (C.mg▸h) O hd) zW ?_) ?_) (by decide) (by decide) ?_ ?_)⟩
 .exact hs'
 .rw[hs,hs']
 .rw[hs,hs']
 .rw[hs'];rfl
end
section
variable(hb:Az X o m)(hl:Ez apos pos)(hs:S1 X e)
include hb hl hs
theorem bmI{id:String}[C:Cz X B k](h:mU T)(slot:Slot T m id)(hty:typeOf (.builtin id)=pure (.type "method_descriptor"))(c:MtR X id r)(d:PE X o to)(b:PA X [e] t):PE X (.Call (.Attribute o m apos) [e] [] pos) (tBM B.G.K T r to t):=
 SX B.G.K h slot hty c d b hb (by rw[hs];rfl) hl hs O C.K
end
section
variable(h:yq X i x=γ)(hb:Az X (.Name x p) m)(hl:Ez apos pos)(hs:S1 X e)
include h hb hl hs
theorem aa5 [C:Cz X B k](c:m="append")(b:ZE X B e f):ZE X B (.Call (.Attribute (.Name x p) m apos) [e] [] pos) (AV i f):=by subst c;exact⟨Ro (bmI hb hl hs jI kY pb Ge (S3 h) (wU b.p yh hs))⟩
theorem aa6 [C:Cz X B k](c:m="extend")(b:ZE X B e f):ZE X B (.Call (.Attribute (.Name x p) m apos) [e] [] pos) (Dl i f):=by subst c;exact⟨OJ (bmI hb hl hs jI jC pd (C.K▸OI) (S3 h) (xj b.p zW hs))⟩
end
def aa7 [C:Cz X B k](h:ZE X B e f)(l:ZE X B e' f')(c:Az X e "get")(d:Ez apos pos)(b:S1 X e'):ZE X B (.Call (.Attribute e "get" apos) [e'] [] pos) (c2 CM f f'):=⟨TR (MZ C.r) h.p l.p ⟨c,by rw[b];rfl,d,by rw[b];rfl⟩⟩
def aa8 [C:Cz X B k][Q:Af B c0 l](d:l.contains m=γ)(h:yq X i x=γ)(c:ZE X B e f)(b:Wz X e (.Attribute (.Name x p) m apos) pos):ZS X B (.Assign [.Attribute (.Name x p) m apos] e pos) (vX c0 i m f):=⟨WR (Ze (S3 h) c.p b) (by obtain⟨i,_,e⟩:=kR (kK.1 d);exact C.K▸Q.p.at i (cg.2 ⟨_,e⟩))⟩
def aa9 [C:Cz X B k](h:yq X i x=γ)(b:ZE X B e' f')(d:ZE X B e f)(c:Wz X e (.Subscript (.Name x p) e' apos) pos):ZS X B (.Assign [.Subscript (.Name x p) e' apos] e pos) (zz i f' f):=⟨TV (Wh (MZ C.r) (S3 h) b.p d.p c)⟩
def aba [Q:Ij B n](h:ZE X B e f):ZE X B e (Ef n f):=⟨Xj Q.p h.p⟩
def abb{lo:Option Expr}{b:FO}[C:Cz X B k](d:ZE X B e f)(q:ZO X B lo b)(h:ZO X B l c):ZN X B (.Subscript e (.Slice lo l J p) pos) (EB f b c):=⟨OG (MV (sl_X C.K) d.p q.p h.p)⟩
def abc:ZK X (Z (.Constant (.int y) j pos)) (Z y):=⟨Tw⟩
def abd:ZK X J J:=⟨adu⟩
def abe [C:Cz X B k](h:ZE X B e f):ZI X B tg e (iL f):=⟨Ni (M5 B.G.K h.p C.K)⟩
def abf [C:Cz X B k](h:ZE X B e f):ZI X B tg e (iT f):=⟨WW (Wm B.G.K h.p C.K)⟩
def abg(h:ZE X B e f):ZI X B tg e (iD f):=⟨T8 (Xh h.p)⟩
def abh(h:ZE X B e f):ZI X B tg e (iS f):=⟨Xb (Zu h.p)⟩
section
variable{gg:FG}{gs:bj->aS->Option aS}
def Xt:ZH X B [] n KJ:=⟨WC VY⟩
def Xu(b:ZG X B e n gg)(c:ZH X B es n gs)(d:(b9 (e::es) X.b1).map (·.2)=assign e X.b1::(b9 es X.b1).map (·.2)):ZH X B (e::es) n (yM gg gs):=⟨S9 (Sk b.p c.p d)⟩
def Xv [C:Cz X B k](h:ZH X B es n gs)(b:(b9 es X.b1).length=l)(d:(b9 es X.b1).findIdx? (·.1)=J):ZG X B (.Tuple es q pos) n (gT gs l):=⟨WE (Wn B.G.K C.c h.p b d C.K)⟩
end
def tgN:Expr->aE
 |.Name x _=>[x]
 |.Tuple es _ _=>es.filterMap λe=>match e with|.Name x _=>Z x|_=>J
 |_=>[]
def cpN(X:Cx)(tg:Expr)(e?:List Nat):aE:=tgN tg++e?.map λj=>X.N.getD j ""
instance inCz [C:Cz X B k]{d:aE}{q:cK}{h:List (Str×Addr)}{A:Addr}{l:List Addr}{s:ae}{H:Hp}:Cz (xa X d q h A l s H) B k:=⟨C.P,C.w,C.K,C.mg,C.b,C.c,C.r⟩
def cpOk(X:Cx)(N':aE)(sc:cK)(n:Nat)(e?:List Nat):Bool:=decide e?.Nodup&&decide (sc.kind=.function)&&(sc.names.all λy=>y.2 != .cell)&&(sc.names.all λy=>y.2 != .local||sc.names.lookup y.1==Z .local)&&(sc.names.all λy=>y.2 != .free||(X.b1.kindOf y.1==Z .cell||X.b1.kindOf y.1==Z .free))&&decide (N'.length=n+e?.length)&&decide ((N'.drop n).map Z=e?.map λj=>X.N[j]?)&&((N'.drop n).all λx=>sc.names.lookup x==Z .free)
section
variable{sc:cK}{e?:List Nat}{ifs:List Expr}{gg:FG}{ft:FT}{s:FA}
 (h0:cpOk X (cpN X tg e?) sc n e?=γ) (hs:Fz X it) (hi:ZI X B tg it s)
 (h1:∀(cl:List (Str×Addr)) (A:Addr) (fp:List Addr) (s:ae) (H:Hp),ZG (xa X (cpN X tg e?) sc cl A fp s H) B tg n gg)
 (h2:∀(cl:List (Str×Addr)) (A:Addr) (fp:List Addr) (s:ae) (H:Hp),ZF (xa X (cpN X tg e?) sc cl A fp s H) B ifs ft)
 (h3:∀(cl:List (Str×Addr)) (A:Addr) (fp:List Addr) (s:ae) (H:Hp),ZE (xa X (cpN X tg e?) sc cl A fp s H) B e f)
include h0 hs hi h1 h2 h3
theorem abj [C:Cz X B k]:ZN X B (.ListComp e [⟨tg,it,ifs,0⟩] sc pos) (u5 n e? s gg ft f):=by unfold cpOk at h0;simp only[aY,bT]at h0;obtain⟨⟨⟨⟨⟨⟨⟨a1,b⟩,d⟩,h⟩,l⟩,q⟩,r⟩,t⟩:=h0;exact⟨Tg a1 (Wl (N':=cpN X tg e?) C.c hi.p (λcl A fp s H=>⟨(h1 cl A fp s H).p,(h2 cl A fp s H).p,(h3 cl A fp s H).p⟩) b d h l q r t λx=>congrFun hs x)⟩
theorem cpW [C:Cz X B k](h:z3 X i x=γ)(F:dG (.ListComp e [⟨tg,it,ifs,0⟩] sc pos) (Z (.Name x p)) apos.line X.b1=pure γ):PS X (.Assign [.Name x p] (.ListComp e [⟨tg,it,ifs,0⟩] sc pos) apos) (Ex (G0 (XC B.G s) (tFG B.G n gg) (pa B.G ft) (tF B.G f) n e?) (AY i))/\e?.Nodup:=by unfold cpOk at h0;simp only[aY,bT]at h0;obtain⟨⟨⟨⟨⟨⟨⟨a1,b⟩,d⟩,l⟩,q⟩,r⟩,t⟩,u⟩:=h0;obtain⟨w,y,z,E⟩:=Me h;exact⟨W8 (N':=cpN X tg e?) C.c w y z hi.p (λcl A fp s H=>⟨(h1 cl A fp s H).p,(h2 cl A fp s H).p,(h3 cl A fp s H).p⟩) b d l q r t u (λx=>congrFun hs x) F E,a1⟩
theorem abk [C:Cz X B k](h:z3 X i x=γ)(b:dG (.ListComp e [⟨tg,it,ifs,0⟩] sc pos) (Z (.Name x p)) apos.line X.b1=pure γ):ZS X B (.Assign [.Name x p] (.ListComp e [⟨tg,it,ifs,0⟩] sc pos) apos) (vd i (cL (u5 n e? s gg ft f))):=by have z:=cpW (k:=k) h0 hs hi h1 h2 h3 h b;exact⟨TM z.2 z.1⟩
theorem abl [C:Cz X B k](h:z3 X i x=γ)(b:dG (.ListComp e [⟨tg,it,ifs,0⟩] sc pos) (Z (.Name x p)) apos.line X.b1=pure γ):ZS X B (.Assign [.Name x p] (.ListComp e [⟨tg,it,ifs,0⟩] sc pos) apos) (yz i (u5 n e? s gg ft f)):=by have z:=cpW (k:=k) h0 hs hi h1 h2 h3 h b;exact⟨RB z.2 z.1⟩
end
section
variable{st:Stmt}{sts:List Stmt}{fs fs':FS}{ft:FT}{a':FA}{z1:Nat}
def adE(b:ZE X B e f)(c:ZA X B es a)(d:Sz X e es):ZA X B (e::es) (ax f a):=⟨wU b.p c.p d⟩
def adF:ZA X B [] vC:=⟨yh⟩
def abm(h:yq X i x=γ):ZV X (.Name x p) i:=⟨S3 h⟩
def abn(h:ZN X B e a):ZE X B e (cL a):=⟨ZQ h.p⟩
def adG:ZE X B (.Constant (.str y) j pos) (cC (.str y)):=⟨Zy⟩
def adH:ZE X B (.Constant (.int y) j pos) (cC (.int y)):=⟨Zx⟩
def adI:ZE X B (.Constant (.bool y) j pos) (cC (.I y)):=⟨ac9⟩
def adJ:ZE X B (.Constant .none j pos) (cC .E):=⟨Zz⟩
def P9(b:ZS X B st fs)(c:ZB X B sts fs'):ZB X B (st::sts) (uQ fs fs'):=⟨S5 b.p c.p⟩
def adK(b:ZS X B st fs):ZB X B [st] fs:=⟨WA b.p⟩
def adL:ZB X B [] u4:=⟨Wx⟩
def abo(h:ZE X B e f):ZS X B (.Return (Z e) pos) (uV f):=⟨WB h.p⟩
def abp(h:ZN X B e a):ZS X B (.Return (Z e) pos) (wD a):=⟨S6 h.p⟩
def abq(h:ZE X B e f)(b:dG e J pos.line X.b1=pure δ):ZS X B (.Expr e pos) (vJ f):=⟨S7 h.p b⟩
def abr(h:ZT X B e ft)(b:ZB X B sts fs)(c:ZB X B sts' fs'):ZS X B (.If e sts sts' pos) (fm ft fs fs'):=⟨ZU h.p b.p c.p⟩
def abt(h:ZA X B es a):ZN X B (.List es pos) (vx a):=⟨Wv h.p⟩
def abu(h:ZA X B es a):ZE X B (.Tuple es z1 pos) (vE a):=⟨ZP h.p⟩
def abv(b:ZE X B e f)(c:ZE X B e' f'):ZN X B (.BinOp e .Add e' pos) (xx f f'):=⟨W0 b.p c.p⟩
def abw [C:Cz X B k](b:ZE X B e f)(c:ZE X B e' f'):ZE X B (.BinOp e .Add e' pos) (G3 f f'):=⟨Xc b.p c.p C.K⟩
def abx(b:ZE X B e f)(c:ZE X B (.BoolOp .And (e'::es) pos) f'):ZE X B (.BoolOp .And (e::e'::es) pos) (wa f f'):=⟨ZL b.p c.p⟩
def aby(b:ZE X B e f)(c:ZE X B (.BoolOp .Or (e'::es) pos) f'):ZE X B (.BoolOp .Or (e::e'::es) pos) (S' f f'):=⟨adf b.p c.p⟩
def abz{c}(b:ZE X B e f):ZE X B (.BoolOp c [e] pos) f:=⟨ZJ b.p⟩
def abA(b:ZE X B e f):ZE X B (.UnaryOp .Not e pos) (D9 f):=⟨ZM b.p⟩
def abB(b:ZT X B e ft):ZT X B (.UnaryOp .Not e pos) (wt ft):=⟨Ws b.p⟩
def abC(h:ZT X B o ft)(b:ZE X B e f)(c:ZE X B e' f'):ZE X B (.IfExp o e e' pos) (y? ft f f'):=⟨adg h.p b.p c.p⟩
def adM(h:ZT X B e ft):ZF X B [e] ft:=⟨Wk h.p⟩
def adN:ZF X B [] vP:=⟨Ti⟩
def abD(h:ZE X B e f):ZE X B e (AW f):=⟨aai h.p⟩
def abE(h:ZT X B e ft):ZT X B e (Ad ft):=⟨W3 h.p⟩
def abF(h:ZE X B e f):ZO X B (Z e) (V' f):=⟨aao h.p⟩
def abG:ZO X B J oNo:=⟨aan⟩
def abH(c:ZT X B e ft)(d:ZW X B (.BoolOp .Or (e'::es) pos) b):ZW X B (.BoolOp .Or (e::e'::es) pos) (xM ft b):=⟨S0 c.p d.p⟩
def abI(h:ZT X B e ft):ZW X B (.BoolOp .Or [e] pos) ft:=⟨Wt h.p⟩
def abJ(h:ZT X B e ft):ZW X B (.BoolOp .And [e] pos) ft:=⟨SZ h.p⟩
end
def abK [C:Cz X B k](r:jX (model X.prog X.w) X.A X.b1 X.xe)(u:X.N.length=n)(q:ZI X B tg it s)(l:ZG X B tg n d)(h:ZB X B body b)(t:Fz X it):ZS X B (.For tg it body [] pos) (yb s d b):=⟨WX (Sr r C.c q.p l.p h.p λx=>congrFun t x)⟩
def abL(l:jX (model X.prog X.w) X.A X.b1 X.xe)(h:ZT X B e c)(d:ZB X B body b):ZS X B (.While e body [] pos) (whL c b n):=⟨Rq n (So l h.p d.p)⟩
end
end L4
namespace L4
open PySem PySem.Spec PyProof.Rows L2 L3
open PySem.W (fnOf)
def S2(st:Stmt):aE:=(vw st).names.filterMap λy=>match y.2 with|.local=>Z y.1|.cell=>Z y.1|_=>J
def psO(st:Stmt):aE:=(za st).args.map (·.arg)
def okO(N a:aE)(st:Stmt)(b n:Nat):Bool:=decide ((vw st).kind=.function)&&(vw st).isCoroutine==δ&&(vw st).isGenerator==δ&&decide N.Nodup&&decide (N.take a.length=a)&&(a.all λx=>match (vw st).names.lookup x with|some .local=>γ|some .cell=>γ|_=>δ)&&((vw st).names.all λy=>y.2 != .free)&&decide (a.length=b)&&decide (N.length=n)
def yr{st:Stmt}(h:okO N ps st np n=γ):xK N ps (vw st)/\ps.length=np/\N.length=n:=by
 unfold okO at h;simp only[aY,bT,beq_iff_eq]at h;obtain⟨⟨⟨⟨⟨⟨⟨⟨a,b⟩,c⟩,d⟩,f⟩,i⟩,j⟩,l⟩,m⟩:=h;refine⟨⟨a,b,c,d,f,λx o=>?_,λy p e=>?_⟩,l,m⟩
 .have z:=aQ.1 i x o;split at z
  .rename_i e;exact .inl e
  .rename_i e;exact .inr e
  .cases z
 .have z:=aQ.1 j y p;rw[e]at z;exact aq z (by decide)
section
variable{B:Bz}[Y:Yb B]{x m qual:Str}{st s0:Stmt}{l:List Stmt}{k c np n:Nat}{b:FS}{p:Str}{ps xs:aE}{N:aE}
abbrev μ(B:Bz)(N:aE)(qual:Str)(st:Stmt)(l:List Stmt)(k:Nat)(b:FS):Prop:=∀{f:Addr} {cdv:ab} {A:aJ} {da:List Env} {s:ae} {H:Hp} {E:XK} [Cz (G2 B.P B.w B.G.K B.mg B.b? N qual st f cdv A da s H E) B k],ZB (G2 B.P B.w B.G.K B.mg B.b? N qual st f cdv A da s H E) B l b
omit Y in
def μ.ok(h:μ B N qual st l k b)(a:vY st=l):Bdy B.P B.w B.G.K B.mg B.b? N qual st k (mu B.G b):=λf cdv A da s H E d=>by subst a;exact(@h f cdv A da s H E ⟨O,O,O,O,O,O,d⟩).p
def gd(d:g=fc np n b)(q:GD B.G.K x st)(e:vY st=s0::l)(body:μ B (S2 st) x st (s0::l) k b)(S:okO (S2 st) (psO st) st np n=γ:=by kernel_rfl)(a:ε x x st (psO st):=by (repeat intro _);rfl):Df B (k+1) x (fy B.G g):=
 ⟨_,gF d Y.y q (yr S).1 (body.ok e) (yr S).2.1 (yr S).2.2 a⟩
def gF5(N:aE)(d:g=fc np n b)(q:GD B.G.K x st)(e:vY st=s0::l)(body:μ B N x st (s0::l) k b)(S:okO N (psO st) st np n=γ:=by kernel_rfl)(a:ε x x st (psO st):=by (repeat intro _);rfl):Df B (k+1) x (fy B.G g):=
 ⟨_,gF d Y.y q (yr S).1 (body.ok e) (yr S).2.1 (yr S).2.2 a⟩
def Rn(d:g=xr np n b)(q:GD B.G.K x st)(e:vY st=s0::l)(body:μ B (S2 st) x st (s0::l) k b)(S:okO (S2 st) (psO st) st np n=γ:=by kernel_rfl)(a:ε x x st (psO st):=by (repeat intro _);rfl):Df B (k+1) x (ub B.G g):=
 ⟨_,gN' d Y.y q (yr S).1 (body.ok e) (yr S).2.1 (yr S).2.2 a⟩
def gM4(d:g=u6 np n b)(q:GD B.G.K x st)(e:vY st=s0::l)(f:psO st=p::ps)(body:μ B (S2 st) x st (s0::l) k b)(S:okO (S2 st) (p::ps) st (np+1) n=γ:=by kernel_rfl)(a:ε x x st (p::ps):=by (repeat intro _);rfl):Df B (k+1) x (vl B.G g):=
 ⟨_,gM d Y.y q (yr S).1 (body.ok e) (iW (yr S).2.1) (yr S).2.2 a⟩
theorem r?(C:CF B.G.K (B.G.ca c) xs)(h:g=fc np n b)(q:GM B.G.K (B.G.ca c) m qual st)(j:vY st=s0::l)(body:μ B (S2 st) qual st (s0::l) k b)(S:okO (S2 st) (psO st) st np n=γ:=by kernel_rfl)(d:ε m qual st (psO st):=by (repeat intro _);rfl):B9 B.G B.P B.w B.mg B.b? (k+1) m c g:=by obtain⟨f,e,a,i,F⟩:=q;exact⟨f,e,_,C.ci.cl,⟨a,i,F.kp⟩,d.ok F,TB h (yr S).2.1 (yr S).2.2 F (yr S).1 (body.ok j f)⟩
def gI4(C:CF B.G.K (B.G.ca c) xs)(a:i8 B.G.K bf x=Z (Z (.ref (B.G.ca c))))(e:g=xo c np n b)(q:GM B.G.K (B.G.ca c) "__init__" qual st)(f:vY st=s0::l)(h:psO st=p::ps)(body:μ B (S2 st) qual st (s0::l) k b)(S:okO (S2 st) (p::ps) st (np+1) n=γ:=by kernel_rfl)(d:ε "__init__" qual st (p::ps):=by (repeat intro _);rfl):Kf B (k+1) x c g []:=
 ⟨⟨_,gI e Y.y C a q (yr S).1 (body.ok f) (iW (yr S).2.1) (yr S).2.2 d⟩,O⟩
def gJ4{dds:bj}(C:CF B.G.K (B.G.ca c) xs)(a:i8 B.G.K bf x=Z (Z (.ref (B.G.ca c))))(t:g=xo c np n b)(q:GJ B.G.K (B.G.ca c) qual st (dds.map vD))(u:vY st=s0::l)(z:psO st=p::ps)(body:μ B (S2 st) qual st (s0::l) k b)(j:Nat)(S:okO (S2 st) (p::ps) st (np+1) n=γ:=by kernel_rfl)(e:dds.all xH=γ:=by rfl)
  (o:OT (dds.map vD).length λdl=>OT ((p::ps).length - ((dds.map vD).drop j).length) λf=>∀(T:Addr) (kV doc w:ab) (i:Option Addr) (cdv r:ab),∃k,bindArgs (fnOf "__init__" qual (za st) (vY st) (vw st) (.ref T) kV doc w i cdv r) ⟨f,[]⟩=seqItems? (.ref T)>>=k/\k (Z dl.toArray)=pure ((p::ps).zip (f++dl.drop j)):=by (repeat intro _);exact⟨_,O,O⟩):Kf B (k+1) x c g (dds.drop j):=
 ⟨⟨_,by rw[mi];exact gJ t Y.y C a q (yr S).1 (body.ok u) j (iW (yr S).2.1) (yr S).2.2 o⟩,by
  rw[aQ]at e ⊢;exact λd h=>e d (oJ h)⟩
def Dn(n:Nat)(a:Nat->Addr):∀k,k<n->((aZ n).map a).getD k 0=a k:=λk h=>by rw[cY,bB,oT h];rfl
def injR{n:Nat}{a:Nat->Addr}(h:decide ((aZ n).map a).Nodup=γ):∀j k,j<n->k<n->a j=a k->j=k:=λj k d f e=>by rw[<-Dn n a j d,<- Dn n a k f]at e;exact aay (bF h) (by simpa using d) (by simpa using f) e
def Cd:Nat->(Nat->Prop)->Prop
 |0,_=>True
 |n+1,Q=>Q 0/\Cd n λk=>Q (k+1)
theorem Cd.at:∀{n:Nat} {Q:Nat->Prop},Cd n Q->∀k,k<n->Q k
 |_+1,_,h,0,_=>h.1
 |_+1,_,h,k+1,a=>Cd.at (Q:=λk=>_) h.2 k (Nat.lt_of_succ_lt_succ a)
end
section
variable{X:Cx}{B:Bz}{k j i n:Nat}{x y:Str}{e e' tg:Expr}{es:List Expr}{p p2 p3 pos apos:Pos}{f f':FE}{a:FA}{st:Stmt}{sts:List Stmt}{fs fs':FS}{ft:FT}
def abM [C:Cz X B k](m:ZE X B e f)(o:ZE X B e' f')(q:ZE X B b d)(h:Az X e "get")(l:Ez apos pos)(c:aA [e',b] X.b1=[(δ,eval e' X.b1),(δ,eval b X.b1)]):ZE X B (.Call (.Attribute e "get" apos) [e',b] [] pos) (KQ f f' d):=⟨TX (MZ C.r) m.p o.p q.p ⟨h,by rw[c];rfl,l,by rw[c];rfl⟩⟩
def abN(o:X.N.length=n)(d:ZE X B e f)(h:ZG X B tg n b)(l:swapsWithSole [tg] e pos.line X.b1=pure δ)(m:swappedStores [tg] e X.b1=pure J)(c:(b9 [tg] X.b1).map (·.2)=[assign tg X.b1]):ZS X B (.Assign [tg] e pos) (Kb f b):=⟨WG (Sm d.p h.p l m c)⟩
def abO [C:Cz X B k][N:Nb B "int"](d:Gz X "int")(b:S1 X e)(c:ZE X B e f):ZE X B (.Call (.Name "int" p) [e] [] pos) (c1 IZ f):=⟨Tr aag (ctI d (by decide) b QX q8 (wU c.p yh b))⟩
end
end L4
namespace L4
open PySem PySem.Spec PyProof.Rows L2 L3
def Km(f:FE)(lo c:Option Int):FE:=λd=>match f d with
 |some (.d? a,b)=>if HT.j0 a.length 0 lo=0/\HT.j0 a.length a.length c=a.length then J else Z (.d? (ro a lo c),b)
 |_=>J
section
variable{X:Cx}{G:Bg}
def RR{lo:Option Int}(h:PE X e (tSl (Zg G.K) (tF G f) (tO lo) (tO t))):PE X e (tF G (Km f lo t)):=PE.en h λC H Q q=>by
 obtain⟨F,w,j,A,x,R,e,k⟩:=q;unfold Km at e;split at e
 .rename_i B y m;split at e
  .cases e
  .rename_i i;cases e;refine⟨F,w,j,_,_,R,m,λv z l s b r=>?_⟩;unfold cb at r;obtain⟨a,u,rfl,o,d⟩:=r;rw[uX d]at i;exact⟨a,u,O,ij.mono b.sub o,i,λp c=>k _ _ _ (s.t (vy (b.f3 c) _)) (b.O' c _) (E5 (ij.of ve) (uS.mono (vy (b.f3 c) _) _ _ (Np d)))⟩
 .cases e
def sl_T(hK:X.K=G.K:=by rfl):SlR X (Zg G.K):=by rw[<-hK];exact Zh
end
section
variable{X:Cx}{B:Bz}{k:Nat}{e:Expr}{f:FE}{p pos:Pos}
def abP{lo:Option Expr}[C:Cz X B k](a:ZE X B e f)(d:ZK X lo l)(b:ZK X c h):ZE X B (.Subscript e (.Slice lo c J p) pos) (Km f l h):=⟨RR (MV (sl_T C.K) a.p d.p b.p)⟩
end
theorem NJ{f:Type}[DecidableEq f]:∀{l L:List f},l.Nodup->(∀x∈l,x∈L)->l.length<=L.length
 |[],L,_,_=>cp _
 |a::l,L,i,h=>by have c:=h a aX;have b:=dA.1 i;have:=NJ (l:=l) (L:=L.erase a) b.2 λx d=>(oK (λe:x=a=>b.1 (by rw[<-e];exact d))).2 (h x (ba _ d));rw[nZ c]at this;have:=jx c;rw[aM];omega
structure Tb(t:bC)(m n:Nat):Prop where
 mask:t.mask=m
 dm:t.dummies=#[]
 pl:t.place.size=n
section
variable{t:bC}{m n:Nat}
theorem Tb.slot(T:Tb t m n)(j:Nat):(∃i,t.slot j=.live i/\t.place[i]?=Z j)\/t.slot j=.empty:=by
 unfold SetTable.slot;by_cases h:(t.place[dR t.place j]?==Z j)=γ
 .left;simp only[h,if_true];exact⟨_,O,gr h⟩
 .right;rw[pW]at h;rw[T.dm];simp[h,qL]
def Tb.free(T:Tb t m n)(h:n<=m):∃r,r<=m/\t.slot r=.empty:=by
 apply nX;intro no;have:(aZ (m+1)).length<=t.place.toList.length:=NJ pX λr a=>by
  rcases T.slot r with ⟨i,_,e⟩|e
  .rw[<-iz]at e;exact cj e
  .exact aq ⟨r,by have:=bN.1 a;omega,e⟩ no
 rw[cH,bM,T.pl]at this;omega
def rz(t:bC):Nat->fI->Prop
 |0,_=>False
 |f+1,p=>t.slot p.j=.empty\/rz t f (t.advance p)
theorem rz.mono:∀{f a:Nat} {p:fI},rz t f p->f<=a->rz t a p
 |0,_,_,h,_=>h.elim
 |f+1,0,_,_,h=>aq h (by omega)
 |f+1,a+1,p,h,b=>h.imp id λh=>h.mono (by omega)
def rs(m i q:Nat):fI:=⟨i,fH m i - i,i,q,J⟩
def abQ(m i:Nat):fH m i - i<=9:=by unfold fH;split<;>omega
theorem rz.run(T:Tb t m n)(h:rz t f (rs m ((i * 5+1+q / 32) % (m+1)) (q / 32))):∀(k j:Nat),rz t (f+k+1) ⟨j,k,i,q,J⟩
 |0,j=>.inr (by
   have e:t.advance ⟨j,0,i,q,J⟩=rs m ((i * 5+1+q / 32) % (m+1)) (q / 32):=by unfold lC SetTable.leap;rw[T.mask];rfl
   rw[e];exact h)
 |k+1,j=>.inr (by
   have e:t.advance ⟨j,k+1,i,q,J⟩=⟨j+1,k,i,q,J⟩:=by unfold lC;rw[aj (mI k)];rfl
   rw[e];exact rz.run T h k (j+1))
def rz.leap(T:Tb t m n)(h:rz t f (rs m ((i * 5+1+q / 32) % (m+1)) (q / 32))):rz t (f+10) (rs m i q):=
 (rz.run T h (fH m i - i) i).mono (by have:=abQ m i;omega)
def orb(m:Nat):Nat->Nat->List Nat
 |0,_=>[]
 |k+1,i=>i::orb m k ((i * 5+1) % (m+1))
theorem rz.orb(T:Tb t m n)(a:t.slot r=.empty):∀(k i:Nat),r∈orb m k i->rz t (10 * k) (rs m i 0)
 |0,i,h=>by cases h
 |k+1,i,h=>by
  rcases aO.1 h with e|h
  .exact rz.mono (f:=1) (.inl (by rw[e]at a;exact a)) (by omega)
  .have:=rz.leap T (q:=0) (i:=i) (rz.orb T a k _ h);exact this.mono (by omega)
def Qa(a:m=7\/m=31)(b:i<=m)(c:r<=m):r∈orb m (m+1) i:=by
 have h:∀m∈[7,31],((aZ (m+1)).all λi=>(aZ (m+1)).all λr=>(orb m (m+1) i).contains r)=γ:=by decide +kernel
 have:=aQ.1 (aQ.1 (h m (by rcases a with rfl|rfl<;>simp)) i (bN.2 (by omega))) r (bN.2 (by omega));exact kK.1 this
theorem rz.all(T:Tb t m n)(c:m=7\/m=31)(d:n<=m):∀(k i q:Nat),i<=m->q<32 ^ k->rz t (10 * (k+(m+1))) (rs m i q)
 |0,i,q,b,a=>by
  obtain⟨r,f,e⟩:=T.free d;have h:q=0:=by simpa using a
  rw[h,mr];exact rz.orb T e _ _ (Qa c b f)
 |k+1,i,q,b,a=>by have:=rz.leap T (rz.all T c d k ((i * 5+1+q / 32) % (m+1)) (q / 32) (pC (gq _ (mI m))) (by rw[qM]at a;omega));exact this.mono (by omega)
def rz.start(T:Tb t m n)(b:m=7\/m=31)(c:n<=m)(h:Int):rz t (10 * (m+14)) (t.probeStart h):=by
 have a:cM h<32 ^ 13:=by unfold cM;omega
 have:=rz.all T b c 13 (cM h % (m+1)) (cM h) (pC (gq _ (mI m))) a;have e:t.probeStart h=rs m (cM h % (m+1)) (cM h):=by unfold SetTable.probeStart;rw[T.mask];rfl
 rw[e];exact this.mono (by omega)
def Ut{p:fI}(h:p.dummy=J):(t.advance p).dummy=J:=by unfold lC;split<;>exact h
theorem Uu(T:Tb t m n)(F:Nat->Int)(h:Int):∀(f:Nat) (p:fI),p.dummy=J->rz t f p->∀g,f<=g->(∃j,t.slot j=.empty/\iK t F h g p=Z (.empty j J))\/
  ∃j i next c,c<f/\t.slot j=.live i/\t.place[i]?=Z j/\F i=h/\iK t F h g p=Z (.candidate j i next)/\next.dummy=J/\rz t c next
 |0,p,_,a,g,_=>a.elim
 |f+1,p,hd,a,0,o=>aq o (by omega)
 |f+1,p,hd,a,g+1,o=>by
  unfold iK;rcases T.slot p.j with ⟨i,b,q⟩|b
  .have a:rz t f (t.advance p):=a.resolve_left λe=>by rw[b]at e;cases e
   rw[b];dsimp only;by_cases d:F i=h
   .right;exact⟨p.j,i,t.advance p,f,dy f,b,q,d,by rw[aj (by rw[d];simp)],Ut hd,a⟩
   .rw[ao (by simpa using d)];rcases Uu T F h f (t.advance p) (Ut hd) a g (by omega)with l|⟨j,w,x,c,l,r,u⟩
    .exact .inl l
    .exact .inr ⟨j,w,x,c,by omega,r,u⟩
  .left;rw[b];exact⟨p.j,b,by rw[hd]⟩
end
def abR(e:∀i,F i=F' i)(g:Nat)(p:fI):iK t F h g p=iK t F' h g p:=by obtain rfl:F=F':=funext e;rfl
section
variable{prog:aH}{w:az}{A:aJ}{E:ab->ae->Prop}{s:ae}
def Jn(b:∀v∈l,∃k a,v=.ref a/\TK prog w s.heap k a)(f:TK prog w s.heap j i)(h:Q δ s):ah (model prog w) A (searchCouldBeSeen (.ref i) l) Q E s:=by
 unfold searchCouldBeSeen;refine af ?_;show ah _ _ (forIn l _ _) _ _ s;refine lu _ (λey r c=>r=(J,())/\c=s/\∀v∈ey,∃k a,v=.ref a/\TK prog w s.heap k a) _ ?_ ?_ _ _ ⟨O,O,b⟩
 .rintro v ey r c ⟨rfl,rfl,hall⟩;obtain⟨k,a1,rfl,b⟩:=hall v aX;have e:∀v∈ey,∃k a,v=Value.ref a/\TK prog w c.heap k a:=λu d=>hall u (ba _ d);dsimp only;split
  .exact ar ⟨O,O,e⟩
  .refine af (oA f ?_);refine af (oA b ?_);refine af (P2 f ?_);refine af (P2 b ?_);exact ar ⟨O,O,e⟩
 .rintro r c ⟨rfl,rfl,_⟩;exact ar h
structure Els(prog:aH)(w:az)(h:Heap)(L:List (List fh×Addr))(es:Array (Int×ab)):Prop where
 tk:∀q∈L,TK prog w h q.1 q.2
 p:(es.toList.map bI).Perm (L.map λq=>Value.ref q.2)
variable{L:List (List fh×Addr)}{es:Array (Int×ab)}{t:bC}{m n ep:Nat}{S a2:Addr}{k2:List fh}{o:Obj}{h:Int}
theorem NK(G:A.units<cLine)(T:Tb t m n)(F:m=7\/m=31)(c:t.fits es.size=γ)(l:Els prog w s.heap L es)(B:TK prog w s.heap k2 a2)(H:k2∉L.map cQ)
  (z:s.heap.get? S=Z o) (hd:o.data=.set es ep t) (hQ:∀j,t.slot j=.empty->Q (.free j δ) s):∀(fuel f:Nat) (st:Option fI),f<fuel->f<=10 * gX m->(st.getD (t.probeStart h)).dummy=J->rz t f (st.getD (t.probeStart h))->
   ah (model prog w) A (setSearchFrom S (.ref a2) h γ fuel st) Q E s
 |0,f,st,C,_,_,_=>aq C (by omega)
 |fuel+1,f,st,C,hg,hdm,b=>by
  have sz:es.size=n:=by unfold iQ at c;rw[aY,beq_iff_eq,T.pl]at c;exact c.1.symm
  unfold setSearchFrom;refine af (dg z hd c ?_);dsimp only;rw[ao (by unfold SetTable.gaveWay;rw[T.mask];rcases F with rfl|rfl<;>decide)];unfold SetTable.probe;rw[abR (F':=λi=>(es[i]?.map (·.1)).getD 0),T.mask]
  rotate_left
  .intro i;rfl
  rcases Uu T (λi=>(es[i]?.map (·.1)).getD 0) h f _ hdm b (10 * gX m) hg with ⟨j,M,u⟩|⟨j,i,I,N,h1,R,U,h4,W,X,Y⟩
  .rw[u];exact ar (hQ j M)
  .rw[W];dsimp only;have hi:i<es.size:=by rw[sz,<- T.pl];exact(nU.1 U).1
   obtain⟨⟨P,y⟩,d⟩:∃e,es[i]?=Z e:=⟨es[i],jq hi⟩;have my:y∈es.toList.map bI:=au.2 ⟨(P,y),by rw[<-iz]at d;exact cj d,O⟩;obtain⟨q,r,rfl⟩:=au.1 (l.p.mem_iff.1 my);have t1:=l.tk q r;have nk:q.1≠k2:=λe=>H (au.2 ⟨q,r,e⟩);have si:t.sameMemory t.moves m=Z γ:=by unfold SetTable.sameMemory;simp
   have ey:ah (model prog w) A (setSearchFrom S (.ref a2) h γ fuel (Z I)) Q E s:=NK G T F c l B H z hd hQ fuel N (Z I) (by omega) (by omega) X Y;have sb:∀v∈dH (λx:Int×ab=>x.snd) (Array.filter (λx=>x.fst==h) es).toList,∃k a,v=Value.ref a/\TK prog w s.heap k a:=λv hv=>by
    obtain⟨e,b,rfl⟩:=au.1 hv;have b:e∈es.toList:=by rw[Array.toList_filter]at b;exact(aW.1 b).1
    obtain⟨q,r,u⟩:=au.1 (l.p.mem_iff.1 (au.2 ⟨e,b,O⟩));exact⟨q.1,q.2,u.symm,l.tk q r⟩
   cases hb:t.led;refine af (Jn sb B ?_)
   all_goals
    rw[d];refine af (bP (wpAny_eqBool_tuple G t1 B ?_));refine af (dg z hd c ?_);rw[aT nk];dsimp only;rw[ao (by decide),si];dsimp only;rw[aj O,R];dsimp only;rw[d];refine af (wpAny_isSame_ref_self ?_);refine af (ar ?_);exact ey
end
def Nn(ow:Array (Option Nat))(j:Nat):Prop:=(ow.getD j (Z 0)).isNone=γ
section
variable{ow:Array (Option Nat)}
def abS(i:Nat):0<fH 31 i+1 - i:=by unfold fH;split<;>omega
def K1:(∃j,Nn ow j/\eB 31 ow (f+1) i q=Z j)\/(¬Nn ow i/\eB 31 ow (f+1) i q=eB 31 ow f ((i * 5+1+q / 32) % 32) (q / 32)):=by
 have a:eB 31 ow (f+1) i q=match (aZ (fH 31 i+1 - i)).find? λk=>(ow.getD (i+k) (Z 0)).isNone with
  |some k=>Z (i+k)
  |none=>eB 31 ow f ((i * 5+1+q / 32) % 32) (q / 32):=rfl
 rw[a];cases e:(aZ (fH 31 i+1 - i)).find? λk=>(ow.getD (i+k) (Z 0)).isNone with
 |some k=>exact .inl ⟨i+k,qc (p:=λk=>(ow.getD (i+k) (Z 0)).isNone) e,O⟩
 |none=>refine .inr ⟨λh=>?_,O⟩;have:=pe.1 e 0 (bN.2 (abS i));exact this h
theorem NM(c:Nn ow r):∀(k f i:Nat),k<=f->r∈orb 31 k i->∃j,Nn ow j/\eB 31 ow f i 0=Z j
 |0,f,i,_,h=>by cases h
 |k+1,0,i,b,_=>aq b (by omega)
 |k+1,f+1,i,b,h=>by
  rcases K1 (ow:=ow) (f:=f) (i:=i) (q:=0)with a|⟨a,d⟩
  .exact a
  .rcases aO.1 h with e|h
   .exact aq (e▸c) a
   .rw[d];exact NM c k f _ (by omega) h
theorem NN(e:Nn ow r)(a:r<=31):∀(k f i q:Nat),k+32<=f->i<=31->q<32 ^ k->∃j,Nn ow j/\eB 31 ow f i q=Z j
 |0,f,i,q,b,d,c=>by
  have o:q=0:=by simpa using c
  rw[o];exact NM e 32 f i (by omega) (Qa (m:=31) (.inr O) d a)
 |k+1,0,i,q,b,_,_=>aq b (by omega)
 |k+1,f+1,i,q,b,d,c=>by
  rcases K1 (ow:=ow) (f:=f) (i:=i) (q:=q)with h|⟨_,l⟩
  .exact h
  .rw[l];exact NN e a k f _ _ (by omega) (by omega) (by rw[qM]at c;omega)
def lv(ow:Array (Option Nat)):List (Nat×Nat):=(aZ 32).filterMap λj=>(ow.getD j J).map (j,·)
def adO(b:ow.size=32)(h:Nn ow j):j<32/\ow.getD j J=J:=by
 unfold Nn at h;by_cases a:j<ow.size
 .refine⟨by omega,?_⟩;rw[gB,jq a]at h ⊢;simpa using h
 .rw[gB,Array.getElem?_eq_none (by omega)]at h;cases h
def abT(q:ow.size=32)(h:Nn ow j):(lv (ow.setIfInBounds j (Z k))).Perm ((j,k)::lv ow):=by
 obtain⟨p,e⟩:=adO q h;have get:∀i,(ow.setIfInBounds j (Z k)).getD i J=if i=j then Z k else ow.getD i J:=λi=>by
  rw[gB,gB,Array.getElem?_setIfInBounds];by_cases c:j=i
  .subst c;rw[aj O,aj (by omega),aj O];rfl
  .rw[ao c,ao (λe=>c e.symm)]
 obtain⟨a,b,o⟩:=List.append_of_mem (bN.2 p);have d:(aZ 32).Nodup:=pX;rw[o,cn,dA]at d;unfold lv;rw[o,oE,oE,eD,eD,get j,aj O,e];have f:∀l:List Nat,j∉l->l.filterMap (λi=>((ow.setIfInBounds j (Z k)).getD i J).map (i,·))=l.filterMap λi=>(ow.getD i J).map (i,·):=λl m=>by
  induction l with
  |nil=>rfl
  |cons i l r=>rw[eD,eD,r λz=>m (ba _ z),get i,ao λe=>m (by rw[<-e];exact aX)]
 rw[f a λz=>d.2.2 j z j aX O,f b d.2.1.1];exact List.perm_middle
theorem Uv:∀(b:List Int) (ow:Array (Option Nat)) (k:Nat),ow.size=32->((lv ow).map bI).Perm (aZ k)->k+b.length<=31->∃a,a.size=32/\((lv a).map bI).Perm (aZ (k+b.length))/\
  (b.foldl (λacc h=>do
   let (owner,k)<-acc;let j<-eB 31 owner (gX 31) (cM h % (31+1)) (cM h)
   pure (owner.setIfInBounds j (Z k),k+1)) (Z (ow,k)))=Z (a,k+b.length)
 |[],ow,k,c,d,_=>⟨ow,c,d,O⟩
 |h::b,ow,k,c,d,o=>by
  rw[aM]at o ⊢;have fr:∃r,r<=31/\Nn ow r:=by
   apply nX;intro no;have len:(lv ow).length=32:=by
    have:∀l:List Nat,(∀j∈l,j<=31)->(l.filterMap λj=>(ow.getD j J).map (j,·)).length=l.length:=λl i=>by
     induction l with
     |nil=>rfl
     |cons j l w=>
      have f:=i j aX;have q:¬Nn ow j:=λe=>no ⟨j,f,e⟩;cases e:ow.getD j J with
      |none=>refine aq ?_ q;unfold Nn;rw[gB,jq (by omega)]at e ⊢;simpa using e
      |some x=>rw[eD,e];show (List.filterMap _ l).length+1=l.length+1;rw[w λz u=>i z (ba _ u)]
    exact(this (aZ 32) λj f=>by have:=bN.1 f;omega).t cH
   have:=d.length_eq;rw[ag,cH,len]at this;omega
  obtain⟨r,t,A⟩:=fr;have p:cM h<32 ^ 13:=by unfold cM;omega
  obtain⟨j,y,m⟩:=NN A t 13 (gX 31) (cM h % (31+1)) (cM h) (by decide) (by omega) p;obtain⟨a,B,C,q3⟩:=Uv b (ow.setIfInBounds j (Z k)) (k+1) (by rw[Array.size_setIfInBounds];exact c) (by
   refine((abT c y).map bI).t ?_;rw[aI,List.range_succ];exact((List.Perm.cons k d).t (kF k _).symm)) (by omega)
  refine⟨a,B,by rw[show k+(b.length+1)=k+1+b.length by omega];exact C,?_⟩;rw[iN,show k+(b.length+1)=k+1+b.length by omega,<- q3];congr 1;show (eB 31 ow (gX 31) (cM h % (31+1)) (cM h)).bind _=_;rw[m];rfl
def Xw(a:Array Int)(h:a.size<=31):∃t order,mj 31 fg mv led pl a=Z (t,order)/\Tb t 31 a.size/\t.led=led/\t.plain=pl/\order.toList.Perm (aZ a.size):=by
 obtain⟨ow,f,b,c⟩:=Uv a.toList (qd 32 J) 0 (by simp) (by
  have:lv (qd 32 J)=[]:=by unfold lv;rw[List.filterMap_eq_nil_iff];intro j d;rw[gB,Array.getElem?_replicate,aj (bN.1 d)];rfl
  rw[this];exact .nil) (by rw[bM];omega)
 rw[mr,bM]at b c;have e:pE 31 a=Z ow:=by unfold pE;rw[<-Array.foldl_toList];exact bH (rb cQ) c
 refine⟨_,_,by unfold mj;rw[e];rfl,⟨O,O,?_⟩,O,O,?_⟩
 .have:=b.length_eq;rw[ag,cH]at this;show (dH _ (lv ow)).toArray.size=_;rw[bg,ag,this]
 .exact b
end
def Cz2(m n:Nat):Prop:=(m=7/\n<=4)\/(m=31/\n<=18)\/(m=127/\19<=n/\n<=63)
section
variable{prog:aH}{w:az}{A:aJ}{E:ab->ae->Prop}{s:ae}
theorem Uw(d:TK prog w s.heap (Sum.inr x::q) a)(h:Q δ s):ah (model prog w) A (hashByValue 8 (.ref a)) Q E s:=by
 have hT:=d.typeIs;obtain⟨o,items,n,i,_,hd,c⟩:=d;unfold hashByValue;refine af (gW hT F.slot_tuple_hash.lookup ?_);show ah _ _ (seqItems? (.ref a)>>=_) _ _ s;refine af (l3 i hd ?_);refine af ?_;show ah _ _ (forIn items _ _) _ _ s;rw[<-o9];generalize items.toList=l at c ⊢;cases c with
 |@cons _ v _ j f p=>
  obtain⟨t,rfl⟩:∃t,v=.str x t:=P4 f;refine lu _ (λey r b=>b=s/\∃u,ey=.str x t::u) _ ?_ ?_ _ _ ⟨O,j,O⟩
  .rintro v ey r b ⟨rfl,u,e⟩;cases e;refine af (m:=hashByValue 7 (.str x t)) (ar ?_);exact ar (ar h)
  .rintro r b ⟨rfl,u,e⟩;cases e
variable{L:List (List fh×Addr)}{es:Array (Int×ab)}{t:bC}{m n ep:Nat}{S a2:Addr}{k2:List fh}{o:Obj}{h:Int}
def Ux(p:t.mask=7)(a:s.heap.get? S=Z o)(hd:o.data=.set es ep t)(hf:t.fits es.size=γ)(j:es.size=5)
  (hQ:∀h' es' t',dD S s.heap h'->h'.get? S=Z { o with data:=.set es' (ep+1) t' }->Tb t' 31 5->t'.led=t.led->t'.plain=t.plain->es'.toList.Perm es.toList->Q () { s with heap:=h' }):ah (model prog w) A (setRelay S (dS 5)) Q E s:=by
 unfold setRelay;refine af (dg a hd hf ?_);dsimp only;rw[ao (by rw[bQ];decide)];obtain⟨t',order,d,T,e,f,b⟩:=Xw (fg:=t.finger) (mv:=t.movedTo 31) (led:=t.led) (pl:=t.plain) (es.map (·.1)) (by rw[qu];omega)
 rw[qu]at T b;have c:(order.filterMap (es[·]?)).toList.Perm es.toList:=by rw[Array.toList_filterMap];exact(b.filterMap _).t (by rw[kI])
 have i:t.relaid (es.map (·.1)) (dS 5)=Z (t',order):=d
 rw[i];have sz:(order.filterMap (es[·]?)).size=es.size:=by have:=c.length_eq;rw[bM,bM]at this;exact this
 refine af ?_;wp_delta;dsimp only;rw[ao (by rw[sz];simp)];refine ar ?_;refine jJ a hd ?_ (by show (order.filterMap (es[·]?)).size<=aG;rw[sz,bQ];omega)
 exact hQ _ _ _ (dv ..) (OL a hd) (by rw[j]at T;exact T) e f c
def add_n(N:A.units<cLine)(T:Tb t m n)(b:Cz2 m n)(U:n<=8)(hf:t.fits es.size=γ)(l:Els prog w s.heap L es)(z:TK prog w s.heap (Sum.inr x::k2) a2)(ne:(Sum.inr x::k2)∉L.map cQ)
  (d:s.heap.get? S=Z o) (hd:o.data=.set es ep t)
  (hQ:∀h' es' t' i y,dD S s.heap h'->h'.get? S=Z { o with data:=.set es' i t' }->Tb t' y (n+1)->Cz2 y (n+1)->t'.led=t.led->t'.plain=δ->(es'.toList.map bI).Perm (.ref a2::es.toList.map bI)->Q γ { s with heap:=h' }):
  ah (model prog w) A (setAddHashed S (.ref a2) h) Q E s:=by
 have b:(m=7/\n<=4)\/(m=31/\n<=9):=by unfold Cz2 at b;omega
 have hm:m=7\/m=31:=b.imp And.left And.left;have sz:es.size=n:=by unfold iQ at hf;rw[aY,beq_iff_eq,T.pl]at hf;exact hf.1.symm
 unfold setAddHashed setAddHashedIn;refine bP (af (dg d hd hf ?_));dsimp only;rw[ao (by simp[byScan,Value.scannable])];have nm:n<=m:=by rcases b with ⟨rfl,h⟩|⟨rfl,h⟩<;>omega
 refine af (NK N T hm hf l z ne d hd (λj W=>?_) 100000 (10 * (m+14)) J (by rcases hm with rfl|rfl<;>decide) (by unfold gX;omega) O (rz.start T hm nm h));dsimp only;refine af (dg d hd hf ?_);dsimp only;have P:(t.put j).1.mask=m:=T.mask;have p2:(t.put j).1.dummies=#[]:=by show (if qL t.dummies j then _ else t.dummies)=_;rw[T.dm];rfl
 have p3:(t.put j).1.place.size=n+1:=by have:=(oo t.place (dR t.place j) j).length_eq;rw[bM,bM,Array.size_push,T.pl]at this;exact this
 have p:(gS es (t.put j).2 (h,Value.ref a2)).toList.Perm ((h,.ref a2)::es.toList):=by refine(oo es _ _).t ?_;rw[lj];exact kF _ _
 have q:(gS es (t.put j).2 (h,Value.ref a2)).size=n+1:=by have:=p.length_eq;rw[bM,aM,bM,sz]at this;exact this
 let c:bC:={ (t.put j).1 with plain:=δ };have a:Tb c m (n+1):=⟨P,p2,p3⟩;have M:c.fits (gS es (t.put j).2 (h,Value.ref a2)).size=γ:=by unfold iQ ml;rw[q,a.pl,a.dm,a.mask,aY];exact⟨by simp,aU (by rcases b with ⟨rfl,h⟩|⟨rfl,h⟩<;>simp<;>omega)⟩
 have fin:∀f:bC,f=c->ah (model prog w) A (do
   storeSet S (gS es (t.put j).2 (h,.ref a2)) f
   if (!δ&&f.tooFull)=γ then do setRelay S (dS (es.size+1));pure γ else pure γ) Q E s:=λf e=>by
  subst e;refine af (jJ d hd ?_ (by rw[q,bQ];omega));have g1:=OL (es':=gS es (t.put j).2 (h,Value.ref a2)) (t':=c) d hd;have R:c.tooFull=decide ((n+1) * 5 >= m * 3):=by unfold SetTable.tooFull ml;rw[a.pl,a.dm,a.mask];rfl
  rw[R];by_cases r:(n+1) * 5 >= m * 3
  .rw[aU r,aj (by decide)];obtain⟨rfl,rfl⟩:m=7/\n=4:=by rcases b with ⟨rfl,h⟩|⟨rfl,h⟩<;>omega
   rw[sz];refine af (Ux (s:={ s with heap:=s.heap.update S (hU (gS es (t.put j).2 (h,.ref a2)) c) }) a.mask g1 O M q λh' es' t' B C F G H I=>?_);refine ar (hQ h' es' t' _ 31 ((dv ..).t B) C F (.inr (.inl ⟨O,by decide⟩)) G H ?_);exact(I.map _).t (p.map _)
  .rw[aT r,ao (by decide)];refine ar (hQ _ _ _ _ m (dv ..) g1 a ?_ O O (p.map _));rcases b with ⟨rfl,h⟩|⟨rfl,h⟩
   .exact .inl ⟨O,by omega⟩
   .exact .inr (.inl ⟨O,by omega⟩)
 split
 .refine af (Uw z ?_);exact fin _ O
 .rename_i u;refine af (ar (fin _ ?_));rw[pW]at u;rw[aj O];show (t.put j).1={ (t.put j).1 with plain:=δ };rw[<-u]
end
structure Kn(h:Heap)(S:Addr)(L:List (List fh×Addr))(led:Bool)(n:Nat)(o:Obj)(es:Array (Int×ab))(ep:Nat)(t:bC):Prop where
 i?:h.get? S=Z o
 ex:o.ExactSet
 d:o.data=.set es ep t
 c:∃m,Tb t m n/\Cz2 m n
 led:t.led=led
 pl:0<n->t.plain=δ
 p:(es.toList.map bI).Perm (L.map λq=>Value.ref q.2)
def Kn.sz{h:Heap}{S:Addr}{L:List (List fh×Addr)}{led:Bool}{n:Nat}{o:Obj}{es:Array (Int×ab)}{ep:Nat}{t:bC}(x:Kn h S L led n o es ep t):es.size=L.length:=by have:=x.p.length_eq;rw[ag,ag,bM]at this;exact this
theorem Kn.fits{h:Heap}{S:Addr}{L:List (List fh×Addr)}{led:Bool}{n:Nat}{o:Obj}{a:Array (Int×ab)}{b:Nat}{t:bC}(x:Kn h S L led n o a b t)(d:L.length=n):t.fits a.size=γ:=by obtain⟨m,T,c⟩:=x.c;unfold iQ ml;rw[x.sz,d,T.pl,T.dm,T.mask,aY];exact⟨by simp,aU (by unfold Cz2 at c;simp;omega)⟩
section
variable{prog:aH}{w:az}{A:aJ}{R:gv->ae->Prop}{I:Addr}{fp wr:List Addr}{GG:Array gu->Array gu->Prop}{n:Nat}{PP:Nat->ab->Prop}{SS:Nat->ae->Prop}
def RT(W:WalksS prog w A.in1 I fp wr GG n PP SS){S:Addr}{led:Bool}(hSf:S∉fp)(U:A.in1.units<cLine)(L:List (List fh×Addr))(hn:L.length=n)(h8:n<=8)(nd:(L.map cQ).Nodup)(hk:∀q∈L,∃x k,q.1=Sum.inr x::k)(far:∀q∈L,q.2∉S::wr)
  (hval:∀i v,PP i v->∃q,L[i]?=Z q/\v=.ref q.2):∀(k i:Nat) (s:ae) (o:Obj) (es:Array (Int×ab)) (ep:Nat) (t:bC),n - i=k->i<=n->SS i s->(∀q∈L,TK prog w s.heap q.1 q.2)->Kn s.heap S (L.take i) led i o es ep t->
   (∀a o es ep t,Moved (S::wr) GG s a->Kn a.heap S L led n o es ep t->R (.ok (.ret .none)) a)->
   cy (model prog w) A (.builtin "set.update.loop" ⟨[.ref S,.ref I],[]⟩) R s:=by
 have hSw:S∉wr:=λz=>hSf ((W).sub _ z);have up:∀b∈wr,b∈S::wr:=λb z=>ba _ z;intro k
 induction k with
 |zero=>
  intro i s o es ep t F hi hst tk x hR;obtain rfl:i=n:=by omega
  refine dQ gG ?_;rw[eC dM _];show ah _ A.in1 (pyNext (.ref I)>>=_) _ _ s;refine af (W.done s _ _ hst λa hm=>?_);show ah _ A.in1 (ret Value.none) _ _ a;rw[iy (by omega)]at x;exact ar (hR a o es ep t (hm.mono up) { x with i?:=hm.heap S _ hSw x.i? })
 |succ k ih=>
  intro i s o es ep t F hi hst tk x hR;have hlt:i<n:=by omega
  refine dQ gG ?_;rw[eC dM _];show ah _ A.in1 (pyNext (.ref I)>>=_) _ _ s;refine af (W.item i s _ _ hlt hst λv a hP hst' hm=>?_);obtain⟨q,M,rfl⟩:=hval i v hP;have G:q∈L:=cj M;have f:∀q∈L,TK prog w a.heap q.1 q.2:=λq Q=>(tk q Q).g? λo=>hm.heap q.2 o λz=>far q Q (up _ z);show ah _ A.in1 (holding _ (setAdd S _)>>=_) _ _ a;refine af (bP ?_);unfold setAdd;refine bP ?_;refine af (wpAny_pyHash_tuple U (f q G) ?_);obtain⟨m,T,c⟩:=x.c;obtain⟨z,X,N⟩:=hk q G;have tq:TK prog w a.heap (Sum.inr z::X) q.2:=by rw[<-N];exact f q G
  have split:L.take (i+1)=L.take i++[q]:=by rw[lh,M];rfl
  have ne:(Sum.inr z::X)∉(L.take i).map cQ:=λw'=>by have P:((L.take (i+1)).map cQ).Nodup:=nd.sublist ((iI _ _).map _);rw[split,bz,cn]at P;exact P.2.2 _ w' _ (bp.2 N.symm) O
  have sub:∀r∈L.take i,r∈L:=λr hr=>(iI _ _).subset hr;have u:Kn a.heap S (L.take i) led i o es ep t:={ x with i?:=hm.heap S _ hSw x.i? };refine add_n (s:={ a with toks:=a.toks+(q.1.length+1) }) (L:=L.take i) U T c (by omega) (u.fits (by rw[bY];omega)) ⟨λr hr=>f r (sub r hr),u.p⟩ tq ne u.i? u.d λh' j Y h m' B b2 b3 b4 b5 b6 b7=>?_;have y:Kn h' S (L.take (i+1)) led (i+1) { o with data:=.set j h Y } j h Y:=by refine⟨b2,x.ex,O,⟨m',b3,b4⟩,b5.t x.led,λ_=>b6,b7.t ?_⟩;rw[split,bz];exact(List.Perm.cons _ x.p).t (kF _ _).symm
  refine ar ⟨gh dM _,ih (i+1) _ _ _ _ _ (by omega) hlt (W.frame _ a h' _ hst' (gU _ _) λb z o e=>?_) (λr hr=>(f r hr).g? λo e=>?_) y λH o2 E C t2 l x2=>?_⟩
  .rw[B.2 b (λy:b=S=>hSf (by rw[<-y];exact z))];exact e
  .rw[B.2 r.2 (λy:r.2=S=>far r hr (by rw[y];exact aX))];exact e
  .refine hR H o2 E C t2 (jT W.gtrans ((hm.mono up).then_heap (gU _ _) λb o z e=>?_) l) x2;rw[B.2 b (λy:b=S=>z (by rw[y];exact aX))];exact e
end
theorem Mg{b:Type}:∀(l:List b) (j:Nat) (x:b),l[j]?=Z x->(x::l.eraseIdx j).Perm l
 |[],j,x,h=>by cases h
 |a::l,0,x,h=>by cases h;exact .refl _
 |a::l,j+1,x,h=>(List.Perm.swap a x _).t (List.Perm.cons a (Mg l j x h))
theorem Qb{b:Type}(a:Nat->Nat):∀(f k:Nat) (l:List b) (out:Array b),l.length=f->(qN a f k l out).toList.Perm (out.toList++l)
 |0,k,l,out,h=>by obtain rfl:=jt.1 h;rw[bS];exact .refl _
 |f+1,k,l,out,h=>by have hlt:a k % l.length<l.length:=gq _ (by omega);have e:l[a k % l.length]?=Z l[a k % l.length]:=bh hlt;unfold qN;rw[e];refine(Qb a f (k+1) _ _ (by rw[oM,aj hlt];omega)).t ?_;rw[lj,bX];exact List.Perm.append_left _ (Mg l _ _ e)
def K2{c:Type}(b:Nat->Nat)(a:Array c):(pickOrder b a).toList.Perm a.toList:=Qb b a.size 0 a.toList #[] bM
section
variable{prog:aH}{w:az}{A:aJ}{E:ab->ae->Prop}{s:ae}
def Xx(hn:n≠0)(h:∀i d,i<n->Q i { s with drawn:=d }):ah (model prog w) A (choose src n) Q E s:=λΓ p hΓ=>by show Sem.wp _ Γ (.choose src n .pure) _ _ p s;rw[Sem.wp_choose];exact⟨hn,h _ _ (gq _ (Nat.pos_of_ne_zero hn))⟩
theorem Qc{f:Type}:∀(n:Nat) (xs:List f) (s:ae) {Q:List f->ae->Prop},xs.length=n->(∀c d,c.Perm xs->Q c { s with drawn:=d })->ah (model prog w) A (drawOrder n xs) Q E s
 |0,xs,s,Q,b,h=>by obtain rfl:=jt.1 b;unfold drawOrder;exact ar (h [] s.drawn (.refl _))
 |n+1,[],s,Q,b,h=>by cases b
 |n+1,a::xs,s,Q,b,h=>by unfold drawOrder;refine af (Xx (by simp) λi d hi=>?_);have e:(a::xs)[i]?=Z (a::xs)[i]:=bh hi;rw[e];refine af (Qc n _ _ (by rw[oM,aj hi];omega) λc j p=>?_);exact ar (h _ j ((List.Perm.cons _ p).t (Mg _ _ _ e)))
end
def ze:Slot "set_iterator" "__next__" "set_iterator.__next__" :=
 .of (owner:="set_iterator") (n:="__next__") (by rw[qe,oF];kernel_rfl) (by decide +kernel) (by decide +kernel) (by decide +kernel)
  (by first|exact .inl (by decide +kernel)|exact .inr (by decide +kernel)) (by rw[jN];kernel_rfl)
def Fq:Slot "set_iterator" "__iter__" "set_iterator.__iter__" :=
 .of (owner:="set_iterator") (n:="__iter__") (by rw[qe,oF];kernel_rfl) (by decide +kernel) (by decide +kernel) (by decide +kernel)
  (by first|exact .inl (by decide +kernel)|exact .inr (by decide +kernel)) (by rw[jN];kernel_rfl)
def Ko:entryFor table "set_iterator.__next__" = Z dJ.«set_iterator.__next__»:=entryFor_of_tree (by kernel_rfl)
def NO:Manifest.owners.lookup (String.ofList ['r','o','t','a','r','e','t','i','_','t','e','s'].reverse)=Z Manifest.sig_set_iterator:=by kernel_rfl
def Mh(a:ab):argsOk "set_iterator.__next__" ⟨[a],[]⟩:=by unfold argsOk;rw[qE (id:="set_iterator.__next__") (n:=['_','_','t','x','e','n','_','_']) (o:=['r','o','t','a','r','e','t','i','_','t','e','s']) (by kernel_rfl) NO];kernel_rfl
def Mi:entryFor table "set.__iter__" = Z dJ.«frozenset.__iter__»:=qv (id':="frozenset.__iter__") (by kernel_rfl) O (by decide +kernel) (by kernel_rfl)
inductive Md(w:az) (h:Heap) (S TP:Addr) (i:Nat) (kx:List ab) (es:Array (Int×ab)) (ep:Nat) (t:bC):ab->Prop
 |txt {sl:Int} {tk:Tok}:w.params.followText "set-order" = γ->kx=(pickOrder (w.params.setOrder S ep) es).toList.map bI->Md w h S TP i kx es ep t (.int sl tk)
 |drw {ps:List Nat} {vs:Array ab} {ot:Obj} {nt:Nat}:w.params.followText "set-order" = δ->h.get? TP=Z ot->ot.cls=.type "tuple" -> ot.data=.seq vs nt->vs=(ps.map λp:Nat=>rawInt p).toArray->ps.Perm (aZ es.size)->kx=ps.filterMap (λp=>es[p]?.map bI)->Md w h S TP i kx es ep t (.ref TP)
 |one {sl:Int}:w.params.followText "set-order" = δ->es.size<=1->t.led=γ->(i=0->sl=0)->(∀j,i=1->t.place=#[j]->sl=(j+1:Nat))->kx=es.toList.map bI->Md w h S TP i kx es ep t (.int sl 0)
structure ItS(w:az)(I S TP:Addr)(kx:List ab)(o:Obj)(es:Array (Int×ab))(ep:Nat)(t:bC)(i:Nat)(h:Heap):Prop where
 it:∃oi first,h.get? I=Z oi/\oi.cls=.type "set_iterator" /\ oi.data=.fields #[first,.int i 0,.ref S,.int es.size 0,.int ep 0]/\Md w h S TP i kx es ep t first
 i?:h.get? S=Z o
 d:o.data=.set es ep t
 f:t.fits es.size=γ
section
variable{prog:aH}{w:az}{A:aJ}{E:ab->ae->Prop}{s:ae}{I S TP:Addr}{kx:List ab}{o:Obj}{es:Array (Int×ab)}{ep:Nat}{t:bC}{i:Nat}
def Gw(h:Q (w.params.followText "set-order") s):ah (model prog w) A setsByText Q E s:=by unfold setsByText;exact af (ly (ar h))
def OV(x:ItS w I S TP kx o es ep t i s.heap)(N:Md w s.heap S TP i kx es ep t (.int y R))(H:i<=1\/w.params.followText "set-order" = γ)
  (hQ:∀(v:ab) (u:Nat),kx[i]?=Z v->Md w s.heap S TP (i+1) kx es ep t (.int u 0)->Q (Z (v,u)) s) (hN:kx[i]?=J->Q J s):ah (model prog w) A (setNext S y.toNat i ep) Q E s:=by
 unfold setNext;refine af (dg x.i? x.d x.f ?_);dsimp only;refine af (Gw ?_);cases N with
 |txt a b=>
  rw[a,aj O];rw[ao (by simp)];refine af ?_;unfold setWalk;refine af (dg x.i? x.d x.f ?_);dsimp only;refine af (Gw ?_);rw[a,aj O];refine af (ly ?_);refine ar ?_;refine ar ?_;show Q (rb (λe=>(e.snd,y.toNat)) (pickOrder (w.params.setOrder S ep) es)[i]?) s;have e:kx[i]?=((pickOrder (w.params.setOrder S ep) es)[i]?).map bI:=by rw[b,bB,iz]
  cases r:(pickOrder (w.params.setOrder S ep) es)[i]? with
  |none=>rw[r]at e;exact hN e
  |some q=>rw[r]at e;exact hQ q.2 _ e (.txt a b)
 |one a b p C F h=>
  have fs:t.place.size=es.size:=by have:=x.f;unfold iQ at this;rw[aY,beq_iff_eq]at this;exact this.1
  rw[a,ao (by decide)];rw[ao (λG=>by
   have:(!t.plain&&decide (es.size > 1))=γ:=G;simp at this;omega)]
  refine af ?_;wp_delta;rw[ao (by rw[p];simp)];refine ar ?_;refine ar ?_;have c:es.size=0\/es.size=1:=by omega
  rcases c with c|c
  .have B:es=#[]:=Array.eq_empty_of_size_eq_zero c;subst B;exact hN (by rw[h];rfl)
  .obtain⟨e,rfl⟩:=oG.1 c;obtain⟨j,l⟩:=oG.1 (fs.t c);rw[l];have M:i<=1:=H.resolve_right λe=>by rw[a]at e;cases e
   have:i=0\/i=1:=by omega
   rcases this with rfl|rfl
   .rw[C O];show Q (match #[e][dR #[j] 0]?,#[j][dR #[j] 0]? with|some (_,x),Z j=>Z (x,j+1)|_,_=>J) s;rw[show dR #[j] 0=0 from by simp[dR,pF]];exact hQ e.2 (j+1) (by rw[h];rfl) (.one a b p (λz=>by cases z) (λP _ m=>by rw[l]at m;cases m;rfl) h)
   .rw[F j O l];show Q (match #[e][dR #[j] (j+1)]?,#[j][dR #[j] (j+1)]? with|some (_,x),Z j=>Z (x,j+1)|_,_=>J) s;rw[show dR #[j] (j+1)=1 from by simp[dR,pF]];exact hN (by rw[h];rfl)
def ItS.ty(x:ItS w I S TP kx o es ep t i s.heap):s.TypeIs (.ref I) "set_iterator" := let ⟨⟨c,_,a,b,_⟩,_,_,_⟩:=x;⟨c,a,b⟩
def ItS.ordlen(x:ItS w I S TP kx o es ep t i s.heap):kx.length=es.size:=by
 obtain⟨⟨l,first,_,_,_,j⟩,_,_,_⟩:=x;cases j with
 |txt c a=>rw[a,ag,(K2 _ es).length_eq,bM]
 |drw c a d e f b h=>rw[h,(b.filterMap _).length_eq];have:=kI es;rw[show (aZ es.size).filterMap (λp=>es[p]?.map bI)=((aZ es.size).filterMap λp=>es[p]?).map bI from(pf ..).symm,this,ag,bM]
 |one c a d e f b=>rw[b,ag,bM]
theorem Uy{b d:Type}(f:b->Option d):∀(a:List b),(∀p∈a,∃v,f p=Z v)->∀i:Nat,(a.filterMap f)[i]?=a[i]?.bind f
 |[],_,i=>rfl
 |p::a,h,i=>by
  obtain⟨v,e⟩:=h p aX;rw[eD,e];cases i with
  |zero=>show Z v=f p;rw[e]
  |succ i=>exact Uy f a (λq c=>h q (ba _ c)) i
def Md.mv(m:Md w h S TP i kx es ep t (.int j l)):Md w p S TP i kx es ep t (.int j l):=by
 cases m with
 |txt a b=>exact .txt a b
 |one a b c d e f=>exact .one a b c d e f
def Qd{B:aJ}{R:Fin->ae->Prop}{c:ae}{Q:Option ab->ae->Prop}(d:B.handled=J)(hN:∀h',(∀b o,c.heap.get? b=Z o->h'.get? b=Z o)->Q J { c with heap:=h' }):
  ah (model prog w) B (do let e<-newExc (.type "StopIteration") [];raiseNew e) R (λe f=>ah (model prog w) A (do if<-isInstance e (.type "StopIteration")then pure J else throw e) Q E f) c:=by
 refine af ?_;simp only[newExc,newTuple];refine af (dO ?_ (by size_fits));refine af (m:=firstArgMember _ _) (wpAny_of_eq (a:=Value.none) (by first|rfl|(simp only[firstArgMember];rfl)) ?_);refine dO ?_ (by size_fits);simp only[raiseNew];refine af (wpAny_handled ?_);rw[d];refine af (ar (wpAny_throw ?_));refine af (pY (T:="StopIteration") (b:=γ) ⟨_,bx _ O,O⟩ isSubtype_stop ?_);exact ar (hN _ λb o e=>aK _ (aK _ e))
def Uz(T:A.handled=J)(x:ItS w I S TP kx o es ep t i s.heap)(hi:i<=kx.length)(hS:S≠I)(hT:TP≠I)
  (hQ:∀v h',kx[i]?=Z v->dD I s.heap h'->ItS w I S TP kx o es ep t (i+1) h'->Q (Z v) { s with heap:=h' }) (hN:∀h',kx[i]?=J->q9 I s.heap h'->Q J { s with heap:=h' }):
  ah (model prog w) A (pyNext (.ref I)) Q E s:=by
 have X:=x.ordlen;obtain⟨W,first,hoi,hci,hdi,hm⟩:=x.it;unfold pyNext;refine af (wpAny_attempt (n8 (name:=jP "__next__") x.ty ze (fX ze x.ty Ko ?_ (Mh _))));show ah _ _ (fieldsOf (.ref I)>>=_) _ _ s;refine af (wpAny_fieldsOf hoi hdi ?_);show ah _ _ (setEntries S>>=_) _ _ s;refine af ?_;unfold setEntries;refine af (dg x.i? x.d x.f ?_);refine ar ?_;dsimp only;rw[ao (by simp)];simp only[gQ];have byint:∀(sl:Int) (tk:Tok),first=.int sl tk->(i<=1\/w.params.followText "set-order" = γ)->ah (model prog w) A.in1 (do
   let r<-setNext S sl.toNat i ep
   match r with
    |some (x,next)=>do
     setField (Value.ref I) 0 (rawInt ↑next)
     setField (Value.ref I) 1 (rawInt (↑i+1))
     ret x
    |none=>do
     setField (Value.ref I) 2 Value.none
     let e<-newExc (Value.type "StopIteration") []
     raiseNew e) (λfin M=>∃v,fin=Fin.done (Flow.ret v)/\ah (model prog w) A (pure (Z v)) Q E M) (λe M=>ah (model prog w) A (do if<-isInstance e (.type "StopIteration")then pure J else throw e) Q E M) s:=λsl tk e H=>by
  subst e;refine af (OV x hm H (λv nx a m=>?_) λa=>?_)
  .refine af (gY hoi hdi (by simp) ?_);have g1:=fi (h:=s.heap) (gj (·.setIfInBounds 0 (rawInt (nx:Int)))) hoi (jz (fq hdi _))
   have d1:=fq hdi (·.setIfInBounds 0 (rawInt (nx:Int)))
   refine af (gY g1 d1 (by simp) ?_);have g2:=fi (gj (·.setIfInBounds 1 (rawInt ((i:Int)+1)))) g1 (jz (fq d1 _))
   have d2:=fq d1 (·.setIfInBounds 1 (rawInt ((i:Int)+1)))
   have j:=(dv s.heap I (gj (·.setIfInBounds 0 (rawInt (nx:Int))))).t (dv _ I (gj (·.setIfInBounds 1 (rawInt ((i:Int)+1)))))
   refine ar ⟨v,O,ar (hQ v _ a j ⟨⟨_,.int nx 0,g2,(lp ..).t ((lp ..).t hci),?_,m.mv⟩,?_,x.d,x.f⟩)⟩
   .rw[d2];simp[rawInt]
   .rw[j.2 S hS];exact x.i?
  .refine af (gY hoi hdi (by simp) ?_);exact Qd (by simp[T]) λh' k=>hN h' a λb o hb e=>k b o (by rw[(dv ..).2 b hb];exact e)
 cases hm with
 |txt u y=>exact byint _ _ O (.inr u)
 |one u y P C F G=>exact byint _ _ O (.inl (by omega))
 |@drw ps vs ot nt u y P C F G R=>
  show ah _ _ (seqItems? (.ref TP)>>=_) _ _ s;refine af (l3 y C ?_);have N:∀p∈ps,∃v,(es[p]?.map bI)=Z v:=λp U=>by have:=bN.1 (G.mem_iff.1 U);exact⟨es[p].2,by rw[jq this];rfl⟩
  have l:kx[i]?=ps[i]?.bind λp=>es[p]?.map bI:=by rw[R];exact Uy _ ps N i
  have a:vs[i]?=ps[i]?.map λp:Nat=>rawInt p:=by rw[F,jy,bB]
  cases c:ps[i]? with
  |none=>
   rw[c]at a l;dsimp only;rw[a];refine af (gY hoi hdi (by simp) ?_);have g1:=fi (h:=s.heap) (gj (·.setIfInBounds 0 (rawInt 0))) hoi (jz (fq hdi _))
   have d1:=fq hdi (·.setIfInBounds 0 (rawInt 0))
   refine af (gY g1 d1 (by simp) ?_);exact Qd (by simp[T]) λh' k=>hN h' l λb o hb e=>k b o (by rw[(dv ..).2 b hb,(dv ..).2 b hb];exact e)
  |some p=>
   rw[c]at a l;obtain⟨v,z⟩:=N p (cj c);dsimp only;rw[a];show ah _ _ (setNextDrawn S (p:Int).toNat ep>>=_) _ _ s;rw[gQ];refine af ?_;unfold setNextDrawn;refine af (dg x.i? x.d x.f ?_);dsimp only;rw[ao (by simp)];cases B:es[p]? with
   |none=>rw[B]at z;cases z
   |some q=>
    rw[B]at z;refine ar ?_;refine af (gY hoi hdi (by simp) ?_);have g1:=fi (h:=s.heap) (gj (·.setIfInBounds 1 (rawInt ((i:Int)+1)))) hoi (jz (fq hdi _))
    have d1:=fq hdi (·.setIfInBounds 1 (rawInt ((i:Int)+1)))
    have j:=dv s.heap I (gj (·.setIfInBounds 1 (rawInt ((i:Int)+1))))
    refine ar ⟨_,O,ar (hQ _ _ (by rw[l];show es[p]?.map bI=_;rw[B];rfl) j ⟨⟨_,.ref TP,g1,(lp ..).t hci,?_,.drw u (by rw[j.2 TP hT];exact y) P C F G R⟩,?_,x.d,x.f⟩)⟩
    .rw[d1];simp[rawInt]
    .rw[j.2 S hS];exact x.i?
end
def Kp:entryFor table "set_iterator.__iter__" = Z dJ.«dict_keyiterator.__iter__»:=qv (id':="dict_keyiterator.__iter__") (by kernel_rfl) O (by decide +kernel) (by kernel_rfl)
def Mj(a:ab):argsOk "set_iterator.__iter__" ⟨[a],[]⟩:=by unfold argsOk;rw[qE (id:="set_iterator.__iter__") (n:=['_','_','r','e','t','i','_','_']) (o:=['r','o','t','a','r','e','t','i','_','t','e','s']) (by kernel_rfl) NO];kernel_rfl
section
variable{prog:aH}{w:az}{A:aJ}{E:ab->ae->Prop}{s:ae}{I S TP:Addr}{kx:List ab}{o:Obj}{es:Array (Int×ab)}{ep:Nat}{t:bC}
def Md.at{h':Heap}(m:Md w h S TP i kx es ep t f)(k:∀o,h.get? TP=Z o->h'.get? TP=Z o):Md w h' S TP i kx es ep t f:=by
 cases m with
 |txt a b=>exact .txt a b
 |one a b c d e j=>exact .one a b c d e j
 |drw a b c d e j l=>exact .drw a (k _ b) c d e j l
def abU(j:A.handled=J)(hS:S≠I)(hT:TP≠I):Walks prog w A I [I,S,TP] [I] kx.length (λi v=>kx[i]?=Z v) (λi h=>ItS w I S TP kx o es ep t i h/\i<=kx.length) where
 sub:=λb hb=>by simp at hb;simp[hb]
 frame:=λi h h' st c=>by obtain⟨⟨⟨B,f,l,m,p,hm⟩,q,r,u⟩,y⟩:=st;exact⟨⟨⟨B,f,c I (by simp) _ l,m,p,hm.at λo e=>c TP (by simp) o e⟩,c S (by simp) _ q,r,u⟩,y⟩
 item:=λi s Q E hi st hQ=>Uz j st.1 st.2 hS hT (λv h' a C x=>hQ v h' s.toks a ⟨x,by omega⟩ λb o hb e=>by rw[C.2 b λz=>hb (by simp[z])];exact e) λh' d _=>by rw[bh hi]at d;cases d
 done:=λs Q E st hQ=>Uz j st.1 st.2 hS hT (λv h' a _ _=>by rw[gL (aN _)]at a;cases a) λh' _ k=>hQ h' s.toks λb o hb e=>k b o (λz=>hb (by simp[z])) e
 self:=λi s Q E st h=>by refine pG st.1.ty Fq (fX Fq st.1.ty Kp ?_ (Mj _));show ah _ _ (ret (.ref I)) _ _ s;exact ar ⟨_,O,"set_iterator", _,st.1.ty,ze.lookup,h⟩
end
end L4
namespace L4
open PySem PySem.Spec PySem.Calls PyProof.Rows PySem.W L2 L3
section
variable{prog:aH}{w:az}{A:aJ}{E:ab->ae->Prop}{s:ae}
abbrev TkS(k:aE):List fh:=k.map Sum.inr
end
section
variable{X:Cx}{G:Bg}{H:Hp}{pins:cD}{σ:St}{s:ae}
def c3.drw(I:c3 X pins σ H s)(d:Drawn):c3 X pins σ H { s with drawn:=d }:=⟨I.ok,I.os,I.mn,I.b?,I.L',I.cell,I.free,I.nq,I.M',I.fx,I.len⟩
def setP{A:aJ}{L:List (aE×Addr)}(I:c3 X pins σ H s)(hh:A.handled=J)(hu:A.units+8<cLine)(f:gi X.K H a (L.map λq=>V.ref q.2))(h8:L.length<=8)(nd:(L.map cQ).Nodup)
  (T:∀q∈L,∃p r,q.1=[p,r]/\ij X.K H q.2 [.str p,.str r])
  (h:∀d k2 o es ep t,Kn d s.heap.objs.size (L.map λq=>(TkS q.1,q.2)) (!X.w.params.followText "set-order") L.length o es ep t->(∀b o,b<s.heap.objs.size->s.heap.get? b=Z o->d.get? b=Z o)->Q (.ref s.heap.objs.size) { s with heap:=d,toks:=k2 }):
  ah (model X.prog X.w) A (call (.type "set") [.ref a]) Q E s:=by
 have h3:A.in1.in1.in1.handled=J:=by simp[hh]
 obtain⟨c,r,pp,_⟩:=I.list f;obtain⟨o,l,C,n,hd⟩:=pp.isList;have hne:a≠s.heap.objs.size+1:=bb (eI (aR l));have tk:∀q∈L,TK X.prog X.w s.heap (TkS q.1) q.2:=λq f=>by obtain⟨p,r,e,h1⟩:=T q f;rw[e];exact adA (ks:=[.inr p,.inr r]) I h1
 have M:L.length=c.length:=by have:=r.length;rw[ag]at this;exact this
 have ev:∀(i:Nat) (v:ab),c[i]?=Z v->∃q,L[i]?=Z q/\v=.ref q.2:=λi v e=>by
  have hi:i<L.length:=by rw[M];exact(cg.1 e).1
  obtain⟨u,j,ru⟩:=r.get (i:=i) (x:=V.ref L[i].2) (by rw[bB,bh hi];rfl);rw[e]at j;cases j;exact⟨L[i],bh hi,ru⟩
 have notin:s.heap.objs.size∉[s.heap.objs.size+1,a]:=by
  intro z;rcases aO.1 z with z|z
  .exact aq z (bb (dy _))
  .exact aq (bp.1 z) (gm (aR l))
 let PS:Heap->Prop:=λd=>∃o es ep t,Kn d s.heap.objs.size (L.map λq=>(TkS q.1,q.2)) (!X.w.params.followText "set-order") L.length o es ep t;refine Fj (PS:=PS) l C l4 kP (by decide) (itO:={ cls:=.type "list_iterator", data:=.fields #[.ref a,.int 0 0] })
  (λA Q E s1 e k=>fV ⟨o,e,C,n,hd⟩ k) (λtk' R hR=>?_) λd k2 ⟨o,es,ep,t,x⟩ kk=>h d k2 o es ep t x kk
 have F:∀{b:Addr} {U:Obj},s.heap.get? b=Z U->((s.heap.push (Aw (!X.w.params.followText "set-order"))).push { cls:=.type "list_iterator", data:=.fields #[.ref a,.int 0 0] }).get? b=Z U:=λe=>aK _ (aK _ e);have it:((s.heap.push (Aw (!X.w.params.followText "set-order"))).push { cls:=.type "list_iterator", data:=.fields #[.ref a,.int 0 0] }).get? (s.heap.objs.size+1)=Z { cls:=.type "list_iterator", data:=.fields #[.ref a,.int 0 0] }:=by rw[show s.heap.objs.size+1=(s.heap.push (Aw (!X.w.params.followText "set-order"))).objs.size from(dc _ _).symm];exact bx _ O
 refine RT (S:=s.heap.objs.size) (led:=!X.w.params.followText "set-order") (i3 h3 _ a hne c.toArray).toS notin (by show A.units+1+1+1<cLine;omega) (L.map λq=>(TkS q.1,q.2)) (by rw[ag,bg,M]) (by rw[bg];omega) ?_ ?_ ?_ ?_ (c.toArray.size - 0) 0 _ (Aw (!X.w.params.followText "set-order")) #[] 0 (.fresh 0 0 (!X.w.params.followText "set-order")) O (cp _) ⟨⟨_,it,O,O⟩,⟨o,F l,C,n,hd⟩⟩ ?_ ?_ λs2 o2 B m t2 mv P=>?_
 .rw[bc,show (cQ∘λq:aE×Addr=>(TkS q.1,q.2))=λq=>TkS q.1 from O];have:(L.map λq=>TkS q.1)=(L.map cQ).map TkS:=by rw[bc];rfl
  rw[this];exact uF _ (λx y hxy e=>hxy ((List.map_inj_right λ_ _ h=>jR h).1 e)) nd
 .intro q f;obtain⟨r,hr,rfl⟩:=au.1 f;obtain⟨p,z,e,_⟩:=T r hr;exact⟨p,[.inr z],by show TkS r.1=_;rw[e];rfl⟩
 .intro q f z;obtain⟨r,hr,rfl⟩:=au.1 f;obtain⟨ob,_,_,e,_⟩:=tk r hr;have:=aR e;rcases aO.1 z with z|z
  .exact aq z (bb this)
  .exact aq (bp.1 z) (bb (eI this))
 .intro i v e;rw[jy]at e;obtain⟨q,W,j⟩:=ev i v e;exact⟨(TkS q.1,q.2),by rw[bB,W];rfl,j⟩
 .intro q f;obtain⟨r,hr,rfl⟩:=au.1 f;exact(tk r hr).g? λo=>F
 .exact⟨aK _ (bx _ O),⟨O,O,O⟩,O,⟨7,⟨O,O,O⟩,.inl ⟨O,by decide⟩⟩,O,λz=>aq z (by decide),.nil⟩
 .obtain⟨d,g2,d2,k2,N⟩:=s2;have eg:g2=s.gens:=mv.gens;have Y:d2=s.drawn:=mv.drawn;have eo:N=s.os:=mv.os;subst eg Y eo;have el:c.toArray.size=L.length:=by rw[bg,M]
  rw[el]at P;refine hR d k2 ⟨o2,B,m,t2,P⟩ λb o hb e=>mv.heap b o (λz=>?_) (F e);rcases aO.1 z with z|z
  .exact aq z (bb hb)
  .exact aq (bp.1 z) (bb (eI hb))
end
section
variable{X:Cx}{G:Bg}{H:Hp}{pins:cD}{σ:St}{s:ae}
theorem Qe:∀{b:bj} {f:List aE} {h:bL},uS G H b h->zu b=Z f->∃L:List (aE×Addr),h=L.map (λq=>V.ref q.2)/\f=L.map cQ/\∀q∈L,∃p r,q.1=[p,r]/\ij G.K H q.2 [.str p,.str r]
 |[],f,h,r,e=>by cases e;unfold uS at r;subst r;exact⟨[],O,O,λq o=>by cases o⟩
 |d::b,f,h,r,e=>by
  unfold zu at e;cases c:RQ d with
  |none=>rw[c]at e;cases e
  |some k=>
   cases i:zu b with
   |none=>rw[c,i]at e;cases e
   |some t=>
    rw[c,i]at e;cases e;unfold uS at r;obtain⟨v,x,rfl,u,w⟩:=r;obtain⟨L,rfl,rfl,m⟩:=Qe w i;obtain⟨a,p,q,rfl,rfl,l⟩:=NH u c;refine⟨([p,q],a)::L,O,O,λz j=>?_⟩;rcases aO.1 j with rfl|j
    .exact⟨p,q,O,l⟩
    .exact m z j
end
noncomputable abbrev cS(s:Str):FE:=cC (.str s)
noncomputable abbrev a1(e:FE):FA:=ax e vC
section
variable{X:Cx}{G:Bg}{H:Hp}{pins:cD}{σ:St}{s:ae}
def SrcG(K:av)(H:Hp)(a:Addr)(n:Nat):Prop:=SrcO K H a n\/
 ∃L:List (aE×Addr),gi K H a (L.map λq=>V.ref q.2)/\L.length<=8/\(L.map cQ).Nodup/\(∀q∈L,∃p r,q.1=[p,r]/\ij K H q.2 [.str p,.str r])/\n=L.length
def adQ:SetV X SrcG:=by
 intro pins σ H s A E Q a n I c e b h;rcases b with b|⟨L,j,m,u,p,rfl⟩
 .exact adB I c e b h
 .refine setP I c e j m u p λl q o i f t x r=>h l q ⟨o,i,f,t,x.i?,x.ex,x.d,?_,x.fits (ag _),x.sz.t (ag _)⟩ r;rw[x.sz,ag];unfold scanBound;omega
def EE(ds:bj):Option D:=match zu ds with
 |some a=>if a.Nodup/\ds.length<=8 then Z (.int ds.length)else J
 |none=>J
def RU(hK:X.K=G.K):∀{c d f b a j},EE c=Z d->gi X.K b a j->uS G f c j->vm f b->∃n:Nat,SrcG X.K b a n/\d=.int n:=λ{c d f b a j} e i l s=>by
 unfold EE at e;cases h:zu c with
 |none=>simp only[h]at e;cases e
 |some w=>
  simp only[h]at e;split at e
  .rename_i u;cases e;obtain⟨L,rfl,rfl,t⟩:=Qe l h;have o:=uX l;rw[ag]at o;refine⟨_,.inr ⟨L,i,by omega,u.1,λq i=>?_,o⟩,O⟩;obtain⟨p,r,e,m⟩:=t q i;rw[<-hK]at m;exact⟨p,r,e,ij.mono s m⟩
  .cases e
end
section
variable{X:Cx}{B:Bz}{k:Nat}{e:Expr}{f:FE}{p p2 p3 pos:Pos}
def abV [C:Cz X B k][N:Nb B "len"][b:Nb B "set"](i:S1 X e)(h:Gz X "len")(a:Gz X "set")(d:ZE X B e f)(z:aA [Expr.Call (.Name "set" p2) [e] [] p3] X.b1=[(δ,eval (.Call (.Name "set" p2) [e] [] p3) X.b1)]):ZE X B (.Call (.Name "len" p) [.Call (.Name "set" p2) [e] [] p3] [] pos) (c1 (Fk EE) f):=⟨ON C.K .inl (RU C.K) (RG adQ C.r.units C.c h (C.mg▸N.p) a (C.mg▸b.p) d.p z i)⟩
end
section
variable{X:Cx}{G:Bg}{C:Addr}{x:Str}{p pos:Pos}{e:Expr}{c:Nat}
structure Mk0(K:av)(C:Addr):Prop where
 X':makesIn K C=γ
 init:findIn K (.ref C) "__init__" = Z (Z (.builtin "object.__init__"))
 kp:keepIn K (.ref C)=γ
def RV(M:Mk0 X.K C)(l:Gl X x)(m:X.mg x=Z (.ref C))(d:(x==("__debug__" : Str))=δ):PE X (.Call (.Name x p) [] [] pos) (λt H Q=>∀y a,H y=J->H a=J->a≠y->Q (.ref y) (fl (fl H a (.jj y)) y (.nr C a []))):=by
 intro f s t H Q I h;refine dN (EX I l m ?_ d);refine ma I.rf M.kp ?_;have q:=h (s.heap.objs.size+1) s.heap.objs.size (I.fx.fresh (gp _)) (I.fx.fresh (aN _)) (bb (dy _));have i:=c3.made (C:=C) I;have Y:=mX (M:=model X.prog X.w) I.rf M.X';refine jW (QZ I.rf M.X' M.init (λself=>Looks.of_pure (oi_bind self)) ?_);have j:((s.heap.push emptyDict).push (instObj C s.heap.objs.size)).get? (s.heap.objs.size+1)=Z (instObj C s.heap.objs.size):=by rw[<-dc s.heap emptyDict];exact bx _ O
 have r:Looks (model X.prog X.w) ((s.heap.push emptyDict).push (instObj C s.heap.objs.size)) (isInstance (.ref (s.heap.objs.size+1)) (.type "object")) γ:=
  ((Looks.ld j).andThen .now:Looks (model X.prog X.w) _ (typeOf (.ref (s.heap.objs.size+1))) (.ref C)).andThen (Y.top.keeps λb o e=>aK _ (aK _ e))
 refine oI oi_plain entry_oi (check_slot oi_kind oi_split r (oi_args _) ?_);rw[oi_run];exact ar (And.intro rfl ⟨V.ref (s.heap.objs.size+1),_,i,rfl,q⟩)
def Xy(c:Nat):FE:=λa=>Z (.obj c [] [],a)
def RW(h:PE X e (λB H Q=>∀y a,H y=J->H a=J->a≠y->Q (.ref y) (fl (fl H a (.jj y)) y (.nr (G.ca c) a [])))):PE X e (tF G (Xy c)):=PE.en h λB H Q u=>by
 obtain⟨F,I,E,d,A,R,e,k⟩:=u;cases e;intro x a f hdx w;have j:(fl H a (.jj x)) x=J:=by rw[vt (λz=>w z.symm)];exact f
 have m:vm H (fl (fl H a (.jj x)) x (.nr (G.ca c) a [])):=(vy hdx _).t (vy j _);have R2:=R.i1 m (λ_ _ e=>e) (R.sub.t m) (λb o e=>.inl e);have l:=R.f3 f;have q:=R2.rm ve l (R.i0 f) (λi t r to z=>R.apart f i t r to z);refine k _ _ _ (vy l _) q ?_;unfold cb;exact⟨x,a,[],O,ve,O,vN⟩
end
section
variable{X:Cx}{B:Bz}{k:Nat}{p pos:Pos}{x:Str}{c:Nat}
class K0f(B:Bz)(x:Str)(c:Nat):Prop where p:Mk0 B.G.K (B.G.ca c)/\B.mg x=Z (.ref (B.G.ca c))
def abW [C:Cz X B k][Q:K0f B x c](a:Gz X x)(hd:(x==("__debug__" : Str))=δ):ZE X B (.Call (.Name x p) [] [] pos) (Xy c):=⟨RW (RV (by rw[C.K];exact Q.p.1) a (by rw[C.mg];exact Q.p.2) hd)⟩
end
end L4
namespace L4
open PySem PySem.Spec PyProof.Rows L2 L3
section
variable{X:Cx}{B:Bz}{k j i m:Nat}{x:Str}{e e':Expr}{es:List Expr}{d:D}{p pos:Pos}{g:D->D->Option D}
def adR:ZB X B l TF:=⟨λa s f H D I h=>by
 obtain⟨F,c,b,o,R,e,_⟩:=h;cases e⟩
end
theorem B9.mono(M:B9 G P w i b? j m c h)(e:eT j k=γ):B9 G P w i b? k m c h:=by obtain⟨f,d,l,a,b,c,F⟩:=M;exact⟨f,d,l,a,b,c,F.mono (eO.mp e)⟩
section
variable{X:Cx}{G:Bg}
def E?(g:bj->bj->Option (D×bj))(a n:FA):FE:=λh=>match a h with
 |some (e,b)=>match n b with
  |some (f,c)=>match g f e with
   |some (d,_)=>Z (d,c)
   |none=>J
  |none=>J
 |none=>J
theorem vA.temp(R:vA G F σ ρ H0 H)(hb:F.B b=J)(ap:ri σ ρ b)(j:vm H0 a)(s2:vm a H')(d:∀c o,H c=Z o->c≠b->H' c=Z o)(fr:∀c o,a c=Z o->H0 c=Z o\/H c=J)(m:H' b=Z (.bt p)):vA G F σ ρ a H' where
 sub:=s2
 g0:=R.g0.t j
 keep:=λc o e n=>d c o (R.keep c o e n) λz=>by rw[z,hb]at e;cases e
 fr:=λc o e=>(fr c o e).elim (R.fr c o) λh=>.inr (R.i0 h)
 am:=λc l=>by
  obtain⟨o,q⟩:=R.am c l;by_cases z:c=b
  .exact⟨_,z▸m⟩
  .exact⟨o,d c o q z⟩
 len:=R.len
 sl:=λi t e=>(R.sl i t e).i1 j (λc u z so q=>d c u q λw=>ap i t e so (by rw[z,w])) λc u z so q f=>by
  cases w:a c with
  |none=>rfl
  |some o=>
   rcases fr c o w with v|v
   .rw[v]at f;cases f
   .rw[v]at q;cases q
 ap:=R.ap
end
mutual
def Jo:D->Bool
 |.E=>γ
 |.I _=>γ
 |.int _=>γ
 |.str _=>γ
 |.d? a=>Jp a
 |.bt a=>Jp a
 |_=>δ
def Jp:bj->Bool
 |[]=>γ
 |d::a=>Jo d&&Jp a
end
mutual
theorem cb.but(e:∀b o,H b=Z o->(∀u kvs,o≠HO.o? u (.dK kvs))->p b=Z o):∀(d:D) (v:V),Jo d=γ->cb G H d v->cb G p d v
 |.E,v,_,h=>by unfold cb at h ⊢;exact h
 |.I b,v,_,h=>by unfold cb at h ⊢;exact h
 |.int i,v,_,h=>by unfold cb at h ⊢;exact h
 |.str x,v,_,h=>by unfold cb at h ⊢;exact h
 |.d? f,v,n,h=>by
  unfold cb at h ⊢;unfold Jo at n;obtain⟨a,j,rfl,l,m⟩:=h;refine⟨a,j,O,?_,uS.but e f j n m⟩;rcases l with (h|⟨o,h⟩)|h
  .exact .inl (.inl (e _ _ h λ_ _ z=>nomatch z))
  .exact .inl (.inr ⟨o,e _ _ h λ_ _ z=>nomatch z⟩)
  .exact .inr h
 |.bt f,v,n,h=>by unfold cb at h ⊢;unfold Jo at n;obtain⟨a,j,rfl,l,m⟩:=h;exact⟨a,j,O,e _ _ l (λ_ _ z=>nomatch z),uS.but e f j n m⟩
 |.R f,v,n,h=>by unfold Jo at n;cases n
 |.obj c r f,v,n,h=>by unfold Jo at n;cases n
 |.Q q f,v,n,h=>by unfold Jo at n;cases n
theorem uS.but(e:∀b o,H b=Z o->(∀u kvs,o≠HO.o? u (.dK kvs))->f b=Z o):∀(a:bj) (c:bL),Jp a=γ->uS G H a c->uS G f a c
 |[],c,_,h=>by unfold uS at h ⊢;exact h
 |d::a,c,n,h=>by unfold uS at h ⊢;unfold Jp at n;rw[aY]at n;obtain⟨v,r,rfl,i,j⟩:=h;exact⟨v,r,O,cb.but e d v n.1 i,uS.but e a r n.2 j⟩
end
section
variable{t:bC}{m n:Nat}
def tM(m:Nat):bC:=⟨m,#[],#[],0,δ,0,δ⟩
def Wy(m:Nat)(a:Nat->Prop)(j:Nat):Nat->fI->Prop
 |0,_=>False
 |f+1,p=>p.j=j\/(a p.j/\Wy m a j f ((tM m).advance p))
end
section
variable{κ α:Type}[DecidableEq κ]
def y'(l:List κ):List κ:=l.foldl (λacc k=>if k∈acc then acc else acc++[k]) []
theorem Iq:∀(l acc:List κ),acc.Nodup->(l.foldl (λacc k=>if k∈acc then acc else acc++[k]) acc).Nodup/\∀x,x∈l.foldl (λacc k=>if k∈acc then acc else acc++[k]) acc ↔ x∈acc\/x∈l
 |[],acc,h=>⟨h,λx=>⟨.inl,λh=>h.resolve_right (by simp)⟩⟩
 |k::l,acc,h=>by
  rw[iN];split
  .rename_i f;obtain⟨c,d⟩:=Iq l acc h;refine⟨c,λx=>(d x).t ⟨λh=>h.imp id (ba _),λh=>?_⟩⟩;rcases h with h|h
   .exact .inl h
   .rcases aO.1 h with rfl|h
    .exact .inl f
    .exact .inr h
  .rename_i f;obtain⟨c,d⟩:=Iq l (acc++[k]) (cn.2 ⟨h,dA.2 ⟨cA,.nil⟩,λa i b j e=>f (by rw[<-bp.1 j,<- e];exact i)⟩);refine⟨c,λx=>(d x).t ?_⟩;rw[aV,bp,aO,or_assoc]
def OW(l:List κ):(y' l).Nodup:=(Iq l [] .nil).1
def Ml{l:List κ}{x:κ}:x∈y' l ↔ x∈l:=((Iq l [] .nil).2 x).t ⟨λh=>h.resolve_left (by simp),.inr⟩
end
end L4
namespace L4
open PySem PySem.Spec PySem.Calls PyProof.Rows PySem.W L2 L3
section
variable{prog:aH}{w:az}{A:aJ}{E:ab->ae->Prop}{s:ae}
theorem RX(h:Q 0xFCA86420 { s with toks:=s.toks+1 }):ah (model prog w) A (pyHash .none) Q E s:=by
 show ah _ _ (pyHashByItsType .none) Q E s;unfold pyHashByItsType;refine af ?_;rw[cRoomFor,ao (by rw[show [Value.none].any Value.onHeap=δ from O];exact bu)];refine ar ?_;refine af (gW (jU s) jB.lookup ?_);show ah _ _ (if (Z (Value.builtin "NoneType.__hash__")==Z Value.none)=γ then _ else _) Q E s;rw[ao (by rw[beq_builtin_none];exact bu)];refine af (gW (jU s) jB.lookup ?_);show ah _ _ (callSpecialIfBoundUnlessNone? .none "__hash__" _>>=_) Q E s;refine af (wpAny_callSpecialIfBoundUnlessNone?_slot (jU s) jB
  (fX jB (jU s) F.entry_NoneType_hash
   (show ah _ _ (do ret (<-mkInt 0xFCA86420)) _ _ s from wpAny_ret_mkInt ?_) (F.args_NoneType_hash_1 _)))
 exact ar h
def Xz(h:Q γ s):ah (model prog w) A (eqBool .none .none) Q E s:=by unfold eqBool;refine bP ?_;rw[aj (show (Value.none==Value.none)=γ from O)];exact af (hX (ar h))
def oIs:Option fh->ab->Bool
 |none,.none=>γ
 |none,_=>δ
 |some k,v=>Iy k v
def An(h:oIs k v=γ):(k=J/\v=.none)\/(∃i t,k=Z (Sum.inl i)/\v=Value.int i t)\/∃x t,k=Z (Sum.inr x)/\v=Value.str x t:=by
 cases k with
 |none=>cases v<;>first|exact .inl ⟨O,O⟩|cases h
 |some k=>
  rcases wj (k:=k) h with ⟨i,t,rfl,rfl⟩|⟨x,t,rfl,rfl⟩
  .exact .inr (.inl ⟨i,t,O,O⟩)
  .exact .inr (.inr ⟨x,t,O,O⟩)
def ZX(prog:aH)(w:az):qx prog w (Option fh) where
 is:=oIs
 hash:=λk=>match k with|none=>0xFCA86420|some k=>keyH w k
 inj:=λv a b ha hb=>by rcases An ha with ⟨rfl,rfl⟩|⟨i,t,rfl,rfl⟩|⟨x,t,rfl,rfl⟩<;>rcases An hb with ⟨rfl,e⟩|⟨j,u,rfl,e⟩|⟨y,u,rfl,e⟩<;>first|rfl|(cases e;rfl)|cases e
 byValue:=λk v h=>by rcases An h with ⟨rfl,rfl⟩|⟨i,t,rfl,rfl⟩|⟨x,t,rfl,rfl⟩<;>rfl
 pyHash:=λ{A E s k v Q} c h=>by
  cases k with
  |some k=>exact(vF prog w).pyHash (k:=k) c h
  |none=>
   rcases An c with ⟨_,rfl⟩|⟨i,t,e,_⟩|⟨x,t,e,_⟩
   .exact RX h
   .cases e
   .cases e
 eqBool:=λ{A E s a b u v Q} d c h=>by
  rcases An d with ⟨rfl,rfl⟩|⟨i,t,rfl,rfl⟩|⟨x,t,rfl,rfl⟩<;>rcases An c with ⟨rfl,rfl⟩|⟨j,u,rfl,rfl⟩|⟨y,u,rfl,rfl⟩
  .exact Xz h
  .exact oN j u _ _ _ _ h
  .exact oO y u _ _ _ _ h
  .exact oP i t _ _ _ _ h
  .exact(vF prog w).eqBool (a:=Sum.inl i) (b:=Sum.inl j) d c (by simpa using h)
  .exact(vF prog w).eqBool (a:=Sum.inl i) (b:=Sum.inr y) d c (by simpa using h)
  .exact oQ x t _ _ _ _ h
  .exact(vF prog w).eqBool (a:=Sum.inr x) (b:=Sum.inl j) d c (by simpa using h)
  .exact(vF prog w).eqBool (a:=Sum.inr x) (b:=Sum.inr y) d c (by simpa using h)
 «strs»:=λk x t v h=>by
  cases k with
  |none=>cases h
  |some k=>exact(vF prog w).strs k x t v h
def XA{h:Heap}(m:h.MapOf (vF prog w) a f):h.MapOf (ZX prog w) a (λk=>match k with|none=>J|some k=>f k):=by
 obtain⟨o,p,l,q,r,u,j,y⟩:=m;refine⟨o,p,l,q,r,u,λe b=>?_,λk=>?_⟩
 .obtain⟨k,c,z⟩:=j e b;exact⟨Z k,c,z⟩
 .cases k with
  |some k=>exact y k
  |none=>
   unfold findBy;rw[Array.find?_eq_none.2 λe b=>?_]
   .rfl
   .obtain⟨k,c,_⟩:=j e b;rcases wj c with ⟨i,t,_,d⟩|⟨x,t,_,d⟩<;>(rw[d];exact bu)
end
section
variable{X:Cx}{G:Bg}{H:Hp}{pins:cD}{σ:St}{s:ae}
def abX(I:c3 X pins σ H s)(e:Rd H a (.dK kvs))(h:∀c,c3 X pins σ H c->Q .none c):ah (model X.prog X.w) A (call (.builtin "dict.get") [.ref a,.none]) Q E s:=by obtain⟨z,hd,d,rel,b⟩:=GZ I.fx e;exact hG fG b.typeIs iM (lg _ _) (qm (ZX X.prog X.w) a (k:=J) O hd) ⟨_,XA b.mapOf,h _ (I.x? _)⟩
def abY(d ty:TE):TE:=λσ H Q=>d σ H λx c=>∃a,x=.ref a/\IsD c a/\ty σ c λy b=>(∃o,ts b a y o/\Q (o.getD .E) b)\/(y=.E/\(∃kvs,Rd b a (.dK kvs))/\Q .E b)
def UA(B:X.A.units+1<cLine)(z:PE X o S)(w:PE X e ty)(m:M1 X o "get" apos e cpos):PE X (.Call (.Attribute o "get" apos) [e] [] cpos) (abY S ty):=by
 intro pins s σ H Q I h;refine jF m.b? m.few m.line jG fG lI (f5 (z pins s σ H _ I h) λu M c=>?_);obtain⟨x,r,l,F,a,t,d,E⟩:=c;subst t;obtain rfl:u=Value.ref a:=F;obtain⟨P,R,_⟩:=LU l d;refine⟨P,R,?_⟩;rw[m.O?];refine iw O (iB (eE (f5 (w pins M σ r _ l E) λC U c=>fW ?_)));obtain⟨y,j,p,q,⟨T,g,f⟩|⟨rfl,⟨kvs,e⟩,f⟩⟩:=c
 .exact SN B p g q λW N b i=>⟨_,j,b,i,f⟩
 .obtain rfl:C=.none:=q;exact abX p e λN b=>⟨.E,j,b,O,f⟩
def NP:D->D->Option D:=λx y=>match y with
 |.E=>match x with
  |.Q _ _=>Z .E
  |_=>J
 |y=>CM x y
def UB(hu:X.A.units+1<cLine)(ha:PE X a (tF G f))(hb:PE X b (tF G f'))(m:M1 X a "get" apos b cpos):PE X (.Call (.Attribute a "get" apos) [b] [] cpos) (tF G (c2 NP f f')):=PE.en (UA hu ha hb m) λσ H Q hh=>by
 obtain⟨F,ρ,T,d,I,R,e,k⟩:=hh;obtain⟨x,y,q,Y,e2,c⟩:=E7 e;cases x with
 |Q l N=>
  refine⟨F,ρ,T,_,q,R,Y,λv U W E M r1=>?_⟩;have o:=r1;unfold cb at o;obtain⟨p,ob,xs,rfl,B,h2,h3⟩:=o;refine⟨p,O,.inl ⟨_,.inr ⟨_,M.sub _ _ B⟩⟩,F,q,U,y,I,M,e2,λu r h i R2 C=>?_⟩;by_cases S:y=.E
  .subst S;cases c;unfold cb at C;subst C;exact .inr ⟨O,⟨_,.inr ⟨_,R2.sub _ _ (i _ _ B)⟩⟩,k _ r h (E.t i) R2 A0⟩
  .left;have c:CM (.Q l N) y=Z d:=by
    unfold NP at c;split at c
    .exact aq O S
    .exact c
   unfold CM at c;cases t:BJ y with
   |none=>simp only[t]at c;cases c
   |some j=>
    simp only[t]at c;cases c;have lv:=Dk (ks:=l) j (uS.mono i _ _ h3) h2;refine⟨y9 (l.zip xs) j,?_,?_⟩
    .rw[Ca C t];exact ts.kf (R2.sub _ _ (i _ _ B))
    .cases P:xu l N j with
     |none=>rw[P]at lv k;rw[lv];exact k _ r h (E.t i) R2 A0
     |some z=>rw[P]at lv k;obtain⟨w,w1,w2⟩:=lv;rw[w1];exact k _ r h (E.t i) R2 w2
 |_=>
  unfold NP at c;split at c
  .cases c
  .unfold CM at c;cases c
end
section
variable{X:Cx}{B:Bz}{k:Nat}{e e':Expr}{f f':FE}{apos pos:Pos}
def abZ [C:Cz X B k](d:ZE X B e f)(h:ZE X B e' f')(b:Az X e "get")(c:Ez apos pos)(a:S1 X e'):ZE X B (.Call (.Attribute e "get" apos) [e'] [] pos) (c2 NP f f'):=⟨UB (MZ C.r) d.p h.p ⟨b,by rw[a];rfl,c,by rw[a];rfl⟩⟩
end
section
variable{X:Cx}{G:Bg}
def F?:D->Option D
 |.int i=>if i.natAbs.log2<1920 then Z (.str (toString i))else J
 |_=>J
def cd_str:IY G (λc H Q=>∃i,c=[.int i]/\i.natAbs.log2<1920/\Q (.str (toString i)) H) F?:=λx z d H v Q e s a k=>by
 cases x with
 |int i=>
  rw[show F? (.int i)=if i.natAbs.log2<1920 then Z (.str (toString i))else J from O]at e;split at e
  .rename_i b;cases e;unfold cb at a;subst a;exact⟨i,O,b,k _ λ_ _=>zJ _⟩
  .cases e
 |_=>cases e
def pf_b2{e:Expr}{r:bL->Hp->VK->Prop}{g:Int->Int->Int}{f m:FE}(B:∀i j H Q,Q (.int (g i j)) H->r [.int i,.int j] H Q)(h:PE X e (tCB r (vf G (ax f (ax m vC))))):PE X e (tF G (c2 (λx y=>match x,y with|.int i,.int j=>Z (.int (g i j))|_,_=>J) f m)):=PE.en h λT H Q A=>by
 obtain⟨F,C,q,d,l,R,e,k⟩:=A;obtain⟨x,y,E,w,z,c⟩:=E7 e;split at c
 .cases c;rename_i i j;refine⟨F,C,q,[.int i,.int j],l,R,by unfold ax;rw[w];simp only[z];rfl,λS I t s u rs=>?_⟩;unfold uS at rs;obtain⟨v,M,rfl,p,o⟩:=rs;unfold uS at o;obtain⟨P,N,rfl,b,a⟩:=o;unfold uS at a;subst a;unfold cb at p b;subst p b;exact B i j _ _ (k _ _ _ s u (xy _))
 .cases c
def Xn:D->D->Option D:=λx y=>match x,y with|.int i,.int j=>Z (.int (if j > i then j else i))|_,_=>J
def X?:D->D->Option D:=λx y=>match x,y with|.int i,.int j=>Z (.int (if j<i then j else i))|_,_=>J
def iR2(f c:FE):FA:=λd=>match f d with
 |some (.int i,a)=>match c a with
  |some (.int j,b)=>if (-1000000<=i/\i<=1000000)/\-1000000<=j/\j<=1000000 then Z (B6 i (j - i).toNat,b)else J
  |_=>J
 |_=>J
def W1(h:PI X u e (X9 (vf G (ax f (ax r vC))))):PI X u e (XC G (iR2 f r)):=PI.en h λP H R t=>by
 obtain⟨F,w,l,B,x,R,e,k⟩:=t;unfold iR2 at e;split at e
 .rename_i i y p;split at e
  .rename_i j z q;split at e
   .rename_i C;cases e;refine⟨F,w,l,[.int i,.int j],_,R,by unfold ax;rw[p];simp only[q];rfl,λN A m s o rs=>?_⟩;unfold uS at rs;obtain⟨v,E,rfl,d,c⟩:=rs;unfold uS at c;obtain⟨M,I,rfl,b,a⟩:=c;unfold uS at a;subst a;unfold cb at d b;subst d b;refine⟨i,j,O,⟨by omega,by omega,by omega,by omega⟩,?_⟩;exact k _ _ _ s o Nj
   .cases e
  .cases e
 .cases e
end
section
variable{X:Cx}{B:Bz}{k:Nat}{e e' tg:Expr}{f f':FE}{p p2 p3 pos apos:Pos}
def zr_srI [C:Cz X B k][N:Nb B "str"](c:Gz X "str")(a:S1 X e)(b:ZE X B e f):ZE X B (.Call (.Name "str" p) [e] [] pos) (c1 F? f):=⟨Tr cd_str (ctI c (by decide) a LI (by decide +kernel) (wU b.p yh a))⟩
def zr_mxI [C:Cz X B k][N:Nb B "max"](l:Gz X "max")(b:aA [e,e'] X.b1=[(δ,eval e X.b1),(δ,eval e' X.b1)])(a:S1 X e')(d:ZE X B e f)(h:ZE X B e' f'):ZE X B (.Call (.Name "max" p) [e,e'] [] pos) (c2 Xn f f'):=
 ⟨pf_b2 (g:=λi j=>if j > i then j else i) (λi j H Q q=>⟨i,j,O,q⟩) (BF (QV C.c) l (C.mg▸N.p) boot_max (wU d.p (wU h.p yh a) (by rw[b,a])) (by decide) (by decide) (by rw[b,a]) (by rw[a];rfl))⟩
def zr_mnI [C:Cz X B k][N:Nb B "min"](l:Gz X "min")(b:aA [e,e'] X.b1=[(δ,eval e X.b1),(δ,eval e' X.b1)])(a:S1 X e')(d:ZE X B e f)(h:ZE X B e' f'):ZE X B (.Call (.Name "min" p) [e,e'] [] pos) (c2 X? f f'):=
 ⟨pf_b2 (g:=λi j=>if j<i then j else i) (λi j H Q q=>⟨i,j,O,q⟩) (BF (QW C.c) l (C.mg▸N.p) boot_min (wU d.p (wU h.p yh a) (by rw[b,a])) (by decide) (by decide) (by rw[b,a]) (by rw[a];rfl))⟩
def zr_r2I [C:Cz X B k][N:Nb B "range"](h:Gz X "range")(b:aA [e,e'] X.b1=[(δ,eval e X.b1),(δ,eval e' X.b1)])(a:S1 X e')(c:ZE X B e f)(d:ZE X B e' f'):ZI X B tg (.Call (.Name "range" p) [e,e'] [] pos) (iR2 f f'):=⟨W1 (QT h (C.mg▸N.p) (wU c.p (wU d.p yh a) (by rw[b,a])) b a)⟩
end
def tOr(t a:Ty->Option Bool):Ty->Option Bool:=λy=>match t y with
 |some γ=>match a y with
  |some _=>Z γ
  |none=>J
 |some δ=>a y
 |none=>J
def inst_or(h:Jd G c t)(l:Jd G d i):PZ G [c,d] (tOr t i):=by
 refine⟨λy b e=>?_,λj b e=>?_⟩
 .unfold tOr at e;show kitAny G.K (y.val G) [.ref (G.ca c),.ref (G.ca d)]=Z b;unfold kitAny;cases a:t y with
  |none=>simp only[a]at e;cases e
  |some v=>
   simp only[a]at e;rw[h.1 y v a];cases v with
   |true=>
    cases f:i y with
    |none=>simp only[f]at e;cases e
    |some w=>simp only[f]at e;cases e;rfl
   |false=>simp only at e;unfold kitAny;simp only;rw[l.1 y b e];cases b<;>rfl
 .unfold tOr at e;cases a:t (.c j)with
  |none=>simp only[a]at e;cases e
  |some v=>exact h.2 j v a
section
variable{X:Cx}{B:Bz}{k:Nat}{e:Expr}{f:FE}{p p2 p3 p4 pos:Pos}{x y:Str}
def zr_i2I{d}[Q:Ic B x t][o:Ic B y F][C:Cz X B k][N:Nb B "isinstance"](u:Gz X "isinstance")(r:Gz X x)(i:Gz X y)(m:aA [e,.Tuple [.Name x p2,.Name y p3] d p4] X.b1=[(δ,eval e X.b1),(δ,eval (.Tuple [.Name x p2,.Name y p3] d p4) X.b1)])(a:S1 X (.Tuple [.Name x p2,.Name y p3] d p4))(j:aA [.Name x p2,.Name y p3] X.b1=[(δ,eval (.Name x p2) X.b1),(δ,eval (.Name y p3) X.b1)])(b:S1 X (.Name y p3))(q:ZE X B e f)(hd:Dz x)(h:Dz y):ZE X B (.Call (.Name "isinstance" p) [e,.Tuple [.Name x p2,.Name y p3] d p4] [] pos) (c1 (v3 (tOr t F)) f):=by
 obtain⟨c,w,z⟩:=Q.p;obtain⟨l,A,E⟩:=o.p;refine⟨T5 (cs:=[c,l]) (BF (OK (inst_or w A) C.K) u (C.mg▸N.p) lY (xj q.p (xj (SC (xj (Ih (v:=.ref (B.G.ca c)) r (C.mg▸z) O hd) (xj (Ih (v:=.ref (B.G.ca l)) i (C.mg▸E) O h) zW b) ?_)) zW a) ?_) (by decide) (by decide) ?_ ?_) (by show 2<=1000;decide)⟩
 .rw[j,b]
 .rw[m,a]
 .rw[m,a]
 .rw[a];rfl
end
section
variable{P:aH}{w:az}{mg:Str->Option ab}{b?:Heap}{G:Bg}{x:Str}
def GX(K:av)(x s:Str):Prop:=∃t:Tok,nsIn K bf x=Z (Z (.str s t))
def const_str(X:G.K.In h)(a:h.Ns bf mg)(e:nsIn G.K bf x=Z (Z (.str z t))):A2 G mg x (.str z):=
 ⟨.str z,_,i7 X a e,⟨_,O⟩,λ_=>zJ _⟩
def Yw.cx(y:Yw P w mg b? G)(q:GX G.K x s):A2 G mg x (.str s):=by obtain⟨h,X,a⟩:=y.m;obtain⟨t,e⟩:=q;exact const_str X a e
end
section
variable{X:Cx}{G:Bg}
theorem Ra{K:av}:∀{l:List L3.Dq} {f:bL} {c:List ab},L3.uS K H l f->er f c->(∀u∈c,∃e∈l,∃x,L3.cb K H e x/\e8 x u)/\∀e∈l,∃u∈c,∃x,L3.cb K H e x/\e8 x u
 |[],f,c,r,v=>by unfold L3.uS at r;subst r;cases v;exact⟨λu b=>(by cases b),λe a=>(by cases a)⟩
 |d::l,f,c,r,v=>by
  unfold L3.uS at r;obtain⟨x,q,rfl,h,j⟩:=r;cases v with
  |cons i p=>
   obtain⟨m,o⟩:=Ra j p;refine⟨λu b=>?_,λe a=>?_⟩
   .rcases aO.1 b with rfl|b
    .exact⟨d,aX,x,h,i⟩
    .obtain⟨e,a,z⟩:=m u b;exact⟨e,ba _ a,z⟩
   .rcases aO.1 a with rfl|a
    .exact⟨_,aX,x,h,i⟩
    .obtain⟨u,b,z⟩:=o e a;exact⟨u,ba _ b,z⟩
end
section
variable{X:Cx}{B:Bz}{k i:Nat}{e:Expr}{f:FE}{a:FA}{x:Str}{p p2 p3 pos apos:Pos}
def zr_xsI{b}(h:yq X i x=γ)(d:ZE X B e f)(l:swapsWithSole [.Subscript (.Name x p) (.Constant (.int j) b p2) p3] e pos.line X.b1=pure δ)(m:swappedStores [.Subscript (.Name x p) (.Constant (.int j) b p2) p3] e X.b1=pure J)
  (c:(b9 [.Subscript (.Name x p) (.Constant (.int j) b p2) p3] X.b1).map (·.2)=[assign (.Subscript (.Name x p) (.Constant (.int j) b p2) p3) X.b1]):ZS X B (.Assign [.Subscript (.Name x p) (.Constant (.int j) b p2) p3] e pos) (Bi i j f):=⟨RA (Sm d.p (Y0 (S3 h) LF set_list) l m c)⟩
def zr_xeI [C:Cz X B k](h:yq X i x=γ)(d:Az X (.Name x p) "extend")(j:Ez apos pos)(b:S1 X e)(c:ZN X B e a):ZE X B (.Call (.Attribute (.Name x p) "extend" apos) [e] [] pos) (HX i a):=
 ⟨Rp (bmI d j b jI jC pd Q4 (S3 h) (xj c.p zW b))⟩
end
section
variable{B:Bz}[Y:Yb B]{k np n:Nat}{b:FS}{x p:Str}{ps:aE}{st s0:Stmt}{l:List Stmt}
def gM5(N:aE)(c:g=u6 np n b)(q:GD B.G.K x st)(d:vY st=s0::l)(e:psO st=p::ps)(body:μ B N x st (s0::l) k b)(S:okO N (p::ps) st (np+1) n=γ:=by kernel_rfl)(a:ε x x st (p::ps):=by (repeat intro _);rfl):Df B (k+1) x (vl B.G g):=
 ⟨_,gM c Y.y q (yr S).1 (body.ok d) (iW (yr S).2.1) (yr S).2.2 a⟩
end
def sOf:ab->Str
 |.str x _=>x
 |_=>""
structure ke(w:az)(h:Heap)(S:Addr)(ss:aE)(led:Bool)(o:Obj)(es:Array (Int×ab))(ep:Nat)(t:bC):Prop where
 i?:h.get? S=Z o
 ex:o.ExactSet
 d:o.data=.set es ep t
 f:t.fits es.size=γ
 led:t.led=led
 pl:0<ss.length->t.plain=δ
 el:∀e∈es.toList,∃x tk,e=(hashStr w x,Value.str x tk)
 p:(es.toList.map λe=>sOf e.2).Perm ss
def ke.sz{w:az}{h:Heap}{S:Addr}{a:aE}{led:Bool}{o:Obj}{es:Array (Int×ab)}{ep:Nat}{t:bC}(x:ke w h S a led o es ep t):es.size=a.length:=by have:=x.p.length_eq;rw[ag,bM]at this;exact this
def lay_led(t:bC)(a:Array (Int×ab))(h:Int)(x:ab):(layNew t a h x).2.1.led=t.led/\(t.plain=δ->(layNew t a h x).2.1.plain=δ):=by
 unfold layNew;split
 .rename_i b c e;show ((t.put b).1.orStandIn _).led=_/\(_->((t.put b).1.orStandIn _).plain=δ);unfold SetTable.orStandIn;split
  .exact⟨O,id⟩
  .exact⟨O,λ_=>O⟩
 .exact⟨O,λ_=>O⟩
def relay_led(t:bC)(a:Array (Int×ab))(n:Nat):(relayAll t a n).2.1.led=t.led/\(t.plain=δ->(relayAll t a n).2.1.plain=δ):=by
 unfold relayAll;split
 .rename_i c order e;unfold SetTable.relaid mj at e;obtain⟨b,_,e⟩:=jv.1 e;cases e;dsimp only;split
  .exact⟨O,id⟩
  .exact⟨O,λ_=>O⟩
 .exact⟨O,λ_=>O⟩
section
variable{prog:aH}{w:az}{A:aJ}{E:ab->ae->Prop}{s:ae}{S:Addr}{o:Obj}{es:Array (Int×ab)}{ep:Nat}{t:bC}{ss:aE}{led:Bool}
def ke.elems(x:ke w s.heap S ss led o es ep t):ElemsOf (dU prog w) es.toList:=λe a=>by obtain⟨z,b,rfl⟩:=x.el e a;exact⟨⟨z,by simp[dU,gZ],O⟩,O⟩
def ke.mem(x:ke w s.heap S ss led o es ep t)(z:Str):z∈ss ↔ ∃e∈es.toList,(dU prog w).is z e.2=γ:=by
 rw[<-x.p.mem_iff,au];constructor
 .rintro⟨e,a,rfl⟩;obtain⟨y,b,rfl⟩:=x.el e a;exact⟨_,a,by simp[dU,gZ,sOf]⟩
 .rintro⟨e,a,h⟩;obtain⟨y,b,rfl⟩:=x.el e a;exact⟨_,a,by simpa [dU,gZ,sOf]using h⟩
def ke.stored(x:ke w s.heap S ss led o es ep t){a:Array (Int×ab)}{b:bC}{ss':aE}(f:b.fits a.size=γ)(l:b.led=led)(pl:0<ss'.length->b.plain=δ)(el:∀e∈a.toList,∃x tk,e=(hashStr w x,Value.str x tk))(p:(a.toList.map λe=>sOf e.2).Perm ss'):
  ke w (s.heap.update S (hU a b)) S ss' led { o with data:=.set a (ep+1) b } a (ep+1) b:=
 ⟨OL x.i? x.d,x.ex,O,f,l,pl,el,p⟩
def tail_x{g:Bool->Sem Unit}(hg:∀(b:Bool) (i:ae) (B:Unit->ae->Prop),B () i->ah (model prog w) A (g b) B E i)(X:ke w s.heap S ss led o es ep t)
  {a:Array (Int×ab)} {c:bC} {ss':aE} (f:c.fits a.size=γ) (l:c.led=led) (pl:c.plain=δ) (el:∀e∈a.toList,∃x tk,e=(hashStr w x,Value.str x tk)) (p:(a.toList.map λe=>sOf e.2).Perm ss') (hb:a.size<scanBound)
  {wasDummy:Bool} {R:Option Bool->ae->Prop} (h:∀h' G u r H,dD S s.heap h'->ke w h' S ss' led G u r H->R (Z γ) { s with heap:=h' }):
  ah (model prog w) A (do
    storeSet S a c
    if (!wasDummy&&c.tooFull)=γ then do
      g (relayAll c a (dS a.size)).2.2
      storeSet S (relayAll c a (dS a.size)).1 (relayAll c a (dS a.size)).2.1
      pure (Z γ)
     else pure (Z γ)) R E s:=by
 refine af (jJ X.i? X.d ?_ (pH hb));have m:=X.stored (ss':=ss') f l (λ_=>pl) el p;have hsb1:=dv s.heap S (hU a c);split
 .have j:=relayAll_perm c a (dS a.size);have hfr:=relayAll_fits c a (dS a.size);have q:=relay_led c a (dS a.size);generalize relayAll c a (dS a.size)=C at j hfr q ⊢;obtain⟨y,I,gave2⟩:=C;dsimp only at j hfr q ⊢;have z:y.size=a.size:=by rw[<-bM,j.length_eq,bM]
  refine af (hg _ _ _ ?_);refine af (jJ m.i? m.d ?_ (pH (by rw[z];exact hb)));exact ar (h _ _ _ _ _ (hsb1.t (dv _ S _)) (ke.stored (s:={ s with heap:=s.heap.update S (hU a c) }) (ss':=ss') m hfr (q.1.t l) (λ_=>q.2 pl) (λe F=>el e (j.mem_iff.1 F)) ((j.map _).t p)))
 .exact ar (h _ _ _ _ _ hsb1 m)
def add_x(X:ke w s.heap S ss led o es ep t)(hb:ss.length+1<scanBound)
  (G:x∈ss->Q δ s)
  (H:x∉ss->∀h' q h c r,dD S s.heap h'->ke w h' S (ss++[x]) led q h c r->Q γ { s with heap:=h' }):ah (model prog w) A (setAddHashed S (.str x tk) (hashStr w x)) Q E s:=by
 have sz:=X.sz;have hkey:(dU prog w).is x (.str x tk)=γ:=by simp[dU,gZ]
 unfold setAddHashed setAddHashedIn;refine bP (af (dg X.i? X.d X.f ?_));dsimp only;rw[byScan_of (knd:=dU prog w) O (by omega) X.elems];simp only[↓reduceIte];unfold setAddByScan;refine af ?_;refine af (hX ?_);refine af (wpAny_setScan_of (knd:=dU prog w) hkey X.i? X.d X.f X.elems ?_);cases hr:List.findIdx? (λe=>(dU prog w).is x e.2) es.toList with
 |some j=>dsimp only;obtain⟨I,hpj,_⟩:=List.findIdx?_eq_some_iff_getElem.1 hr;exact ar (ar (G ((X.mem (prog:=prog) x).2 ⟨es.toList[j],fA I,hpj⟩)))
 |none=>
  dsimp only;have nin:x∉ss:=λN=>by obtain⟨e,l,M⟩:=(X.mem (prog:=prog) x).1 N;have:=List.findIdx?_eq_none_iff.1 hr e l;rw[M]at this;exact lD this
  have hgw:∀(b:Bool) {a:ae} {u:Unit->ae->Prop},u () a->ah (model prog w) A (match b with|true=>rule "set.scan.the-table-gave-way" |false=>pure ()) u E a:=
   λb a u m=>by cases b<;>first|exact ar m|exact hX m
  have hperm:=layNew_perm t es (hashStr w x) (.str x tk);have hfits:=layNew_fits t es (hashStr w x) (.str x tk);have hled:=lay_led t es (hashStr w x) (.str x tk);show ah _ _ (match layNew t es (hashStr w x) (.str x tk)with|(es,t,wasDummy,gave)=>_) _ _ _;generalize layNew t es (hashStr w x) (.str x tk)=L at hperm hfits hled ⊢;obtain⟨i,P,wasDummy,gave⟩:=L;dsimp only at hperm hfits hled ⊢;rw[lj]at hperm;have y:∀e∈i.toList,∃x tk,e=(hashStr w x,Value.str x tk):=λe l=>by
   rcases aV.1 (hperm.mem_iff.1 l)with l|l
   .exact X.el e l
   .rw[bp]at l;exact⟨x,tk,l⟩
  have F:(i.toList.map λe=>sOf e.2).Perm (ss++[x]):=by have:=hperm.map λe:Int×ab=>sOf e.2;rw[bz]at this;exact this.t (X.p.append_right _)
  have z:i.size<scanBound:=by rw[<-bM,hperm.length_eq,aC,bM,sz];exact hb
  refine af (hgw _ ?_);have end_:∀(h':Heap) (q:Obj) (h:Array (Int×ab)) (c:Nat) (r:bC),dD S s.heap h'->ke w h' S (ss++[x]) led q h c r->Q γ { s with heap:=h' }:=H nin;split
  .refine af ?_;rw[hashByValue_scannable 8 O];refine ar ?_;show ah _ _ (storeSet S i { P with plain:=δ }>>=_) _ _ _;refine tail_x ?_ X (SetTable.fits_plain_off hfits) (hled.1.t X.led) O y F z ?_
   .intro b a u m;cases b<;>first|exact ar m|exact hX m
   .intro h' q h c r C B;dsimp only;exact ar (end_ h' q h c r C B)
  .rename_i hpl;refine af (ar ?_);simp only[↓reduceIte];refine tail_x ?_ X hfits (hled.1.t X.led) (by simpa using hpl) y F z ?_
   .intro b a u m;cases b<;>first|exact ar m|exact hX m
   .intro h' q h c r C B;dsimp only;exact ar (end_ h' q h c r C B)
end
section
variable{prog:aH}{w:az}{A:aJ}{E:ab->ae->Prop}{s:ae}{S:Addr}{o:Obj}{es:Array (Int×ab)}{ep:Nat}{t:bC}
theorem iter_X(x:ke w s.heap S ss (!w.params.followText "set-order") o es ep t)(C:ss.length<64)
  (hQ:∀(h':Heap) (I TP:Addr) (kx:List ab) (d:Drawn),s.heap.objs.size<=I->I<h'.objs.size->TP≠I->(TP=S\/s.heap.objs.size<=TP)->(∀b o,s.heap.get? b=Z o->h'.get? b=Z o)->ItS w I S TP kx o es ep t 0 h'->kx.Perm (es.toList.map bI)->Q (.ref I) { s with heap:=h',drawn:=d }):
  ah (model prog w) A (pyIter (.ref S)) Q E s:=by
 have hf:=x.f;have ty:s.TypeIs (.ref S) "set" := ⟨o,x.i?,x.ex.1⟩;have hlt:=aR x.i?;refine pG ty qf (fX qf ty Mi ?_ (F.args_set_iter_1 _));unfold dJ.«frozenset.__iter__»;refine af (m:=tP _ _) (ar ?_);refine af ?_;unfold tL setEntries;refine af (af (dg x.i? x.d hf (ar ?_)));refine ar ?_;refine af ?_;unfold setDrawn;refine af (dg x.i? x.d hf ?_);dsimp only;refine af (Gw ?_);refine ar ?_;have plain0:(w.params.followText "set-order" = γ\/(w.params.followText "set-order" = δ/\es.size<=1))->ah (model prog w) A.in1 (do
   let first<-pure (rawInt 0)
   let e<-setEpoch S;let r<-newFields "set_iterator" [first,rawInt 0,Value.ref S,rawInt ↑es.size,rawInt ↑e]
   ret r) (λfin i=>∃v,fin=Fin.done (Flow.ret v)/\∃a r,i.TypeIs v a/\typeLookup (Value.type a) (jP "__next__")=pure (Z r)/\Q v i) E s:=λc=>by
  refine af (ar ?_);refine af (pI x.i? x.d hf ?_);refine af (dO ?_);have h:∀(l:Obj) (b:Addr) (o:Obj),s.heap.get? b=Z o->(s.heap.push l).get? b=Z o:=λl b o e=>aK _ e;have it:∀kx,Md w (s.heap.push { cls:=.type "set_iterator", data:=.fields [rawInt 0,rawInt 0,Value.ref S,rawInt ↑es.size,rawInt ↑ep].toArray }) S S 0 kx es ep t (.int 0 0)->kx.Perm (es.toList.map bI)->_:=λkx m p=>ar (M:=model prog w) (A:=A.in1) (E:=E) (Q:=λfin i=>∃v,fin=Fin.done (Flow.ret v)/\∃a r,i.TypeIs v a/\typeLookup (Value.type a) (jP "__next__")=pure (Z r)/\Q v i) ⟨.ref s.heap.objs.size,O,"set_iterator", _,⟨_,bx _ O,O⟩,ze.lookup,hQ _ s.heap.objs.size S kx s.drawn (aN _) (by rw[dc];exact dy _) (bb hlt) (.inl O) (h _) ⟨⟨_,.int 0 0,bx _ O,O,O,m⟩,h _ _ _ x.i?,x.d,hf⟩ p⟩;rcases c with c|⟨c1,c2⟩
  .exact it _ (.txt c O) ((K2 _ es).map _)
  .exact it _ (.one c1 c2 (by rw[x.led,c1];rfl) (λ_=>O) (λj e=>by cases e) O) (.refl _)
 cases c:w.params.followText "set-order" with
 |true=>rw[ao (by simp)];exact plain0 (.inl c)
 |false=>
  by_cases y:es.size<=1
  .rw[ao λz=>by
    have:(!δ&&(!t.plain&&decide (es.size > 1)))=γ:=z;simp at this;omega]
   exact plain0 (.inr ⟨c,y⟩)
  .have pl:t.plain=δ:=x.pl (by have:=x.sz;omega);rw[aj (by show (!δ&&(!t.plain&&decide (es.size > 1)))=γ;rw[pl];simp;omega)];refine af (Qc es.size _ s cH λB d p=>?_);refine af (qq ?_ (by
    rw[ag,p.length_eq,cH,x.sz,bQ];omega))
   refine af (pI (aK _ x.i?) x.d hf ?_);refine af (dO ?_);have h:∀(q u:Obj) (b:Addr) (o:Obj),s.heap.get? b=Z o->((s.heap.push q).push u).get? b=Z o:=λq u b o e=>aK _ (aK _ e);have kx:(B.filterMap λp=>es[p]?.map bI).Perm (es.toList.map bI):=by refine(p.filterMap _).t ?_;rw[show (aZ es.size).filterMap (λp=>es[p]?.map bI)=((aZ es.size).filterMap λp=>es[p]?).map bI from(pf ..).symm,kI]
   refine ar ⟨_,O,"set_iterator", _,⟨_,bx _ O,O⟩,ze.lookup,hQ _ _ s.heap.objs.size _ d ?_ ?_ ?_ (.inr (aN _)) (h _ _) ⟨⟨_,.ref s.heap.objs.size,bx _ O,O,O,.drw c (aK _ (bx _ O)) O O O p O⟩,h _ _ _ _ x.i?,x.d,hf⟩ kx⟩
   .rw[dc];exact gp _
   .exact Nat.lt_of_lt_of_eq (dy _) (dc _ _).symm
   .rw[dc];exact bb (dy _)
end
section
variable{prog:aH}{w:az}{A:aJ}{E:ab->ae->Prop}{s:ae}{S:Addr}{o:Obj}{es:Array (Int×ab)}{ep:Nat}{t:bC}{ss:aE}
def ke.g?{h h':Heap}{led:Bool}(x:ke w h S ss led o es ep t)(k:∀o,h.get? S=Z o->h'.get? S=Z o):ke w h' S ss led o es ep t:={ x with i?:=k _ x.i? }
theorem collect_X(M:A.handled=J)(x:ke w s.heap S ss (!w.params.followText "set-order") o es ep t)(N:ss.length<64)
  (hQ:∀c k2 d2 acc,s.heap.objs.size<=c.objs.size->(∀b o,s.heap.get? b=Z o->c.get? b=Z o)->acc.Perm (es.toList.map bI)->Q acc { s with heap:=c,toks:=k2,drawn:=d2 }):ah (model prog w) A (collect (.ref S)) Q E s:=by
 have hlt:=aR x.i?;have P:es.size<=63:=by have:=x.sz;omega
 let lO:Obj:={ cls:=.type "list", data:=.seq ([]:List ab).toArray };unfold collect;refine af (qo (dQ F.entry_proto_collect ?_));rw[eC F.plain_proto_collect _];show ah _ A.in1 (newList []>>=λl=>again (.builtin "list.__iadd__" ⟨[l,.ref S],[]⟩)) _ _ s;refine af (dO ?_);refine ar ⟨gh pJ _,dQ F.entry_list_iadd ?_⟩;rw[eC pJ _];show ah _ A.in1 (nQ (.ref s.heap.objs.size) (.ref S) (.ref s.heap.objs.size)) _ _ _;have m:(s.heap.push lO).objs.size=s.heap.objs.size+1:=dc _ _;have r:ke w (s.heap.push lO) S ss (!w.params.followText "set-order") o es ep t:=x.g? λo e=>aK _ e;have B:md { s with heap:=s.heap.push lO } (.ref S) "set" := ⟨o,r.i?,x.ex.1⟩;unfold nQ;refine af (jQ B ?_);rw[ao (by
  have:n4 (.ref s.heap.objs.size) (.ref S)=δ:=by simp[n4];exact λe=>aq e (gm hlt)
  rw[this];decide)]
 refine af (iter_X (s:={ s with heap:=s.heap.push lO }) r N λa I TP kx i hI1 hI2 hTI hTP p it po=>?_);have hI:s.heap.objs.size+1<=I:=by rw[<-m];exact hI1
 have L3:a.get? s.heap.objs.size=Z lO:=p _ _ (bx _ O);have d:md { s with heap:=a,drawn:=i } (.ref S) "set" := ⟨o,it.i?,x.ex.1⟩;have u:∀b o,s.heap.get? b=Z o->a.get? b=Z o:=λb o e=>p b o (aK _ e);show ah _ A.in1 (holding [.ref I] (nR (.ref S))>>=_) _ _ { s with heap:=a,drawn:=i };refine af (bP ?_);unfold nR;refine af (gW d F.slot_set_len.lookup ?_);generalize hid:("set.__len__" : String)=f;wp_delta;rw[show splitId f=Z ("set", "__len__") from by subst hid;decide +kernel];subst hid;refine af (pY d sub_set_self ?_);dsimp only;rw[ao (by decide),aj (by decide +kernel)];refine af (jQ d ?_);refine ar ?_;rw[aj (by decide +kernel)];refine af (hX ?_);refine af ?_;show ah _ A.in1 (updateSeq s.heap.objs.size (·.push .none)>>=λ_=>updateSeq s.heap.objs.size (·.pop)) _ _ _
 refine af (lX L3 O ?_);have h:=fi (cN (·.push Value.none)) L3 O
 refine lX h O ?_;have y:=fi (cN (·.pop)) h O
 have oth:∀b o,b≠s.heap.objs.size->a.get? b=Z o->((a.update s.heap.objs.size (cN (·.push Value.none))).update s.heap.objs.size (cN (·.pop))).get? b=Z o:=
  λb o hb e=>(gH _ _ (dj hb)).t ((gH _ _ (dj hb)).t e)
 have hSI:S≠I:=bb (cv hlt (pK hI));have hSf:s.heap.objs.size∉[I,S,TP]:=by
  intro z;rcases aO.1 z with z|z
  .exact aq z (bb hI)
  .rcases aO.1 z with z|z
   .exact aq z (gm hlt)
   .rw[bp]at z;rcases hTP with e|e
    .exact aq (z.t e) (gm hlt)
    .rw[<-z,m]at e;exact aq e (Nat.not_succ_le_self _)
 have W:=abU (prog:=prog) (w:=w) (A:=A.in1) (I:=I) (S:=S) (TP:=TP) (kx:=kx) (o:=o) (es:=es) (ep:=ep) (t:=t) (by simp[M]) hSI hTI;have U:kx.length<=63:=by rw[po.length_eq,ag,bM];exact P
 refine ar ⟨gh F.plain_extend_loop _,codeAny_extend_loopS W.toS (by rw[bQ];omega) _ hSf _ kx.length 0 _ _ _ O (cp _)
  (W.frame 0 a _ ⟨it,cp _⟩ λb hb o e=>oth b o (λz=>hSf (by rw[<-z];exact hb)) e) y (ItemsOf.nil _) λq acc' T hm hS' hacc=>?_⟩
 show ah _ A (load s.heap.objs.size>>=_) _ _ q;refine af (wpAny_load hS' ?_);have C:acc'.toList=kx:=by
  apply la;intro j;cases e:acc'.toList[j]? with
  |none=>rw[List.getElem?_eq_none_iff,bM,hacc.1]at e;exact(gL e).symm
  |some v=>rw[iz]at e;exact(hacc.2 j v e).symm
 obtain⟨c,g2,d2,k2,R⟩:=q;have G:g2=s.gens:=hm.gens;have H:R=s.os:=hm.os;subst G H;refine ar (hQ c k2 d2 acc'.toList (iU (aR hS')) (λb o e=>?_) (by rw[C];exact po));have hb:=aR e;exact hm.heap b o (λz=>by
  rcases aO.1 z with z|z
  .exact aq z (bb hb)
  .exact aq (bp.1 z) (bb (cv hb (pK hI)))) (oth b o (bb hb) (u b o e))
def τ(W:WalksS prog w A.in1 I fp j GG n PP SS)(hSf:S∉fp)(ks:aE)(hn:ks.length=n)(M:n<64)
  (hval:∀i v,PP i v->∃x tk,ks[i]?=Z x/\v=.str x tk):∀(k i:Nat) (s:ae) (o:Obj) (es:Array (Int×ab)) (ep:Nat) (t:bC),n - i=k->i<=n->SS i s->ke w s.heap S (y' (ks.take i)) led o es ep t->
   (∀a o es ep t,Moved (S::j) GG s a->ke w a.heap S (y' ks) led o es ep t->R (.ok (.ret .none)) a)->
   cy (model prog w) A (.builtin "set.update.loop" ⟨[.ref S,.ref I],[]⟩) R s:=by
 have hSw:S∉j:=λz=>hSf ((W).sub _ z);have up:∀b∈j,b∈S::j:=λb z=>ba _ z;intro k
 induction k with
 |zero=>
  intro i s o es ep t N hi hst x hR;obtain rfl:i=n:=by omega
  refine dQ gG ?_;rw[eC dM _];show ah _ A.in1 (pyNext (.ref I)>>=_) _ _ s;refine af (W.done s _ _ hst λa hm=>?_);show ah _ A.in1 (ret Value.none) _ _ a;rw[iy (by omega)]at x;exact ar (hR a o es ep t (hm.mono up) { x with i?:=hm.heap S _ hSw x.i? })
 |succ k u=>
  intro i s o es ep t N hi hst x hR;have hlt:i<n:=by omega
  refine dQ gG ?_;rw[eC dM _];show ah _ A.in1 (pyNext (.ref I)>>=_) _ _ s;refine af (W.item i s _ _ hlt hst λv a hP hst' hm=>?_);obtain⟨q,tk,F,rfl⟩:=hval i v hP;show ah _ A.in1 (holding _ (setAdd S _)>>=_) _ _ a;refine af (bP ?_);unfold setAdd;refine bP ?_;refine af (pL ?_);have split:y' (ks.take (i+1))=if q∈y' (ks.take i)then y' (ks.take i)else y' (ks.take i)++[q]:=by unfold y';rw[lh,F,pA];rfl
  have B:ke w a.heap S (y' (ks.take i)) led o es ep t:={ x with i?:=hm.heap S _ hSw x.i? };have U:(y' (ks.take i)).length<=i:=by have H:=NJ (OW (ks.take i)) λz P=>Ml.1 P;rw[bY]at H;omega
  refine add_x (s:={ a with toks:=a.toks+1 }) B (by unfold scanBound;omega) (λinn=>?_) λnin h' Q G C T r y=>?_
  .have e:y' (ks.take (i+1))=y' (ks.take i):=by rw[split,aj inn]
   refine ar ⟨gh dM _,u (i+1) _ o es ep t (by omega) hlt (W.frame _ a a.heap _ hst' (gU _ _) λb z o e=>e) (by rw[e];exact B) λh l f d m c p=>?_⟩;exact hR h l f d m (jT W.gtrans ((hm.mono up).then_heap (gU _ _) λb o z e=>e) c) p
  have e:y' (ks.take (i+1))=y' (ks.take i)++[q]:=by rw[split,ao nin]
  refine ar ⟨gh dM _,u (i+1) _ _ _ _ _ (by omega) hlt (W.frame _ a h' _ hst' (gU _ _) λb z o e=>?_) (by rw[e];exact y) λh l f d m c p=>?_⟩
  .rw[r.2 b (λy:b=S=>hSf (by rw[<-y];exact z))];exact e
  .refine hR h l f d m (jT W.gtrans ((hm.mono up).then_heap (gU _ _) λb o z e=>?_) c) p;rw[r.2 b (λy:b=S=>z (by rw[y];exact aX))];exact e
def set_X{ks:aE}(I:c3 X pins σ H s)(Y:A.handled=J)(hq:gi X.K H a (ks.map V.str))(l:ks.length<64)
  (h:∀c k2 o es ep t,ke X.w c s.heap.objs.size (y' ks) (!X.w.params.followText "set-order") o es ep t->(∀b o,b<s.heap.objs.size->s.heap.get? b=Z o->c.get? b=Z o)->Q (.ref s.heap.objs.size) { s with heap:=c,toks:=k2 }):
  ah (model X.prog X.w) A (call (.type "set") [.ref a]) Q E s:=by
 have T:A.in1.in1.in1.handled=J:=by simp[Y]
 obtain⟨d,r,pp,_⟩:=I.list hq;obtain⟨o,p,m,n,hd⟩:=pp.isList;have hlt:=aR p;have hne:a≠s.heap.objs.size+1:=bb (eI hlt);have q:ks.length=d.length:=by have:=r.length;rw[ag]at this;exact this
 refine Fj (PS:=λc=>∃o es ep t,ke X.w c s.heap.objs.size (y' ks) (!X.w.params.followText "set-order") o es ep t) p m l4 kP (by decide) (itO:={ cls:=.type "list_iterator", data:=.fields #[.ref a,.int 0 0] })
  (λA Q E s1 e k=>fV ⟨o,e,m,n,hd⟩ k) (λtk' R hR=>?_) λc k2 ⟨o,es,ep,t,x'⟩ kk=>h c k2 o es ep t x' kk
 have C:∀{b:Addr} {F:Obj},s.heap.get? b=Z F->((s.heap.push (Aw (!X.w.params.followText "set-order"))).push { cls:=.type "list_iterator", data:=.fields #[.ref a,.int 0 0] }).get? b=Z F:=λe=>aK _ (aK _ e);have it:((s.heap.push (Aw (!X.w.params.followText "set-order"))).push { cls:=.type "list_iterator", data:=.fields #[.ref a,.int 0 0] }).get? (s.heap.objs.size+1)=Z { cls:=.type "list_iterator", data:=.fields #[.ref a,.int 0 0] }:=by rw[show s.heap.objs.size+1=(s.heap.push (Aw (!X.w.params.followText "set-order"))).objs.size from(dc _ _).symm];exact bx _ O
 have W:=(i3 (prog:=X.prog) (w:=X.w) (A:=A.in1.in1.in1) T (s.heap.objs.size+1) a hne d.toArray).toS;have notin:s.heap.objs.size∉[s.heap.objs.size+1,a]:=by
  intro z;rcases aO.1 z with z|z
  .exact aq z (bb (dy _))
  .exact aq (bp.1 z) (gm hlt)
 refine τ (S:=s.heap.objs.size) (led:=!X.w.params.followText "set-order") W notin ks (by rw[bg,q]) (by rw[bg,<- q];exact l) ?_ (d.toArray.size - 0) 0 _ (Aw (!X.w.params.followText "set-order")) #[] 0 (.fresh 0 0 (!X.w.params.followText "set-order")) O (cp _) ⟨⟨_,it,O,O⟩,⟨o,C p,m,n,hd⟩⟩ ⟨aK _ (bx _ O),⟨O,O,O⟩,O,O,O,λz=>aq z (eK 0),λe U=>(by cases U),.nil⟩ λs2 o2 j f t2 mv G=>?_
 .intro i v e;rw[jy]at e;have hi:i<ks.length:=by rw[q];exact(cg.1 e).1
  obtain⟨u,B,tk,ru⟩:=r.get (i:=i) (x:=V.str ks[i]) (by rw[bB,bh hi];rfl);rw[e]at B;cases B;exact⟨ks[i],tk,bh hi,ru⟩
 .obtain⟨c,g2,d2,k2,y⟩:=s2;have N:g2=s.gens:=mv.gens;have M:d2=s.drawn:=mv.drawn;have P:y=s.os:=mv.os;subst N M P;refine hR c k2 ⟨o2,j,f,t2,G⟩ λb o hb e=>mv.heap b o (λz=>?_) (C e);rcases aO.1 z with z|z
  .exact aq z (bb hb)
  .exact aq (bp.1 z) (bb (eI hb))
end
section
variable{prog:aH}{w:az}{A:aJ}{E:ab->ae->Prop}{s:ae}
theorem L?:∀(l:List ab),(∀v∈l,∃x a,v=.str x a)->jA l (l.map sOf)
 |[],_=>.nil
 |v::l,h=>by obtain⟨x,a,rfl⟩:=h v aX;exact .cons x a (L? l λu b=>h u (ba _ b))
def sort_strs(sa:jA vs ss)(c:vs.length<64)(d:s.heap.get? l=Z (seqObj "list" vs.toArray n))
  (h:∀h' e out,DY l s.heap h'->er ((zt ss).map V.str) out->h'.get? l=Z (seqObj "list" out.toArray e)->P (.done (.ret .none)) { s with heap:=h' }):
  ah (model prog w) A (dJ.«list.sort» ⟨[.ref l],[]⟩) P E s:=by
 refine list_sort_treeK strKind_oneLt d sa.keysOf (λf i ey e=>keyKind_strs (by rw[<-e];exact sa)) c λa a1 a2=>?_;obtain⟨r,j,m,p⟩:=sorted_out_str sa a1 a2;obtain⟨e,q⟩:=sortedHeap_at (vs:=vs) (out:=(arrOf a).map (·.2)) d
 refine h _ e ((arrOf a).map (·.2)).toList (λb o hb z=>by rw[sortedHeap_old hb (aR z)];exact z) ?_ (by rw[Array.toArray_toList];exact q)
 rw[<-Jl m p];exact Uq j
def sorted_X(q:A.handled=J)(X:ke w s.heap S ss (!w.params.followText "set-order") o es ep t)(h:ss.length<64)
  (hQ:∀(p:Addr) (c:Heap) (k2:Nat) (d2:Drawn) (e:Nat) (out:List ab),s.heap.objs.size<=p->(∀b o,s.heap.get? b=Z o->c.get? b=Z o)->er ((zt ss).map V.str) out->c.get? p=Z (seqObj "list" out.toArray e)->Q (.ref p) { s with heap:=c,toks:=k2,drawn:=d2 }):
  ah (model prog w) A (call (.builtin "sorted") [.ref S]) Q E s:=by
 refine nW kind_sorted plain_sorted entry_sorted (args_sorted1 _) ?_;unfold dJ.«sorted»;refine af (m:=checkCount "sorted" 1 1 _) (ar ?_);refine af (collect_X (by simp[q]) X h λg k2 d2 acc u i f=>?_);have l:acc.length<64:=by rw[f.length_eq,ag,bM,X.sz];exact h
 have sa:=L? acc λv r=>by obtain⟨e,d,rfl⟩:=au.1 (f.mem_iff.1 r);obtain⟨x,tk,rfl⟩:=X.el e d;exact⟨x,tk,O⟩
 have es:zt (acc.map sOf)=zt ss:=by
  have B:(acc.map sOf).Perm ss:=by have:=f.map sOf;rw[bc]at this;exact this.t X.p
  exact kH (λa b _ _=>Jk a b) (ju Jj Ip _) (ju Jj Ip ss) ((gO _ J?).t (B.t (gO ss J?).symm))
 refine af (mh ?_ (by rw[bQ];omega));have on:(g.push (seqObj "list" acc.toArray 0)).get? g.objs.size=Z (seqObj "list" acc.toArray 0):=bx _ O;show ah _ _ _ _ _ { s with heap:=g.push (seqObj "list" acc.toArray 0),toks:=k2,drawn:=d2 };refine af (bP (fX qr ⟨_,on,O⟩ qb ?_ (qt _)));refine sort_strs (s:={ s with heap:=g.push (seqObj "list" acc.toArray 0),toks:=k2,drawn:=d2 }) sa l on λh' e out y j d=>?_;rw[es]at j;exact⟨_,O,ar ⟨_,O,hQ g.objs.size h' k2 d2 e out u (λb o z=>y b o (bb (aR (i b o z))) (aK _ (i b o z))) j d⟩⟩
end
section
variable{X:Cx}{G:Bg}
def tSortX(K:av)(d:TE):TE:=λe H Q=>d e H λx b=>∃(a:Addr) (c:aE),x=.ref a/\gi K b a (c.map V.str)/\c.length<64/\∀(p:Addr),b p=J->Q (.ref p) (fl b p (.bt ((zt (y' c)).map V.str)))
def pe_sortX{p2 p3:Pos}(l:X.n6=γ)(g1:Gl X "sorted")(R:X.mg "sorted" = J)(g2:Gl X "set")(S:X.mg "set" = J)(E:PE X e U)
  (w:aA [Expr.Call (.Name "set" p2) [e] [] p3] X.b1=[(δ,eval (.Call (.Name "set" p2) [e] [] p3) X.b1)]:=by rfl) (y:aA [e] X.b1=[(δ,eval e X.b1)]:=by rfl):PE X (.Call (.Name "sorted" p1) [.Call (.Name "set" p2) [e] [] p3] [] p4) (tSortX X.K U):=by
 intro pins s σ H Q I h;refine dN (BZ I g1 R mQ ?_ (by decide) (by decide));refine callWith_builtin1 ?_ w O;rw[w];show ah _ _ (spliced [(δ,eval (.Call (.Name "set" p2) [e] [] p3) X.b1)]) _ _ s;refine eE ?_;refine dN (BZ I g2 S qZ ?_ (by decide) (by decide));refine callWith_type1 (f5 (xj E zW y p3 pins s σ H (λvs H1=>match vs with
  |[x]=>∃(a:Addr) (ks:aE),x=.ref a/\gi X.K H1 a (ks.map V.str)/\ks.length<64/\∀(p:Addr),H1 p=J->Q (.ref p) (fl H1 p (.bt ((zt (y' ks)).map V.str)))
  |_=>False) I h) λus r F=>?_) y O
 obtain⟨vs,H1,d,r1,f⟩:=F
 match vs,r1,f with
 |[x],r1,f=>
 obtain⟨a,ks,C,M,c,q⟩:=f;subst C;obtain⟨u,rfl,T⟩:=mq r1;cases T;have W:(y' ks).length<64:=jE (NJ (OW ks) λz N=>Ml.1 N) c;refine set_X d (d.ok.hd l) M c λj k2 o es ep t x P=>?_;refine fW ?_;have i:c3 X pins σ H1 { r with heap:=j,toks:=k2 }:=d.g? λb o e=>P b o (aR e) e;refine sorted_X (s:={ r with heap:=j,toks:=k2 }) (d.ok.hd l) x W λp h3 k3 B e out m k4 Y hg=>?_;have A:=i.laid (t':=k3) (o:=.bt ((zt (y' ks)).map V.str)) k4 m ⟨by
  rw[ag,bQ,show (zt (y' ks)).length=_ from(gO _ J?).length_eq];omega,out,e,Y,hg⟩
 exact⟨.ref p,_,c3.drw A B,O,q p (i.fx.fresh m)⟩
def u?(f:FE):FA:=λd=>match f d with
 |some (.bt c,a)=>match Eg c with
  |some b=>if b.length<64 then Z ((zt (y' b)).map D.str,a)else J
  |none=>J
 |_=>J
def pfn_sortX(h:PE X e (tSortX G.K (tF G f))):PE X e (z0 G (u? f)):=PE.en h λI H Q u=>by
 obtain⟨F,y,j,C,z,R,e,k⟩:=u;unfold u? at e;split at e
 .rename_i m A o;cases d:Eg m with
  |none=>simp only[d]at e;cases e
  |some x=>
   simp only[d]at e;split at e
   .rename_i i;cases e;refine⟨F,y,j,_,_,R,o,λv B l s b r=>?_⟩;unfold cb at r;obtain⟨a,E,rfl,q,t⟩:=r;have w:=EC t d;subst w;exact⟨a,x,O,gi.of (b.sub _ _ q),i,λp c=>k p _ _ _ s (b.l' c _) ve (b.f3 c) (b.i0 c) (b.apart c) (ED _)⟩
   .cases e
 .cases e
end
section
variable{X:Cx}{B:Bz}{k:Nat}{e:Expr}{f:FE}{p p2 p3 pos:Pos}
def zr_wxI [C:Cz X B k][N:Nb B "sorted"][b:Nb B "set"](i:S1 X e)(h:Gz X "sorted")(a:Gz X "set")(d:ZE X B e f)(z:aA [Expr.Call (.Name "set" p2) [e] [] p3] X.b1=[(δ,eval (.Call (.Name "set" p2) [e] [] p3) X.b1)]):ZN X B (.Call (.Name "sorted" p) [.Call (.Name "set" p2) [e] [] p3] [] pos) (u? f):=⟨pfn_sortX (by rw[<-C.K];exact pe_sortX C.c h (C.mg▸N.p) a (C.mg▸b.p) d.p z i)⟩
end
end L4
namespace HT
open PySem PySem.Spec PyProof.Rows
section
variable{prog:aH}{w:az}{A:aJ}{E:ab->ae->Prop}{s:ae}
theorem G'(hne:l≠it):∀(n i:Nat) (s:ae) (Q:List ab->ae->Prop),s.heap.IsListIter it l i->s.heap.IsList l items->i+n<=items.size->
  (∀h',h'.IsListIter it l (i+n)->dD it s.heap h'->Q ((items.toList.drop i).take n) { s with heap:=h' })->ah (model prog w) A (draw (.ref it) n) Q E s
 |0,i,s,Q,hit,_,_,hQ=>by show ah _ _ (pure []) Q E s;exact ar (by simpa using hQ s.heap hit (uG ..))
 |n+1,i,s,Q,hit,d,hle,hQ=>by
  have hlt:i<items.size:=by omega
  show ah _ _ (pyNext (.ref it)>>=_) Q E s;refine af (og hit d (x:=items[i]) (by simp[hlt]) λe hit₁ a=>?_);refine af (bP (G' hne n (i+1) _ _ hit₁ (ph d a.extBut hne) (by omega) λc hit₂ b=>ar ?_));have hd:items.toList.drop i=items[i]::items.toList.drop (i+1):=by simp[jo,hlt]
  have:=hQ c (by rw[show i+(n+1)=i+1+n by omega];exact hit₂) (a.t b);rw[hd,List.take_succ_cons]at this;exact this
def Q?(j:A.handled=J)(f:s.heap.IsList l items)
  (hQ:∀h',q9 s.heap.objs.size s.heap h'->Q items.toList { s with heap:=h' }):ah (model prog w) A (unpackItems (.ref l) items.size J) Q E s:=by
 have hlt:l≠s.heap.objs.size:=by obtain⟨o,m,_⟩:=f;exact bb (aR m)
 unfold unpackItems;refine af ?_;unfold notIterableAtAll;refine af (gW f.typeIs slot_list_iter.lookup ?_);refine ar ?_;simp only[eG,if_false];refine af (bP (fV f ?_));refine af (bP (G' hlt items.size 0 _ _ ⟨_,bx _ O,O,O⟩ (f.push _) (by omega) λh hit₁ a=>?_));have hall:List.take items.size (List.drop 0 items.toList)=items.toList:=by rw[qw];exact iy (by simp)
 rw[hall];rw[ao (by simp)];have d:h.IsList l items:=ph (f.push _) a.extBut hlt;refine af (bP (ox j hit₁ d (by simp) λi c=>?_));simp only[Option.isSome_none,eG,if_false];exact ar (hQ i λb o hb e=>c b o hb (a.extBut b o hb (aK _ e)))
end
end HT
namespace L2
open PySem PySem.Spec PyProof.Rows
section
variable{X:Cx}{pos:Pos}
def gLst(K:av)(n:Nat)(t:TGs):TG:=λv c H Q=>∃a b,v=.ref a/\gi K H a b/\b.length=n/\t b c H Q
def pg_lst(l:X.n6=γ)(h:R' X es t)
  (hn:(b9 es X.b1).length=n) (hst:(b9 es X.b1).findIdx? (·.1)=J):PG X (.Tuple es k pos) (gLst X.K n t):=by
 intro pins s σ H v u Q I r hw;obtain⟨a,xs,i,p,m,hw⟩:=hw;subst i;cases r;obtain⟨c,d,q,x⟩:=I.list p;have j:(b9 es X.b1).length=c.toArray.size:=by simp[hn,<- m,d.length]
 rw[assign_Tuple];refine af (jO ?_);unfold unpack;rw[j,hst];refine af (bP (HT.Q? (I.ok.hd l) q.isList λh' w=>?_));have f:c3 X pins σ H { s with heap:=h' }:=I.g? (t':=s.toks) λb o e=>w b o (bb (aR e)) e;exact h pins _ σ H xs _ Q f (by simpa using d) hw
end
end L2
namespace L4
open PySem PySem.Spec PyProof.Rows L2 L3
section
variable{X:Cx}{G:Bg}
def gTL(b:bj->aS->Option aS)(n:Nat):FG:=λd c=>match d with
 |.bt a=>if a.length=n then b a c else J
 |_=>J
def pfg_lst(h:PG X (.Tuple j k pos) (gLst G.K m (Rg G n l))):PG X (.Tuple j k pos) (tFG G n (gTL l m)):=PG.en h λv w H Q p=>by
 obtain⟨F,u,f,d,b,R,r,e,k⟩:=p;cases d with
 |bt i=>
  unfold gTL at e;simp only at e;split at e
  .rename_i q;unfold cb at r;obtain⟨a,t,rfl,o,c⟩:=r;exact⟨a,t,O,gi.of (R.sub _ _ o),by rw[<-uX c];exact q,F,u,f,i,b,R,c,e,k⟩
  .cases e
 |_=>cases e
def ψ(f g:FE):FA:=λd=>match f d with
 |some (.bt c,a)=>match g a with
  |some (.int k,b)=>if c.length * k.toNat<=1000/\-1000<=k/\k<=1000 then Z ((bU k.toNat c).flatten,b)else J
  |_=>J
 |_=>J
theorem Gn(r:uS G H a b):∀k:Nat,uS G H (bU k a).flatten (bU k b).flatten
 |0=>vN
 |k+1=>by rw[fT,fT,gR,gR];exact xk r (Gn r k)
def pfn_rep(E:PE X a (tF G f))(I:PE X b (tF G g)):PE X (.BinOp a .Mult b pos) (z0 G (ψ f g)):=PE.en (Pl Zn E I) λY H Q M=>by
 obtain⟨F,P,t,d,S,R,e,k⟩:=M;unfold ψ at e;split at e
 .rename_i W c A;split at e
  .rename_i m T B;split at e
   .rename_i N;cases e;refine⟨F,P,t,_,c,R,A,λv w x s z r=>⟨F,c,w,_,_,z,B,λu U y q R2 o=>?_⟩⟩;have l:=cb.mono q _ _ r;unfold cb at l o;obtain⟨a1,i,rfl,C,j⟩:=l;subst o;refine⟨a1,m,i,O,O,R2.sub _ _ C,by omega,by omega,by rw[<-uX j];exact yd N.1,λp h=>?_⟩;exact k p _ _ _ (s.t q) (R2.l' h _) ve (R2.f3 h) (R2.i0 h) (R2.apart h) (Gn j _)
   .cases e
  .cases e
 .cases e
def tFAq(G:Bg)(i:Int)(n:FA):TA:=λd H Q=>∃F j e f b,vA G F d j e H/\n j=Z (f,b)/\∀p h a c,vm e a->vA G F d b a c->c p=Z (.bt h)->a p=J->F.B p=J->ri d b p->uS G a f h->Q [.ref p,.int i] c
def pfaq{j p}(h:PE X e (z0 G n))(w:aA [e,.Constant (.int i) j p] X.b1=(δ,eval e X.b1)::aA [.Constant (.int i) j p] X.b1)(a:aA [.Constant (.int i) j p] X.b1=[(δ,eval (.Constant (.int i) j p) X.b1)]):PA X [e,.Constant (.int i) j p] (tFAq G i n):=PA.en (xj h (xj LF zW a) w) λB H Q u=>by obtain⟨F,z,c,x,b,R,l,k⟩:=u;exact⟨F,z,c,x,b,R,l,λp y A d s f m o q r t=>k p y _ _ s f m o q r t⟩
def pf_mutQ(h:PE X e (EZ (vl G g) [] E (tFAq G i n))):PE X e (tF G (E? g (ax (cC (.int i)) vC) n)):=PE.en h λσ H Q A=>by
 obtain⟨F,c,m,d,P,R,e,k⟩:=A;unfold E? at e;rw[show ax (cC (.int i)) vC c=Z ([.int i],c) from O]at e;dsimp only at e;split at e
 .rename_i j S r;split at e
  .rename_i U a t;cases e;refine⟨F,c,m,j,_,R,r,λb M o p s f u w x y z=>?_⟩;refine⟨b,[.int i],M,o,j,[.int i],_,a,O,u,w,f.sub,z,vU (xy i) vN,t,λv N T q l B C fr W I Y w3=>?_⟩;exact k _ _ _ (s.t l) (f.temp x y l B C fr I) w3
  .cases e
 .cases e
end
section
variable{X:Cx}{B:Bz}{k j n' k':Nat}{x:Str}{e e':Expr}{es:List Expr}{f f':FE}{a n:FA}{p p' pos:Pos}{g:bj->bj->Option (D×bj)}{gs:bj->aS->Option aS}{i:Int}{m:Nat}
def zr_gtuL [C:Cz X B k](h:ZH X B es m gs)(b:(b9 es X.b1).length=n')(d:(b9 es X.b1).findIdx? (·.1)=J):ZG X B (.Tuple es k' pos) m (gTL gs n'):=⟨pfg_lst (by rw[<-C.K];exact pg_lst C.c h.p b d)⟩
def zr_rpN(b:ZE X B e f)(c:ZE X B e' f'):ZN X B (.BinOp e .Mult e' pos) (ψ f f'):=⟨pfn_rep b.p c.p⟩
def zr_mqI{b}[C:Cz X B k][Q:Df B j x (vl B.G g)](d:Gz X x)(hd:Dz x)(w:ZN X B e n)(h:Sz X e [.Constant (.int i) b p'])(c:S1 X (.Constant (.int i) b p'))(z:Lz X pos [.Constant (.int i) b p'])(y:eT j k=γ):ZE X B (.Call (.Name x p) [e,.Constant (.int i) b p'] [] pos) (E? g (ax (cC (.int i)) vC) n):=by obtain⟨E,q⟩:=dz d hd (X:=X) (Q:=Q);obtain⟨f,A,l,o,t,u⟩:=q;exact⟨pf_mutQ (Ii (p:=p) (pos:=pos) u (C.r.mono (eO.mp y)) d l o t .nil II (pfaq w.p h c) hd h z)⟩
end
section
variable{X:Cx}{G:Bg}
def rNiT(K:av):R2:=λx y H Q=>∃p a d l,y=.ref p/\gi K H p a/\L3.cb K H d x/\L3.uS K H l a/\ll d<=20/\(∀e∈l,ll e<=20)/\Q (.I (!l.any λe=>nj e d)) H
def op_niT(W:X.A.units+64<cLine):j? X (bw .NotIn) (rNiT X.K):=by
 intro C s σ H x y v u Q I T U h;obtain⟨p,xs,d,l,rfl,M,R,S,hd,F,q⟩:=h;cases U;obtain⟨j,r,pl,Y⟩:=I.list M;obtain⟨N,P⟩:=Ra S r;have B:∀e∈l,∀z w,L3.cb X.K H e z->e8 z w->iY X.A.in1 s w v (nj e d):=λe a z w b c=>SV I e d z x w v X.A.in1 b R c T (by have:=F e a;show X.A.units+1+_+_<_;omega);let f:ab->Bool:=λw=>@decide (∃e∈l,∃z,L3.cb X.K H e z/\e8 z w/\nj e d=γ) (iu _);refine o7 f pl.isList (λw o=>?_) ⟨.I _,H,I,O,?_⟩
 .by_cases m:∃e∈l,∃z,L3.cb X.K H e z/\e8 z w/\nj e d=γ
  .have t:f w=γ:=@aU _ (iu _) m;obtain⟨e,a,z,b,c,i⟩:=m;have:=B e a z w b c;rw[i]at this;rw[t];exact this
  .have t:f w=δ:=@aT _ (iu _) m;obtain⟨e,a,z,b,c⟩:=N w (by simpa using o);have:=B e a z w b c;rw[jH.2 λi=>m ⟨e,a,z,b,c,i⟩]at this;rw[t];exact this
 .have E:j.toArray.any f=l.any λe=>nj e d:=by
   rw[show j.toArray.any f=j.any f by simp];refine c9.2 ?_;rw[fE,fE];constructor
   .rintro⟨w,o,m⟩;obtain⟨e,a,z,b,c,i⟩:=@bF _ (iu _) m;exact⟨e,a,i⟩
   .rintro⟨e,a,i⟩;obtain⟨w,o,z,b,c⟩:=P e a;exact⟨w,o,@aU _ (iu _) ⟨e,a,z,b,c,i⟩⟩
  rw[E];exact q
def Kx:D->D->Option D:=λx y=>match y with
 |.bt a=>match rl x,zx a with
  |some d,Z l=>if decide (ll d<=20)&&l.all (λe=>decide (ll e<=20))then Z (.I (!l.any λe=>nj e d))else J
  |_,_=>J
 |_=>J
def od_niT:l? G (rNiT G.K) Kx:=λx y z r H v u Q e s q c k=>by
 unfold Kx at e;split at e
 .rename_i i;cases b:rl x with
  |none=>simp only[b]at e;cases e
  |some d=>
   cases f:zx i with
   |none=>simp only[b,f]at e;cases e
   |some l=>
    simp only[b,f]at e;split at e
    .rename_i h;cases e;rw[aY,bT,aQ]at h;have c:=cb.mono s _ _ c;unfold cb at c;obtain⟨a,j,rfl,m,o⟩:=c;exact⟨a,j,d,l,O,gi.of m,Il x v d (cb.mono s _ _ q) b,Fg i j l o f,h.1,λe p=>bF (h.2 e p),k _ λ_ _=>xZ _⟩
    .cases e
 .cases e
instance niT2:I? .NotIn Kx:=⟨λX G h a=>⟨_,by rw[<-h];exact op_niT a,od_niT⟩⟩
end
section
variable{B:Bz}[Y:Yb B]{x m qual:Str}{st s0:Stmt}{l:List Stmt}{k c c0 np n:Nat}{b:FS}{p:Str}{ps xs:aE}{N:aE}
omit Y in
end
end L4
namespace L4
open PySem PySem.Spec PySem.Calls PyProof.Rows PySem.W L2 L3
section
variable{X:Cx}{G:Bg}
def rEqN(K:av)(r:R2):R2:=λx y H Q=>(∃a b c,x=.ref a/\y=.ref b/\H a=Z (.bt c)/\H b=Z (.bt [])/\c≠[]/\Q (.I δ) H)\/r x y H Q
def op_eqN{r:R2}(C:X.A.units+64<cLine)(i:j? X (bw .Eq) r):j? X (bw .Eq) (rEqN X.K r):=by
 intro c s B H x y v u Q I e f h;rcases h with ⟨a,b,E,rfl,rfl,j,l,m,q⟩|h
 .cases e;cases f;obtain⟨o,w,p,_⟩:=I.list (.inl (.inl j));obtain⟨d,z,t,_⟩:=I.list (.inl (.inl l));cases z;refine oa p.isList t.isList ?_ (by omega) (vS I q O);cases w with
  |nil=>exact aq O m
  |cons _ _=>simp
 .exact i c s B H x y v u Q I e f h
def U':D->D->Option D
 |.bt (_::_),.bt []=>Z (.I δ)
 |x,y=>fb δ x y
def od_eqN{r:R2}(j:l? G r (fb δ)):l? G (rEqN G.K r) U':=λx y z i H v u Q e s c d k=>by
 unfold U' at e;split at e
 .cases e;have c:=cb.mono s _ _ c;have d:=cb.mono s _ _ d;unfold cb at c d;obtain⟨a,o,rfl,l,f⟩:=c;obtain⟨b,p,rfl,m,h⟩:=d;unfold uS at f h;subst h;obtain⟨_,_,rfl,_⟩:=f;exact .inl ⟨a,b,_,O,O,l,m,(by intro z;cases z),k _ λ_ _=>xZ _⟩
 .exact .inr (j x y z i H v u Q e s c d k)
instance inN9:I? .Eq U':=⟨λX G h u=>by
 obtain⟨r,a,b⟩:=in9.p X G h u;exact⟨rEqN G.K r,by rw[<-h];exact op_eqN u a,od_eqN b⟩⟩
end
end L4
namespace K38x
open PySem L2 L3 L4
abbrev D:=L4.D
def top(i:Nat):Stmt:=PySem.Challenge.pw_tellworld_k38_whole_one_answer.main.body.getD i (.Pass ⟨0,0,0,0⟩)
def BK:Nat->Bool:=λc=>c==14
def Ao:Nat->Bool:=λc=>c==13
def zf:Nat->Bool:=λc=>c==2
def Gx:Nat->Bool:=λc=>c==9
def xq:Nat->Bool:=λc=>c==2
def Eh:Nat->Bool:=λc=>c==14
def Ax:Nat->Bool:=λc=>c==14
def xg:Nat->Bool:=λc=>c==14
def Do:Nat->Bool:=λc=>c==14
def Bm:Nat->Bool:=λc=>c==14
def vO:Nat->Bool:=λc=>c==0||c==7
def Ay:Nat->Bool:=λc=>c==1
def A3:Nat->Bool:=λc=>c==14
def vh:Nat->Bool:=λc=>c==0||c==1||c==2
def Ir:Nat->Bool:=λc=>c==10
def D1:Nat->Bool:=λc=>c==10
def ye:Nat->Bool:=λc=>c==2
def D3:Nat->Bool:=λc=>c==3||c==11
def yX:Nat->Bool:=λc=>c==13
def zg:Nat->Bool:=λc=>c==14
def BL:Nat->Bool:=λc=>c==14
def BM:Nat->Bool:=λc=>c==14
def wH:Nat->Bool:=λc=>c==0||c==1
def BN:Nat->Bool:=λc=>c==3||c==4||c==5||c==6||c==7||c==11||c==12
def zB:Nat->Bool:=λc=>c==13
def Fs:Nat->Bool:=λc=>c==13
def AA:Nat->Bool:=λc=>c==14
def D4:Nat->Bool:=λc=>c==6||c==12
def xV:Nat->Bool:=λc=>c==13
def A4:Nat->Bool:=λc=>c==14
def Jq:Nat->Bool:=λc=>c==8
def xY:Nat->Bool:=λc=>c==0
def Bn:Nat->Bool:=λc=>c==14
abbrev t_At:Ty->Option Bool:=zd 16 3
abbrev OX:Ty->Option Bool:=zd 16 10
abbrev Yo:Ty->Option Bool:=zd 16 4
abbrev UC:Ty->Option Bool:=zd 16 7
abbrev Yp:Ty->Option Bool:=zd 16 15
abbrev UD:Ty->Option Bool:=zd 16 1
abbrev NQ:Ty->Option Bool:=zd 16 6
abbrev UE:Ty->Option Bool:=zd 16 11
abbrev UF:Ty->Option Bool:=zd 16 9
abbrev Yq:Ty->Option Bool:=zd 16 12
abbrev UG:Ty->Option Bool:=zd 16 13
abbrev UH:Ty->Option Bool:=zd 16 5
abbrev Qf:Ty->Option Bool:=zd 16 0
abbrev UI:Ty->Option Bool:=zd 16 2
abbrev UJ:Ty->Option Bool:=zd 16 8
def Dp:L4.D:=(D.int 8)
def Dr:L4.D:=(D.int 12)
def Jr:L4.D:=(D.d? [(D.str "it"),(D.str "other"),(D.str "here"),(D.str "the"),(D.str "a"),(D.str "undo"),(D.str "restart")])
def Js:L4.D:=(D.d? [(D.str "the"),(D.str "a")])
def CN:L4.D:=(D.str "Nothing comes of it.")
def G8:L4.D:=(D.str "That cannot be.")
def Ce:L4.D:=(D.d? [(D.str "room"),(D.str "plain"),(D.str "fixed"),(D.str "box"),(D.str "lamp"),(D.str "you")])
def Qg:L4.D:=(D.d? [(D.str "alone"),(D.str "one"),(D.str "two"),(D.str "way")])
def A5:L4.D:=(D.d? [(D.str "room"),(D.str "box"),(D.str "you")])
def A6:L4.D:=(D.d? [(D.str "box"),(D.str "lamp")])
def Ei:L4.D:=(D.d? [(D.str "room"),(D.str "you")])
def Ft:L4.D:=(D.int 5)
def Fu:L4.D:=(D.int 4)
def G9:L4.D:=(D.int 4)
def Fv:L4.D:=(D.int 60)
def A7:L4.D:=(D.int 3)
def Fw:L4.D:=(D.int 5)
def Ej:L4.D:=(D.int 7)
def Ag:L4.D:=(D.int 4)
def Dt:L4.D:=(D.int 3)
def Du:L4.D:=(D.int 10)
def Fy:L4.D:=(D.int 6)
def FB:L4.D:=(D.int 4)
def AB:L4.D:=(D.d? [(D.str "the"),(D.str "a"),(D.str "undo"),(D.str "restart")])
def FC:L4.D:=(D.int 20)
abbrev aa:=(cV 0)
abbrev ai:=(cV 1)
abbrev aL:=(cC (.int 1))
def AC:FS:=(uV (wa (c1 (v3 (wx "str")) aa) (wa (yN Ae Ae aL (c1 wY aa) ai) (c1 zY (cL (u5 1 [] (iS aa) (gN 0) vP (yN Tn Tn (cS "a") aa (cS "z"))))))))
def yR:=fc 2 2 AC
def K4:FS:=(uV (wa (uO yR (ax aa (a1 (cC Dp)))) (c2 (m? γ) aa (cC Jr))))
def ym:=fc 1 1 K4
def K5:FS:=(uV (wa (uO yR (ax aa (a1 (cC Dr)))) (c2 (m? γ) aa (cC Js))))
def yn:=fc 1 1 K5
def He:FS:=(uV (wa (c1 (v3 (wx "str")) aa) (c2 (m? δ) aa ai)))
def vT:=fc 2 2 He
def Jt:FS:=(uV (wa (c1 (v3 (wx "int")) aa) (D9 (c1 (v3 (wx "bool")) aa))))
def AD:=fc 1 1 Jt
def CO:FS:=(uV (wa (c1 (v3 (wx "list")) aa) (c2 Ae (c1 wY aa) ai)))
def v7:=fc 2 2 CO
def Ju:FS:=(uV (y? (cT (c1 (v3 (wx "list")) aa)) (cL (A1 aa)) aa))
def EF:=fc 1 1 Ju
abbrev ak:=(cV 2)
abbrev ay:=(cV 3)
abbrev aw:=(cV 4)
def Cf:FS:=(uQ (vX 0 0 "name" ai)
 (uQ (vX 0 0 "words" ak)
 (uQ (vX 0 0 "kind" ay)
 (vX 0 0 "start" aw))))
def yp:=xo 0 4 5 Cf
def Hf:FS:=(uQ (vX 1 0 "name" ai)
 (uQ (vX 1 0 "start" ak)
 (vX 1 0 "most" ay)))
def Dv:=xo 1 3 4 Hf
abbrev aF:=(cC D.E)
def Dy:FS:=(uQ (vX 2 0 "name" ai)
 (uQ (vX 2 0 "others" (y? (cT (c2 zw ak aF)) (vE vC) ak))
 (uQ (vX 2 0 "form" ay)
 (vX 2 0 "joining" aw))))
def wb:=xo 2 4 5 Dy
def K6:FS:=(uQ (vX 3 0 "term" ai)
 (vX 3 0 "place" ak))
def D5:=xo 3 2 3 K6
def Jv:FS:=(vX 4 0 "term" ai)
def Cg:=xo 4 1 2 Jv
def Hg:FS:=(vX 5 0 "term" ai)
def Hh:=xo 5 1 2 Hg
def Ek:FS:=(uQ (vX 6 0 "term" ai)
 (vX 6 0 "value" ak))
def wV:=xo 6 2 3 Ek
def Hk:FS:=(uQ (vX 7 0 "term" ai)
 (vX 7 0 "kind" ak))
def xI:=xo 7 2 3 Hk
def Hl:FS:=(vX 8 0 "word" ai)
def DA:=xo 8 1 2 Hl
def Jw:FS:=(vX 9 0 "inner" ai)
def xO:=xo 9 1 2 Jw
def Hm:FS:=(uQ (vX 10 0 "one" ai)
 (vX 10 0 "other" ak))
def Hn:=xo 10 2 3 Hm
def Ho:FS:=(uQ (vX 11 0 "term" ai)
 (vX 11 0 "place" ak))
def yf:=xo 11 2 3 Ho
def Jx:FS:=(uQ (vX 12 0 "term" ai)
 (vX 12 0 "value" ak))
def yS:=xo 12 2 3 Jx
abbrev br:=(cV 5)
abbrev cq:=(a1 ak)
abbrev eh:=(a1 ay)
def Hr:FS:=(uQ (vX 13 0 "verb" ai)
 (uQ (vX 13 0 "tests" (uO EF cq))
 (uQ (vX 13 0 "deeds" (uO EF eh))
 (uQ (vX 13 0 "text" aw)
 (vX 13 0 "refuses" br)))))
def yY:=xo 13 5 6 Hr
def BO:FS:=(uV (c2 (m? δ) (c1 (uU vO "kind") aa) (cC A5)))
def zC:=fc 1 1 BO
def wc:Nat->Option (List D->Option D):=λc=>match c with
 |0=>Z zC
 |_=>J
def BP:FS:=(uV (c2 (m? δ) (c1 (uU vO "kind") aa) (cC A6)))
def BQ:=fc 1 1 BP
def xC:Nat->Option (List D->Option D):=λc=>match c with
 |0=>Z BQ
 |_=>J
def AE:FS:=(uV (c2 (m? γ) (c1 (uU vO "kind") aa) (cC Ei)))
def yT:=fc 1 1 AE
def v8:Nat->Option (List D->Option D):=λc=>match c with
 |0=>Z yT
 |_=>J
def CP:FS:=(fm (wt (cT aa)) TF u4)
def vc:=fc 2 2 CP
def Jy:FS:=(uV (c1 wY (cL (u5 1 [1] (iL aa) (gN 0) (cT (c2 (fb δ) (c1 (uU vO "kind") aa) ai)) aa))))
def Ci:=fc 2 2 Jy
def FD:FS:=(wD (u5 1 [] (iL aa) (gN 0) (cT (vg v8 "is_plainly" aa vC)) aa))
def yt:=xr 1 1 FD
abbrev aP:=(cC (.int 0))
abbrev bO:=(cC (.I δ))
abbrev sr:=(a1 (c1 (uU Ay "most") aa))
def Gy:FS:=(uQ (fm (xM (wt (cT (c1 (v3 UD) aa))) (xM (wt (cT (uO AD (a1 (c1 (uU wH "start") aa))))) (wt (cT (uO AD sr))))) (uV bO) u4)
 (uV (wa (yN Ae Ae aL (c1 (uU Ay "most") aa) (cC Dt)) (yN Ae Ae aP (c1 (uU wH "start") aa) (c1 (uU Ay "most") aa)))))
def GA:=fc 1 1 Gy
abbrev dt:=(cS "room")
abbrev j5:=(a1 (cS "you"))
abbrev bK:=(a1 aa)
abbrev ji:=(a1 dt)
def AF:FS:=(uQ (vd 1 (wa (c1 (v3 (wx "list")) aa) (c1 zY (cL (u5 1 [] (iL aa) (gN 0) vP (c1 (v3 Qf) aa))))))
 (uQ (vJ (uO vc (ax ai (a1 (cS "things are a list of things")))))
 (uQ (vJ (uO vc (ax (c1 zY (cL (u5 1 [] (iL aa) (gN 0) vP (uO vT (ax (c1 (uU vO "kind") aa) (a1 (cC Ce))))))) (a1 (cS "a thing is of no kind")))))
 (uQ (vJ (uO vc (ax (yN Ae Ae aL (uO Ci (ax aa ji)) (cC Fw)) (a1 (cS "a world has 1 to 5 rooms")))))
 (uQ (vJ (uO vc (ax (c2 (fb δ) (uO Ci (ax aa j5)) aL) (a1 (cS "a world has just one you")))))
 (vJ (uO vc (ax (c2 Ae (c1 wY (cL (vM yt bK))) (cC Ej)) (a1 (cS "a world has at most 7 things beside rooms and you"))))))))))
def AG:=fc 1 2 AF
def Bo:FS:=(uQ (vd 1 (wa (uO v7 (ax aa (a1 (cC Ag)))) (c1 zY (cL (u5 1 [] (iL aa) (gN 0) vP (uO GA bK))))))
 (vJ (uO vc (ax ai (a1 (cS "marks are a list of at most 4 marks, each from 0 to at most 3"))))))
def Bp:=fc 1 2 Bo
def FH:FS:=(uV (c2 (fb δ) (c1 (Fk EE) aa) (c1 wY aa)))
def xP:=fc 1 1 FH
def Bq:FS:=(uQ (vd 2 (cL (xx (cL (u5 1 [] (iL aa) (gN 0) vP (c1 (uU vh "name") aa))) (cL (u5 1 [] (iL ai) (gN 0) vP (c1 (uU vh "name") aa))))))
 (uQ (vJ (uO vc (ax (c1 zY (cL (u5 1 [] (iL ak) (gN 0) vP (uO ym bK)))) (a1 (cS "a name is no name")))))
 (vJ (uO vc (ax (uO xP cq) (a1 (cS "two things or marks have one name")))))))
def Br:=fc 2 3 Bq
def FI:FS:=(wD (xx (cL (u5 1 [] (iL aa) (gN 0) (cT (vg xC "has_mark" aa vC)) (c1 (uU vh "name") aa))) (cL (u5 1 [] (iL ai) (gN 0) vP (c1 (uU vh "name") aa)))))
def yu:=xr 2 2 FI
def EG:FS:=(uQ (fm (cT (c2 (fb δ) (c1 (uU vO "kind") ai) dt)) (uV (c2 zw (c1 (uU wH "start") ai) aF)) u4)
 (uQ (fm (cT (c2 (fb δ) (c1 (uU vO "kind") ai) (cS "you"))) (uV (uO vT (ax (c1 (uU wH "start") ai) (a1 (cL (u5 1 [] (iL aa) (gN 0) (cT (c2 (fb δ) (c1 (uU vO "kind") aa) dt)) (c1 (uU vh "name") aa))))))) u4)
 (uV (uO vT (ax (c1 (uU wH "start") ai) (a1 (cL (u5 1 [] (iL aa) (gN 0) (cT (vg wc "can_hold" aa vC)) (c1 (uU vh "name") aa)))))))))
def EH:=fc 2 2 EG
abbrev df:=(cC (.I γ))
def CQ:FS:=(uQ (vd 2 (c2 Ee aa ai))
 (uQ (yb (N? (c1 wY aa)) (gN 3) (uQ (fm (cT (c2 zw ak aF)) (uV df) u4)
 (vd 2 (c2 Ee aa ak))))
 (uV (c2 zw ak aF))))
def z5:=fc 2 4 CQ
abbrev eZ:=(ax ai bK)
def AH:FS:=(uQ (vJ (uO vc (ax (c1 zY (cL (u5 1 [0] (iL aa) (gN 0) vP (uO EH eZ)))) (a1 (cS "a start is none")))))
 (uQ (Jc 1)
 (uQ (yb (iL aa) (gN 2) (zz 1 (c1 (uU vh "name") ak) (c1 (uU wH "start") ak)))
 (vJ (uO vc (ax (c1 zY (cL (u5 1 [1] (iD (Hs 1)) (gN 0) vP (uO z5 eZ)))) (a1 (cS "a thing starts within itself"))))))))
def AI:=fc 1 3 AH
def Ht:FS:=(uQ (fm (xM (wt (cT (c1 (v3 (wx "tuple")) aa))) (wt (cT (yN Ae Ae aL (c1 wY aa) (cC FB))))) (uV bO) u4)
 (uV (wa (c1 zY (cL (u5 1 [] (iT aa) (gN 0) vP (uO yn bK)))) (uO xP bK))))
def A8:=fc 1 1 Ht
def K7:FS:=(uV (c1 zY (cL (u5 1 [0] (iT ai) (gN 0) vP (c2 (m? δ) aa ai)))))
def BR:=fc 2 2 K7
def z6:FS:=(uQ (vd 2 (cL (u5 1 [1] (iL aa) (gN 0) (cT (c2 (fb γ) (c1 (uU vh "name") aa) (c1 (uU vh "name") ai))) aa)))
 (uV (D9 (c1 Ia (cL (u5 1 [1] (iL ak) (gN 0) vP (uO BR (ax (c1 (uU xY "words") aa) (a1 (c1 (uU xY "words") ai))))))))))
def z7:=fc 2 3 z6
def xD:FS:=(uQ (vJ (uO vc (ax (c1 zY (cL (u5 1 [] (iL aa) (gN 0) vP (uO A8 (a1 (c1 (uU xY "words") aa)))))) (a1 (cS "a thing has 1 to 4 unlike words, as a tuple")))))
 (uQ (vd 1 (cL (vM yt bK)))
 (vJ (uO vc (ax (c1 zY (cL (u5 1 [1] (iL ai) (gN 0) vP (uO z7 eZ)))) (a1 (cS "one thing has all words of another")))))))
def xE:=fc 1 2 xD
abbrev cz:=(ax aa (a1 ai))
def Cj:FS:=(uQ (vd 2 (wa (c1 (v3 (wx "list")) aa) (wa (c1 zY (cL (u5 1 [1] (iL aa) (gN 0) vP (uO vT cz)))) (uO xP bK))))
 (vJ (uO vc (ax ak (a1 (cS "dark is a list of rooms' names, each once"))))))
def Ck:=fc 2 3 Cj
abbrev bZ:=(cC (.int 2))
abbrev fO:=(cC (.int 3))
abbrev bE:=(a1 ai)
abbrev su:=(ax (c2 f? aa fO) cq)
def Jz:FS:=(uQ (fm (xM (wt (cT (c1 (v3 (wx "tuple")) aa))) (cT (c2 (fb γ) (c1 wY aa) (cC (.int 4))))) (uV bO) u4)
 (uQ (vd 3 (S' (c2 zw (c2 f? aa fO) aF) (uO vT su)))
 (uV (wa (uO vT (ax (c2 f? aa aP) bE)) (wa (uO yn (a1 (c2 f? aa aL))) (wa (uO vT (ax (c2 f? aa bZ) bE)) ay))))))
def JA:=fc 3 4 Jz
abbrev cB:=(ax ai (a1 ak))
abbrev fQ:=(ax aa cB)
def Cn:FS:=(uQ (vd 3 (wa (uO v7 (ax aa (a1 (cC Du)))) (c1 zY (cL (u5 1 [1,2] (iL aa) (gN 0) vP (uO JA fQ))))))
 (uQ (vJ (uO vc (ax ay (a1 (cS "ways are a list of at most 10 tuples (room, word, room, mark)")))))
 (vJ (uO vc (ax (uO xP (a1 (cL (u5 1 [] (iL aa) (gN 0) vP (vE (ax (c2 f? aa aP) (a1 (c2 f? aa aL)))))))) (a1 (cS "two ways lead from one room by one word")))))))
def Cp:=fc 3 4 Cn
abbrev eV:=(cS "two")
abbrev nF:=(a1 (c1 (uU vh "name") aa))
def K8:FS:=(uQ (fm (xM (wt (cT (c1 (v3 UI) aa))) (xM (wt (cT (uO ym nF))) (wt (cT (c1 (v3 (wx "tuple")) (c1 (uU ye "others") aa)))))) (uV bO) u4)
 (uQ (fm (xM (wt (cT (c1 zY (cL (u5 1 [] (iT (c1 (uU ye "others") aa)) (gN 0) vP (uO ym bK)))))) (wt (cT (uO vT (ax (c1 (uU zf "form") aa) (a1 (cC Qg))))))) (uV bO) u4)
 (uV (y? (cT (c2 (fb δ) (c1 (uU zf "form") aa) eV)) (uO yn (a1 (c1 (uU xq "joining") aa))) (c2 zw (c1 (uU xq "joining") aa) aF)))))
def K9:=fc 1 1 K8
def El:FS:=(uQ (vd 1 (wa (uO v7 (ax aa (a1 (cC Fy)))) (c1 zY (cL (u5 1 [] (iL aa) (gN 0) vP (uO K9 bK))))))
 (vJ (uO vc (ax ai (a1 (cS "verbs are a list of at most 6 verbs"))))))
def yE:=fc 1 2 El
def Hu:FS:=(uV (D9 (c1 Ia (cL (u5 1 [1] (iL aa) (gN 0) vP (c2 (m? δ) aa ai))))))
def zP:=fc 2 2 Hu
abbrev bq:=(cV 7)
abbrev j3:=(a1 (c1 (uU vh "name") (cV 6)))
abbrev bR:=(cV 6)
def yU:FS:=(uQ (yz 3 (vx vC))
 (uQ (yb (iL (cL (vM yt bK))) (gN 4) (vJ (Dl 3 (c1 (uU xY "words") aw))))
 (uQ (yz 5 (vx vC))
 (uQ (yb (iL ak) (gN 6) (vJ (Dl 5 (G3 (vE j3) (c1 (uU ye "others") bR)))))
 (uQ (vd 7 (cL (xx (cL (u5 1 [] (iL ak) (gN 0) (cT (c2 w6 (c1 (uU xq "joining") aa) aF)) (c1 (uU xq "joining") aa))) (cL (u5 1 [] (iL ai) (gN 0) vP (c2 f? aa aL))))))
 (uQ (vJ (uO vc (ax (uO xP (a1 (Hs 5))) (a1 (cS "two verbs' names are alike")))))
 (uQ (vJ (uO vc (ax (uO zP (ax (cL (xx (Hs 5) bq)) (a1 (Hs 3)))) (a1 (cS "a verb's, way's or joining word is a word of a thing")))))
 (uQ (vJ (uO vc (ax (uO zP (ax (cL (xx (Hs 5) bq)) (a1 (cC AB)))) (a1 (cS "the, a, undo or restart is a word of the world")))))
 (vJ (uO vc (ax (uO zP (ax bq (a1 (Hs 5)))) (a1 (cS "a way's or joining word is a verb's name")))))))))))))
def xQ:=fc 3 8 yU
abbrev eA:=(a1 aw)
def Bs:FS:=(uQ (vJ (uO AG bK))
 (uQ (vJ (uO Bp bE))
 (uQ (vJ (uO Br cz))
 (uQ (vJ (uO AI bK))
 (uQ (vJ (uO xE bK))
 (uQ (vd 6 (cL (u5 1 [] (iL aa) (gN 0) (cT (c2 (fb δ) (c1 (uU vO "kind") aa) dt)) (c1 (uU vh "name") aa))))
 (uQ (vJ (uO Ck (ax ak (a1 bR))))
 (uQ (vJ (uO Cp (ax ay (ax bR (a1 (cL (vM yu cz)))))))
 (uQ (vJ (uO yE eA))
 (vJ (uO xQ (ax aa (ax ay (a1 (cL (xx aw br))))))))))))))))
def Bt:=fc 6 7 Bs
def UK:FS:=(uV (vG 13 (λa=>yY (a++[])) (ax aa (ax ai (ax ak (ax ay (a1 bO)))))))
def AJ:=fc 4 4 UK
def La:FS:=(uV (vG 13 (λa=>yY (a++[])) (ax aa (ax ai (ax (cL (vx vC)) (ax ak (a1 df)))))))
def wu:=fc 3 3 La
abbrev cc:=(cS "it")
abbrev j7:=(cS "fixed")
abbrev j9:=(a1 (cS "here"))
abbrev je:=(cS "take")
abbrev jk:=(a1 cc)
def FJ:FS:=(wD (vx (ax (uO wu (ax je (ax (cL (vx (a1 (vG 7 (λa=>xI (a++[])) (ax cc (a1 j7)))))) (a1 (cS "That stays."))))) (ax (uO wu (ax je (ax (cL (vx (a1 (vG 3 (λa=>D5 (a++[])) (ax cc bK))))) (a1 (cS "You have that."))))) (ax (uO AJ (ax je (ax (cL (vx vC)) (ax (cL (vx (a1 (vG 11 (λa=>yf (a++[])) (ax cc bK))))) (a1 (cS "Taken.")))))) (ax (uO AJ (ax (cS "drop") (ax (cL (vx (a1 (vG 4 (λa=>Cg (a++[])) jk)))) (ax (cL (vx (a1 (vG 11 (λa=>yf (a++[])) (ax cc j9))))) (a1 (cS "Dropped.")))))) (a1 (uO wu (ax (cS "drop") (ax (cL (vx vC)) (a1 (cS "You lack that."))))))))))))
def Cq:=xr 1 1 FJ
abbrev cR:=(cS "box")
abbrev eW:=(cS "other")
abbrev ik:=(cS "put")
abbrev ko:=(a1 aP)
def Hv:FS:=(wD (vx (ax (uO wu (ax ik (ax (cL (vx (a1 (vG 9 (λa=>xO (a++[])) (a1 (vG 4 (λa=>Cg (a++[])) jk)))))) (a1 (cS "You lack that."))))) (ax (uO wu (ax ik (ax (cL (vx (a1 (vG 9 (λa=>xO (a++[])) (a1 (vG 7 (λa=>xI (a++[])) (ax eW (a1 cR)))))))) (a1 (cS "It holds nothing."))))) (ax (uO wu (ax ik (ax (cL (vx (a1 (vG 6 (λa=>wV (a++[])) (ax eW ko))))) (a1 (cS "It is shut."))))) (a1 (uO AJ (ax ik (ax (cL (vx vC)) (ax (cL (vx (a1 (vG 11 (λa=>yf (a++[])) (ax cc (a1 eW)))))) (a1 (cS "Done."))))))))))))
def DB:=xr 0 0 Hv
abbrev jf:=(cS "open")
abbrev jh:=(ax cc (a1 aL))
abbrev kB:=(ax cc ko)
def Hw:FS:=(wD (vx (ax (uO wu (ax jf (ax (cL (vx (a1 (vG 9 (λa=>xO (a++[])) (a1 (vG 7 (λa=>xI (a++[])) (ax cc (a1 cR)))))))) (a1 (cS "It has no lid."))))) (ax (uO wu (ax jf (ax (cL (vx (a1 (vG 6 (λa=>wV (a++[])) jh)))) (a1 (cS "It is open."))))) (ax (uO AJ (ax jf (ax (cL (vx vC)) (ax (cL (vx (a1 (vG 12 (λa=>yS (a++[])) jh)))) (a1 (cS "Opened.")))))) (ax (uO wu (ax (cS "shut") (ax (cL (vx (a1 (vG 9 (λa=>xO (a++[])) (a1 (vG 7 (λa=>xI (a++[])) (ax cc (a1 cR)))))))) (a1 (cS "It has no lid."))))) (ax (uO wu (ax (cS "shut") (ax (cL (vx (a1 (vG 6 (λa=>wV (a++[])) kB)))) (a1 (cS "It is shut."))))) (a1 (uO AJ (ax (cS "shut") (ax (cL (vx vC)) (ax (cL (vx (a1 (vG 12 (λa=>yS (a++[])) kB)))) (a1 (cS "Shut."))))))))))))))
def DC:=xr 0 0 Hw
abbrev ja:=(cS "lamp")
abbrev ir:=(a1 ja)
def Em:FS:=(wD (vx (ax (uO wu (ax (cS "light") (ax (cL (vx (a1 (vG 9 (λa=>xO (a++[])) (a1 (vG 7 (λa=>xI (a++[])) (ax cc ir))))))) (a1 (cS "It burns not."))))) (ax (uO wu (ax (cS "light") (ax (cL (vx (a1 (vG 6 (λa=>wV (a++[])) jh)))) (a1 (cS "It is lit."))))) (ax (uO AJ (ax (cS "light") (ax (cL (vx vC)) (ax (cL (vx (a1 (vG 12 (λa=>yS (a++[])) jh)))) (a1 (cS "Lit.")))))) (ax (uO wu (ax (cS "douse") (ax (cL (vx (a1 (vG 9 (λa=>xO (a++[])) (a1 (vG 7 (λa=>xI (a++[])) (ax cc ir))))))) (a1 (cS "It burns not."))))) (ax (uO wu (ax (cS "douse") (ax (cL (vx (a1 (vG 6 (λa=>wV (a++[])) kB)))) (a1 (cS "It is out."))))) (a1 (uO AJ (ax (cS "douse") (ax (cL (vx vC)) (ax (cL (vx (a1 (vG 12 (λa=>yS (a++[])) kB)))) (a1 (cS "Doused."))))))))))))))
def Bu:=xr 0 0 Em
abbrev il:=(a1 (c2 f? ai aP))
def Hy:FS:=(uQ (yz 2 (vx (ax (vG 3 (λa=>D5 (a++[])) (ax aa il)) (a1 (vG 8 (λa=>DA (a++[])) (a1 (c2 f? ai aL)))))))
 (uQ (fm (cT (c2 w6 (c2 f? ai fO) aF)) (vJ (AV 2 (vG 9 (λa=>xO (a++[])) (a1 (vG 6 (λa=>wV (a++[])) (ax (c2 f? ai fO) ko)))))) u4)
 (wD (Kc 2))))
def DD:=xr 2 3 Hy
def EI:FS:=(uQ (vd 2 (cL (u5 1 [0] (iL ai) (gN 0) vP (uO AJ (ax (cS "go") (ax (cL (vM DD eZ)) (ax (cL (vx (a1 (vG 11 (λa=>yf (a++[])) (ax ai (a1 (c2 f? aa bZ))))))) (a1 (cS "You go.")))))))))
 (wD (xx ak (cL (vx (a1 (uO wu (ax (cS "go") (ax (cL (vx vC)) (a1 (cS "No way there.")))))))))))
def EJ:=xr 2 3 EI
def FK:FS:=(wD (vx (a1 (uO AJ (ax (cS "wait") (ax (cL (vx vC)) (ax (cL (vx vC)) (a1 (cS "Time goes by.")))))))))
def FL:=xr 0 0 FK
def DE:FS:=(wD (xx (cL (xx (cL (xx (cL (xx (cL (xx (cL (vM Cq bK)) (cL (vM DB vC)))) (cL (vM DC vC)))) (cL (vM Bu vC)))) (cL (vM EJ cz)))) (cL (vM FL vC))))
def zh:=xr 2 2 DE
abbrev d9:=(cS "way")
abbrev ig:=(cS "alone")
abbrev rX:=(ax (vE vC) (ax eV (a1 (cS "in"))))
def DF:FS:=(wD (xx (cL (u5 1 [] (iT (vE (ax je (ax (cS "drop") (ax jf (ax (cS "shut") (ax (cS "light") (a1 (cS "douse"))))))))) (gN 0) vP (vG 2 (λa=>wb (a++[D.E,(D.str "one"),D.E])) bK))) (cL (vx (ax (vG 2 (λa=>wb (a++[])) (ax ik rX)) (ax (vG 2 (λa=>wb (a++[D.E])) (ax (cS "go") (ax (vE vC) (a1 d9)))) (a1 (vG 2 (λa=>wb (a++[D.E])) (ax (cS "wait") (ax (vE vC) (a1 ig)))))))))))
def zi:=xr 0 0 DF
def GB:FS:=(uQ (Jc 1)
 (uQ (yb (iL aa) (gN 2) (zz 1 (c1 (uU vh "name") ak) ak))
 (uV (Hs 1))))
def GE:=fc 1 3 GB
def z8:FS:=(uQ (Jc 2)
 (uQ (yb (iL aa) (gN 3) (fm (cT (vg xC "has_mark" ay vC)) (zz 2 (c1 (uU vh "name") ay) aL) u4))
 (uQ (yb (iL ai) (gN 4) (zz 2 (c1 (uU vh "name") aw) (c1 (uU Ay "most") aw)))
 (uV (Hs 2)))))
def z9:=fc 2 5 z8
def CS:FS:=(uQ (Jc 1)
 (uQ (yb (iL aa) (gN 2) (yb (iT (G3 (vE (a1 (c1 (uU vh "name") ak))) (c1 (uU ye "others") ak))) (gN 3) (zz 1 ay ak)))
 (uV (Hs 1))))
def yI:=fc 1 4 CS
def Lb:FS:=(OP (uU xV "verb"))
def Lc:=fc 1 3 Lb
def CT:FS:=(wD (u5 1 [1] (iL (c1 (uU xg "kept_things") aa)) (gN 0) (cT (c2 (fb δ) (c1 (uU vO "kind") aa) ai)) (c1 (uU vh "name") aa)))
def Aa:=fc 2 2 CT
def yF:Nat->Option (List D->Option D):=λc=>match c with
 |14=>Z Aa
 |_=>J
def A9:FS:=(wD (xx (c1 (uU Do "kept_verbs") aa) (c1 (uU BM "shared_verbs") aa)))
def ya:=fc 1 1 A9
def xW:Nat->Option (List D->Option D):=λc=>match c with
 |14=>Z ya
 |_=>J
def DG:FS:=(uV (wa (c1 (v3 (wx "str")) aa) (c2 (fb δ) aa ai)))
def zj:=fc 2 2 DG
def Ld:FS:=(uV (vG 13 (λa=>yY (a++[])) (ax (c1 (uU xV "verb") aa) (ax (c1 (uU zB "tests") aa) (ax (c1 (uU Ao "deeds") aa) (ax (c1 (uU Fs "text") aa) (a1 (c1 (uU yX "refuses") aa))))))))
def GF:=fc 1 1 Ld
def BS:FS:=(uV (c2 NP (c1 (uU AA "things_by_name") aa) ai))
def wI:=fc 2 2 BS
def vv:Nat->Option (List D->Option D):=λc=>match c with
 |14=>Z wI
 |_=>J
def CU:FS:=(uV (c2 CM (c1 (uU A3 "mosts_by_name") aa) ai))
def xh:=fc 2 2 CU
def wW:Nat->Option (List D->Option D):=λc=>match c with
 |14=>Z xh
 |_=>J
def CV:FS:=(uV (c2 CM (c1 (uU A4 "verbs_by_word") aa) ai))
def xi:=fc 2 2 CV
def we:Nat->Option (List D->Option D):=λc=>match c with
 |14=>Z xi
 |_=>J
def Hz:FS:=(uV (c1 (uU Bn "your_name") aa))
def NR:=fc 1 1 Hz
def Ap:Nat->Option (List D->Option D):=λc=>match c with
 |14=>Z NR
 |_=>J
abbrev jl:=(cS "one")
abbrev gx:=(ax jl (a1 (cS "two")))
def CW:FS:=(uQ (fm (cT (uO zj (ax ai jk))) (uV (c2 (m? δ) aa (vE gx))) u4)
 (uV (wa (uO zj (ax ai (a1 eW))) (c2 (fb δ) aa eV))))
def wg:=fc 2 2 CW
def Le:FS:=(uV (wa (c2 w6 aa aF) (uO zj (ax ai j9))))
def zD:=fc 2 2 Le
def Qh:FS:=(uV (y? (cT (c1 (v3 (wx "str")) ai)) (vg vv "thing_of" aa bE) aF))
def Ah:=fc 2 2 Qh
def FM:FS:=(uV (wa (c2 w6 (uO Ah cz) aF) (c2 (fb δ) (c1 (uU vO "kind") (uO Ah cz)) ak)))
def Ai:=fc 3 3 FM
abbrev cX:=(ax aa cq)
def Lf:FS:=(uV (S' (uO wg cB) (S' (uO zD cB) (c2 w6 (uO Ah cX) aF))))
def BU:=fc 3 3 Lf
def EK:FS:=(uQ (fm (xM (cT (uO wg cB)) (cT (uO zD cB))) (uV df) u4)
 (uV (wa (c2 w6 (uO Ah cX) aF) (vg wc "can_hold" (uO Ah cX) vC))))
def Cr:=fc 3 3 EK
def EL:FS:=(uQ (fm (cT (uO wg cB)) (uV df) u4)
 (uV (wa (c2 w6 (uO Ah cX) aF) (D9 (uO Ai (ax aa (ax ak ji)))))))
def EM:=fc 3 3 EL
def yJ:FS:=(uQ (fm (xM (wt (cT (uO AD eh))) (cT (c2 HY ay aP))) (uV bO) u4)
 (uQ (fm (cT (uO wg cB)) (uV (c2 Ae ay (cC A7))) u4)
 (uQ (vd 4 (y? (cT (c1 (v3 (wx "str")) ak)) (vg wW "most_of" aa cq) aF))
 (uV (wa (c2 w6 aw aF) (c2 Ae ay aw))))))
def yK:=fc 4 5 yJ
abbrev kj:=(ax aa (ax ai (a1 (c1 (uU BN "term") ak))))
abbrev rU:=(ax aa (ax ai (a1 (c1 (uU D3 "place") ak))))
def GH:FS:=(uQ (fm (xM (wt (cT (uO EM kj))) (wt (cT (uO Cr rU)))) (uV bO) u4)
 (uV (S' (c2 (fb γ) (c1 (uU BN "term") ak) (vg Ap "you" aa vC)) (uO Ai (ax aa (ax (c1 (uU D3 "place") ak) ji))))))
def GK:=fc 3 3 GH
def Lg:FS:=(uV (wa (c1 (v3 (wx "str")) aa) (yN Ae Ae aL (c1 wY aa) (cC Fv))))
def BV:=fc 1 1 Lg
def DH:FS:=(uV (wa (uO ym bE) (wa (c2 w6 (vg we "verb_of" aa bE) aF) (c2 (fb δ) (c1 (uU vh "name") (vg we "verb_of" aa bE)) ai))))
def AK:=fc 2 2 DH
def Ba:FS:=(uV (wa (c1 (v3 (wx "bool")) (c1 (uU yX "refuses") aa)) (S' (D9 (c1 (uU yX "refuses") aa)) (c2 U' (c1 (uU Ao "deeds") aa) (cL (vx vC))))))
def zk:=fc 1 1 Ba
abbrev rL:=(ax aa (ax ai (ax (c1 (uU BN "term") ak) (a1 (c1 (uU D4 "value") ak)))))
def wy:FS:=(uQ (fm (cT (c1 (v3 t_At) ak)) (uV (wa (uO BU kj) (uO Cr rU))) u4)
 (uQ (fm (cT (c1 (v3 (tOr Yo UH)) ak)) (uV (uO BU kj)) u4)
 (uQ (fm (cT (c1 (v3 NQ) ak)) (uV (uO yK rL)) u4)
 (uQ (fm (cT (c1 (v3 UC) ak)) (uV (wa (uO BU kj) (uO vT (ax (c1 (uU vO "kind") ak) (a1 (cC Ce)))))) u4)
 (uQ (fm (cT (c1 (v3 UJ) ak)) (uV (wa (c2 (fb δ) ai d9) (uO yn (a1 (c1 (uU Jq "word") ak))))) u4)
 (uV (c1 (v3 Yp) ak)))))))
def Ab:=fc 3 3 wy
abbrev nG:=(a1 (c2 IV ay aL))
def yZ(g:List D->Option D):FS:=(uQ (fm (cT (c2 (fb δ) ay aP)) (uV bO) u4)
 (uQ (fm (cT (c1 (v3 UF) ak)) (uV (uO g (ax aa (ax ai (ax (c1 (uU Gx "inner") ak) nG))))) u4)
 (uQ (fm (cT (c1 (v3 OX) ak)) (uV (wa (uO g (ax aa (ax ai (ax (c1 (uU Ir "one") ak) nG)))) (uO g (ax aa (ax ai (ax (c1 (uU D1 "other") ak) nG)))))) u4)
 (uV (uO Ab fQ)))))
def y3:Nat->List D->Option D
 |0=>fc 4 4 TF
 |n+1=>fc 4 4 (yZ (y3 n))
def D6:FS:=(uQ (fm (cT (c1 (v3 Yq) ak)) (uV (uO yK rL)) u4)
 (uV (wa (c1 (v3 UE) ak) (uO GK fQ))))
def GL:=fc 3 3 D6
def HA:FS:=(uV (wa (uO v7 (ax ak (a1 (cC Ft)))) (c1 zY (cL (u5 1 [0,1] (iL ak) (gN 0) vP (uO (y3 4) (ax ai (ax ak (ax aa (a1 (cC G9)))))))))))
def DI:=fc 3 3 HA
abbrev iq:=(ax ai (ax ak bK))
def HB:FS:=(uV (wa (uO v7 (ax ak (a1 (cC Fu)))) (c1 zY (cL (u5 1 [0,1] (iL ak) (gN 0) vP (uO GL iq))))))
def DJ:=fc 3 3 HB
abbrev rZ:=(a1 (c1 (uU xV "verb") ai))
def GN:FS:=(uQ (fm (xM (wt (cT (c1 (v3 UG) ai))) (xM (wt (cT (uO AK (ax aa rZ)))) (wt (cT (uO BV (a1 (c1 (uU Fs "text") ai))))))) (uV bO) u4)
 (uQ (vd 2 (c1 (uU zf "form") (vg we "verb_of" aa rZ)))
 (uV (wa (uO DI (ax aa (ax ak (a1 (c1 (uU zB "tests") ai))))) (wa (uO DJ (ax aa (ax ak (a1 (c1 (uU Ao "deeds") ai))))) (uO zk bE))))))
def GO:=fc 2 3 GN
def zl:FS:=(uQ (vJ (uO Bt (ax ai (ax ak (ax ay (ax aw (ax br (a1 (cL (vM zi vC))))))))))
 (uQ (vX 14 0 "kept_things" (cL (A1 ai)))
 (uQ (vX 14 0 "kept_marks" (cL (A1 ak)))
 (uQ (vX 14 0 "kept_dark" (cL (A1 ay)))
 (uQ (vX 14 0 "kept_ways" (cL (A1 aw)))
 (uQ (vX 14 0 "kept_verbs" (cL (A1 br)))
 (uQ (vX 14 0 "shared_verbs" (cL (vM zi vC)))
 (uQ (vX 14 0 "your_name" (Ef 16 (c2 f? (vg yF "of_kind" aa j5) aP)))
 (uQ (vX 14 0 "things_by_name" (uO GE bE))
 (uQ (vX 14 0 "mosts_by_name" (uO z9 cB))
 (uQ (vX 14 0 "verbs_by_word" (Ef 16 (uO yI (a1 (vg xW "all_verbs" aa vC)))))
 (uQ (vd 7 (Ef 16 (wa (uO v7 (ax bR (a1 (cC FC)))) (c1 zY (cL (u5 1 [0] (iL bR) (gN 0) vP (uO GO eZ)))))))
 (uQ (vJ (uO vc (ax bq (a1 (cS "rules are a list of at most 20 rules, each as it may be")))))
 (uQ (vX 14 0 "kept_rules" (cL (A1 bR)))
 (uQ (vX 14 0 "shared_rules" (Ef 16 (cL (vM zh (ax (c1 (uU Bn "your_name") aa) eA)))))
 (uQ (vX 14 0 "copied_rules" (cL (u5 1 [] (iL bR) (gN 0) vP (uO GF bK))))
 (vX 14 0 "rules_by_verb" (Ef 16 (uO Lc (a1 (cL (xx (c1 (uU BK "copied_rules") aa) (c1 (uU BL "shared_rules") aa)))))))))))))))))))))))
def zm:=xo 14 6 8 zl
def CY:FS:=(uV (c2 (m? δ) ai (c1 (uU Eh "kept_dark") aa)))
def Ib:=fc 2 2 CY
def zK:Nat->Option (List D->Option D):=λc=>match c with
 |14=>Z Ib
 |_=>J
def Bb:FS:=(wD (A1 (c1 (uU Ax "kept_marks") aa)))
def FN:=fc 1 1 Bb
def Ac:Nat->Option (List D->Option D):=λc=>match c with
 |14=>Z FN
 |_=>J
def En:FS:=(wD (u5 1 [] (iL (c1 (uU xg "kept_things") aa)) (gN 0) vP (c1 (uU vh "name") aa)))
def Bv:=fc 1 1 En
def xJ:Nat->Option (List D->Option D):=λc=>match c with
 |14=>Z Bv
 |_=>J
def Bc:FS:=(wD (u? (cL (u5 1 [] (iL (c1 (uU Bm "kept_ways") aa)) (gN 0) vP (c2 f? aa aL)))))
def zp:=fc 1 1 Bc
def xX:Nat->Option (List D->Option D):=λc=>match c with
 |14=>Z zp
 |_=>J
def zQ:FS:=(wD (A1 (KQ (c1 (uU zg "rules_by_verb") aa) ai (cL (vx vC)))))
def xt:=fc 2 2 zQ
def xR:Nat->Option (List D->Option D):=λc=>match c with
 |14=>Z xt
 |_=>J
abbrev ka:=(cS "mark")
abbrev jg:=(cS "at")
abbrev rO:=(ax (c1 (uU xg "kept_things") aa) (a1 (c1 (uU Ax "kept_marks") aa)))
def Eo:FS:=(uQ (vd 1 (cL (u5 1 [] (iL (c1 (uU xg "kept_things") aa)) (gN 0) (cT (c2 (fb γ) (c1 (uU vO "kind") aa) dt)) (vE (ax jg nF)))))
 (uQ (vd 2 (cL (u5 1 [] (iL (cL (vM yu rO))) (gN 0) vP (vE (ax ka bK)))))
 (wD (Gv (cL (xx ai ak))))))
def Ep:=fc 1 3 Eo
def Bd:Nat->Option (List D->Option D):=λc=>match c with
 |14=>Z Ep
 |_=>J
def FP:FS:=(uQ (Jc 1)
 (uQ (yb (iL (vg Ac "own_marks" aa vC)) (gN 2) (zz 1 (c1 (uU vh "name") ak) (c1 (uU wH "start") ak)))
 (uV (Hs 1))))
def Cs:=fc 1 3 FP
def Er:FS:=(uQ (fm (cT (c2 (fb δ) (c2 f? ak aP) jg)) (uV (c1 (uU wH "start") (vg vv "thing_of" aa (a1 (c2 f? ak aL))))) u4)
 (uV (KQ ai (c2 f? ak aL) aP)))
def yG:=fc 3 3 Er
abbrev sC:=(ax aa (a1 (uO yG iq)))
def Es:FS:=(uQ (vd 1 (uO Cs bK))
 (uV (Fh (cL (u5 1 [0,1] (iL (vg Bd "parts" aa vC)) (gN 0) vP (vE sC))))))
def Bw:=fc 1 2 Es
def JB:FS:=(uQ (yb (iT aa) (gN 2) (fm (cT (c2 (fb δ) (c2 f? ak aP) ai)) (uV (c2 f? ak aL)) u4))
 (uV aF))
def Ct:=fc 2 3 JB
abbrev sy:=(a1 (vE (ax jg bE)))
def Qi:FS:=(uV (uO Ct (ax aa sy)))
def zL:=fc 2 2 Qi
abbrev sA:=(a1 (vE (ax ka bE)))
def Lh:FS:=(uV (uO Ct (ax aa sA)))
def y4:=fc 2 2 Lh
def HC:FS:=(uV (Fh (cL (u5 1 [1,2] (iT aa) (gN 0) vP (y? (cT (c2 (fb δ) (c2 f? aa aP) ai)) (vE cB) aa)))))
def Be:=fc 3 3 HC
abbrev kz:=(ax ai eA)
def FQ:FS:=(uQ (yz 3 (vx vC))
 (uQ (vd 4 (uO zL cB))
 (uQ (whL (cT (c2 w6 aw aF)) (uQ (vJ (AV 3 aw))
 (vd 4 (uO zL kz))) 50)
 (wD (Kc 3)))))
def yw:=xr 3 5 FQ
abbrev sq:=(a1 (vg Ap "you" aa vC))
def Li:FS:=(uV (uO zL (ax ai sq)))
def Aq:=fc 2 2 Li
def Yr:FS:=(uV (c2 (m? δ) (vg Ap "you" aa vC) (cL (vM yw fQ))))
def UM:=fc 3 3 Yr
def Lj:FS:=(uV (wa (c2 (fb δ) (c1 (uU vO "kind") (vg vv "thing_of" aa cq)) cR) (c2 (fb δ) (uO y4 cB) aP)))
def zF:=fc 3 3 Lj
abbrev nP:=(ax aa kz)
def Lk:FS:=(uQ (yb (iL (cL (vM yw fQ))) (gN 4) (uQ (fm (cT (c2 (fb δ) aw ay)) (uV df) u4)
 (fm (cT (uO zF nP)) (uV bO) u4)))
 (uV bO))
def zG:=fc 4 5 Lk
abbrev cW:=(ax ai (ax ak (a1 ay)))
def JC:FS:=(uV (wa (c2 (fb δ) (uO y4 cB) aL) (uO zG (ax aa cW))))
def AL:=fc 4 4 JC
abbrev kA:=(ax aa eh)
abbrev sE:=(ax ai (ax ak kA))
def NS:FS:=(uQ (vd 2 (uO Aq cz))
 (uQ (fm (wt (cT (vg zK "is_dark" aa cq))) (uV df) u4)
 (uV (c1 Ia (cL (u5 1 [0,1,2] (iL (vg yF "of_kind" aa ir)) (gN 0) vP (uO AL sE)))))))
def FR:=fc 2 3 NS
abbrev rR:=(ax aa (ax ai (ax ak sq)))
abbrev sd:=(ax aa (ax ai (ax ak (a1 (uO Aq cz)))))
def Ll:FS:=(uQ (vd 3 (vg vv "thing_of" aa cq))
 (uQ (fm (xM (cT (c2 zw ay aF)) (wt (cT (vg v8 "is_plainly" ay vC)))) (uV bO) u4)
 (uQ (fm (cT (uO zG rR)) (uV df) u4)
 (uV (wa (uO zG sd) (uO FR cz))))))
def wQ:=fc 3 4 Ll
def UN:FS:=(wD (Gu (cL (u5 1 [0,1] (iL (vg xJ "names" aa vC)) (gN 0) (cT (uO wQ iq)) aa))))
def Mm:=xr 2 2 UN
def HE:FS:=(uQ (vd 2 (y? (cT (c2 zw ai aF)) aF (vg we "verb_of" aa il)))
 (uV (wa (c2 w6 ak aF) (c2 (fb δ) (c1 (uU zf "form") ak) d9))))
def zR:=fc 2 3 HE
abbrev rV:=(ax (c2 f? ai aL) (a1 (c2 f? ai bZ)))
abbrev nH:=(ax aF (a1 aF))
def HF:FS:=(uQ (fm (xM (cT (c2 zw ai aF)) (cT (uO zR cz))) (uV (vE nH)) u4)
 (uV (vE rV)))
def wz:=fc 2 2 HF
def Qj:FS:=(uQ (fm (cT (c2 (fb δ) ay (cS "here"))) (uV (uO Aq cz)) u4)
 (uQ (fm (cT (c2 (fb δ) ay cc)) (uV (c2 f? (uO wz cX) aP)) u4)
 (uQ (fm (cT (c2 (fb δ) ay eW)) (uV (c2 f? (uO wz cX) aL)) u4)
 (uV ay))))
def wC:=fc 4 4 Qj
def JD:FS:=(uQ (vd 2 (vg vv "thing_of" aa bE))
 (uV (y? (xM (cT (c2 zw ak aF)) (cT (c2 (fb δ) (c1 (uU vO "kind") ak) dt))) (cL (vx vC)) (cL (vx sy)))))
def EN:=fc 2 3 JD
def FU:FS:=(uV (y? (cT (c2 zw (vg wW "most_of" aa bE) aF)) (cL (vx vC)) (cL (vx sA))))
def Aj:=fc 2 2 FU
def NT:FS:=(uQ (vd 3 (vg vv "thing_of" aa cq))
 (uV (wa (c2 (fb γ) (uO EN cz) (cL (vx vC))) (wa (c2 w6 ay aF) (wa (vg wc "can_hold" ay vC) (c2 (fb γ) ak ai))))))
def FV:=fc 3 4 NT
def JE:FS:=(uV (wa (c2 (fb γ) (uO Aj cz) (cL (vx vC))) (c2 Ae ak (vg wW "most_of" aa bE))))
def EO:=fc 3 3 JE
abbrev fP:=(ax ai (ax ak (ax ay (a1 (c1 (uU BN "term") aa)))))
abbrev m9:=(ax ai (ax ak (ax ay (a1 (c1 (uU D3 "place") aa)))))
def JF:FS:=(uQ (vd 4 (uO wC fP))
 (uQ (vd 5 (uO zL (ax ak eA)))
 (uV (wa (c2 w6 br aF) (c2 (fb δ) br (uO wC m9))))))
def ER:=fc 4 6 JF
abbrev ky:=(ax ak (a1 (uO wC fP)))
def HG:FS:=(uV (uO UM (ax ai ky)))
def HI:=fc 4 4 HG
def FW:FS:=(uV (uO wQ (ax ai ky)))
def FX:=fc 4 4 FW
def DL:FS:=(uQ (vd 4 (uO y4 ky))
 (uV (wa (c2 w6 aw aF) (c2 (fb δ) aw (c1 (uU D4 "value") aa)))))
def AM:=fc 4 5 DL
def FY:FS:=(uQ (vd 4 (vg vv "thing_of" ai (a1 (uO wC fP))))
 (uV (wa (c2 w6 aw aF) (c2 (fb δ) (c1 (uU vO "kind") aw) (c1 (uU vO "kind") aa)))))
def FZ:=fc 4 5 FY
def F0:FS:=(uV (wa (uO zR (ax ai eh)) (c2 (fb δ) (c2 f? ay aL) (c1 (uU Jq "word") aa))))
def F1:=fc 4 4 F0
def HJ:FS:=(uV (uO FR cB))
def HK:=fc 4 4 HJ
def zS(g:Nat->Option (List D->Option D)):FS:=(uV (D9 (vg g "holds" (c1 (uU Gx "inner") aa) cW)))
def yx(g:Nat->Option (List D->Option D)):FS:=(uV (wa (vg g "holds" (c1 (uU Ir "one") aa) cW) (vg g "holds" (c1 (uU D1 "other") aa) cW)))
def Cu:Nat->Option (List D->Option D):=λc=>match c with
 |3=>Z ER
 |4=>Z HI
 |5=>Z FX
 |6=>Z AM
 |7=>Z FZ
 |8=>Z F1
 |15=>Z HK
 |_=>J
def vq:Nat->Nat->Option (List D->Option D)
 |0=>Cu
 |n+1=>λc=>match c with
  |9=>Z (fc 4 4 (zS (vq n)))
  |10=>Z (fc 4 4 (yx (vq n)))
  |c=>Cu c
abbrev kh:=(ax ai (ax ak (a1 br)))
abbrev kn:=(a1 br)
abbrev sv:=(ax ai (ax aw kn))
def HL:FS:=(uQ (vd 4 (uO wC fP))
 (uQ (vd 5 (uO wC m9))
 (uQ (fm (xM (wt (cT (uO FV sv))) (cT (c2 (m? δ) aw (cL (vM yw kh))))) (uV aF) u4)
 (uV (uO Be (ax ak (ax (vE (ax jg eA)) kn)))))))
def Bf:=fc 4 6 HL
abbrev nE:=(a1 (c1 (uU D4 "value") aa))
def JG:FS:=(uQ (vd 4 (uO wC fP))
 (uQ (fm (wt (cT (uO EO (ax ai (ax aw nE))))) (uV aF) u4)
 (uV (uO Be (ax ak (ax (vE (ax ka eA)) nE))))))
def ES:=fc 4 5 JG
def yV:Nat->Option (List D->Option D):=λc=>match c with
 |11=>Z Bf
 |12=>Z ES
 |_=>J
def HM:FS:=(uQ (vd 2 (y? (cT (c1 (v3 (wx "str")) ai)) (vg vv "thing_of" aa bE) aF))
 (uV (wa (c2 w6 ak aF) (vg v8 "is_plainly" ak vC))))
def y6:=fc 2 3 HM
def HN:FS:=(uQ (fm (cT (c2 (fb δ) ai eV)) (uV (wa (uO y6 cX) (uO y6 kA))) u4)
 (uQ (fm (cT (c2 w6 ay aF)) (uV bO) u4)
 (uQ (fm (cT (c2 (fb δ) ai d9)) (uV (wa (c1 (v3 (wx "str")) ak) (c2 (m? δ) ak (vg xX "way_words" aa vC)))) u4)
 (uV (y? (cT (c2 (fb δ) ai ig)) (c2 zw ak aF) (uO y6 cX))))))
def DM:=fc 4 4 HN
def F2:FS:=(uQ (fm (xM (wt (cT (c1 (v3 (wx "tuple")) ai))) (xM (cT (c2 (fb γ) (c1 wY ai) fO)) (wt (cT (c1 (v3 (wx "str")) (c2 f? ai aP)))))) (uV bO) u4)
 (uQ (vd 2 (vg we "verb_of" aa il))
 (uV (wa (c2 w6 ak aF) (wa (c2 (fb δ) (c1 (uU vh "name") ak) (c2 f? ai aP)) (uO DM (ax aa (ax (c1 (uU zf "form") ak) rV))))))))
def Cv:=fc 2 3 F2
def CZ:FS:=(fm (wt (cT (uO Cv cz))) TF u4)
def yL:=fc 2 2 CZ
def UO:FS:=(uQ (yb (iL (c1 (uU zB "tests") ay)) (gN 4) (fm (wt (cT (vg (vq 3) "holds" aw fQ))) (uV bO) u4))
 (uV df))
def DN:=fc 4 5 UO
abbrev jb:=(cS "refused")
abbrev rM:=(a1 (c1 (uU Fs "text") ay))
abbrev r6:=(ax jb (a1 (cC G8)))
abbrev nM:=(ax aa (ax aw cq))
abbrev sf:=(ax (vE (ax (cS "told") rM)) eA)
abbrev sk:=(ax (vE (ax jb rM)) bE)
def Lm:FS:=(uQ (fm (cT (c1 (uU yX "refuses") ay)) (uV (vE sk)) u4)
 (uQ (vd 4 ai)
 (uQ (yb (iL (c1 (uU Ao "deeds") ay)) (gN 5) (uQ (vd 4 (vg yV "done" br nM))
 (fm (cT (c2 zw aw aF)) (uV (vE (ax (vE r6) bE))) u4)))
 (uV (vE sf)))))
def zH:=fc 4 6 Lm
abbrev rG:=(cS "unseen")
abbrev kC:=(ax aa kh)
abbrev sm:=(ax (vE (ax rG eA)) bE)
def JH:FS:=(uQ (yb (iT (uO wz cX)) (gN 4) (fm (xl (cT (c2 w6 aw aF)) (cT (c2 (m? γ) aw ay))) (uV (vE sm)) u4))
 (uQ (yb (iL (vg xR "rules_to_try" aa (a1 (c2 f? ak aP)))) (gN 5) (fm (cT (uO DN kC)) (uV (uO zH kC)) u4))
 (uV (vE (ax (vE (ax jb (a1 (cC CN)))) bE)))))
def ET:=fc 4 6 JH
def UP:FS:=(uQ (vJ (uO yL cX))
 (uQ (vd 3 (cL (u5 1 [0,1] (iT (uO wz cX)) (gN 0) (cT (uO wQ iq)) aa)))
 (uV (uO ET (ax aa cW)))))
def Cw:=fc 3 4 UP
def yy:FS:=(uQ (fm (cT (c2 (fb δ) ai ig)) (wD (vx (a1 (vE nH)))) u4)
 (uQ (fm (cT (c2 (fb δ) ai d9)) (wD (u5 1 [] (iL (vg xX "way_words" aa vC)) (gN 0) vP (vE (ax aa (a1 aF))))) u4)
 (uQ (vd 2 (cL (u5 1 [0] (iL (vg xJ "names" aa vC)) (gN 0) (cT (vg v8 "is_plainly" (vg vv "thing_of" ai bK) vC)) aa)))
 (uQ (fm (cT (c2 (fb δ) ai jl)) (wD (u5 1 [] (iL ak) (gN 0) vP (vE (ax aa (a1 aF))))) u4)
 (uQ (yz 3 (vx vC))
 (uQ (yb (iL ak) (gN 4) (vJ (HX 3 (u5 1 [4] (iL ak) (gN 0) vP (vE eZ)))))
 (wD (Kc 3))))))))
def xS:=xr 2 5 yy
abbrev j4:=(yM (gN 0) (yM (gN 1) KJ))
abbrev km:=(ax aa (a1 (c1 (uU zf "form") ak)))
abbrev ku:=(ax (c1 (uU vh "name") ak) cz)
def EU:FS:=(uQ (yz 1 (vx vC))
 (uQ (yb (iL (vg xW "all_verbs" aa vC)) (gN 2) (vJ (HX 1 (u5 2 [2] (iL (cL (vM xS km))) (gT j4 2) vP (vE ku)))))
 (wD (Kc 1))))
def Cy:=xr 1 3 EU
def DO:FS:=(uQ (fm (cT (c2 HY ai (c1 wY aa))) (uV (c2 f? aa ai)) u4)
 (uV aP))
def xF:=fc 2 2 DO
abbrev jc:=(cC (.int 2147483647))
def Ak:FS:=(uQ (fm (Ad (cT (c2 (fb δ) (c1 wY aa) aL))) (uQ (vd 2 (AW (c2 f? aa aP)))
 (uQ (Bi 0 0 (c2 yA ak (c1 IZ (c2 Z1 ak (c2 Tj (cC (.int 10)) (cC (.int 18)))))))
 (vJ (HX 0 (vx (ax (c2 yB ak jc) ko)))))) u4)
 (uQ (fm (Ad (cT (c2 LZ (c2 f? aa aP) aP))) (uQ (vd 3 (AW (c2 yB (c2 f? aa aP) ai)))
 (uQ (Bi 0 0 (AW (c2 Ec (c2 f? aa aP) ai)))
 (uV ay))) u4)
 (uQ (Bi 0 2 (AW (c2 wZ (c2 f? aa bZ) aL)))
 (uQ (vd 4 (AW (c2 yB (c2 yA (c2 wZ (c2 wZ (c2 f? aa aL) (c2 yA (cC (.int 7919)) (c2 f? aa bZ))) aL) (cC (.int 48271))) jc)))
 (uQ (vd 4 (c2 yB (c2 yA aw (c2 wZ (c2 Ec aw (cC (.int 1009))) (cC (.int 69621)))) jc))
 (uV (c2 yB (c2 yB (c2 yA aw (c2 wZ (c2 Ec aw (cC (.int 2003))) (cC (.int 40692)))) (cC (.int 2147483399))) ai)))))))
def uP:=u6 1 5 Ak
def F3:FS:=(wD (u5 1 [1] (iL aa) (gN 0) (cT (c2 (m? δ) (c1 (uU vO "kind") aa) ai)) (c1 (uU vh "name") aa)))
def vz:=xr 2 2 F3
abbrev cU:=(cV 8)
abbrev gy:=(cC (.int 8))
abbrev j6:=(cS "plain")
abbrev du:=(cV 9)
abbrev ie:=(cC (.int 6))
abbrev jd:=(cC (.int 7))
abbrev rE:=(yM (gN 7) (yM (gN 8) KJ))
abbrev kc:=(cC (.int 5))
abbrev rN:=(ax bq (ax cU (ax du (a1 (Ng 3 (vK uP 0 (a1 (AW (c1 wY ay)))))))))
abbrev rQ:=(ax j6 (ax cR (ax ja (ax cR (ax j7 (a1 j6))))))
def BA:FS:=(uQ (vd 1 (cL (EB (cL (vx (ax (cS "hall") (ax (cS "x") (ax (cS "cellar") (ax (cS "loft") (a1 (cS "porch")))))))) oNo (V' (c2 wZ aL (vK uP 0 (a1 kc)))))))
 (uQ (yz 2 (u5 1 [] (iL ai) (gN 0) vP (vG 0 (λa=>yp (a++[D.E])) (ax aa (ax (vE (ax aa (a1 (cS "place")))) ji)))))
 (uQ (vJ (AV 2 (vG 0 (λa=>yp (a++[])) (ax (cS "me") (ax (vE (ax (cS "me") (a1 (cS "self")))) (ax (cS "you") (a1 (c2 f? ai (vK uP 0 (a1 (c1 wY ai)))))))))))
 (uQ (yz 3 (xx ai (cL (vx (a1 (cS "me"))))))
 (uQ (vd 4 (cL (vx (ax (vE (ax (cS "chest") (a1 (vE (ax (cS "old") (a1 (cS "chest"))))))) (ax (vE (ax ja (a1 (vE (ax ja (a1 (cS "red"))))))) (ax (vE (ax (cS "stone") (a1 (vE (ax (cS "red") (a1 (cS "stone"))))))) (a1 (vE (ax (cS "key") (a1 (vE (a1 (cS "key")))))))))))))
 (uQ (vd 4 (cL (xx aw (cL (vx (ax (vE (ax (cS "itch") (a1 (vE (ax (cS "old") (ax (cS "red") (a1 (cS "rag")))))))) (ax (vE (ax (cS "heretic") (a1 (vE (ax (cS "stone") (a1 (cS "man"))))))) (a1 (vE (ax (cS "others") (a1 (vE (ax (cS "book") (ax (cS "of") (a1 (cS "old"))))))))))))))))
 (uQ (vd 5 (vK uP 0 (a1 jd)))
 (uQ (yb (N? (vK uP 0 (a1 gy))) (gN 6) (uQ (Kb (c2 f? aw (c2 yB (c2 wZ bR br) jd)) (gT rE 2))
 (uQ (vd 9 (c2 f? (cL (vx rQ)) (vK uP 0 (a1 ie))))
 (uQ (vJ (AV 2 (vG 0 (λa=>yp (a++[])) rN)))
 (fm (cT (c2 (fb δ) du cR)) (vJ (AV 3 bq)) u4)))))
 (uQ (vd 5 (vK uP 0 (a1 (AW (c1 wY ak)))))
 (wD (xx (cL (EB (Hs 2) (V' br) oNo)) (cL (EB (Hs 2) oNo (V' br))))))))))))))
def BB:=u6 0 10 BA
abbrev rD:=(ax (cS "gate") (ax (cS "luck") (ax (cS "tide") (a1 (cS "i")))))
abbrev gA:=(a1 fO)
abbrev r9:=(ax ak (ax (vK uP 0 (a1 (c2 wZ ay aL))) eh))
def CA:FS:=(uQ (yz 1 (vx vC))
 (uQ (yb (iL (cL (EB (cL (vx rD)) oNo (V' (vK uP 0 (a1 kc)))))) (gN 2) (uQ (vd 3 (c2 wZ aL (vK uP 0 gA)))
 (vJ (AV 1 (vG 1 (λa=>Dv (a++[])) r9)))))
 (wD (Kc 1))))
def CB:=u6 0 4 CA
abbrev dq:=(a1 (cC (.int 4)))
abbrev m7:=(ax (cS "north") (ax (cS "up") (ax (cS "outside") (a1 (cS "north")))))
abbrev rH:=(a1 (cC (.int 9)))
abbrev rK:=(a1 (cL (vx (ax cR ir))))
abbrev gz:=(a1 (c1 wY ay))
abbrev nv:=(ax bq (ax cU (ax du (a1 (cV 10)))))
abbrev kq:=(ax bq (a1 cU))
def DP:FS:=(uQ (vd 3 (cL (vM vz (ax ai (a1 (cL (vx ji)))))))
 (uQ (vd 4 (cL (xx (cL (xx (cL (vx nH)) (cL (u5 1 [] (iL ak) (gN 0) vP (c1 (uU vh "name") aa))))) (cL (vM vz (ax ai rK))))))
 (uQ (yz 5 (vx vC))
 (uQ (yb (N? (vK uP 0 rH)) (gN 6) (uQ (vd 7 (c2 f? ay (vK uP 0 gz)))
 (uQ (vd 8 (c2 f? (cL (vx m7)) (vK uP 0 dq)))
 (uQ (vd 9 (c2 f? ay (vK uP 0 gz)))
 (uQ (vd 10 (c2 f? aw (vK uP 0 (a1 (c1 wY aw)))))
 (fm (Ad (cT (c2 Kx (vE kq) (cL (u5 1 [] (iL br) (gN 0) vP (Km aa J (Z 2))))))) (vJ (AV 5 (vE nv))) u4))))))
 (wD (Kc 5))))))
def DQ:=u6 2 11 DP
def CC:FS:=(uQ (vd 1 (cL (vx (ax (vG 2 (λa=>wb (a++[(D.str "one"),D.E])) (ax (cS "push") (a1 (vE (ax (cS "shove") (a1 (cS "p"))))))) (ax (vG 2 (λa=>wb (a++[])) (ax (cS "tie") (ax (vE vC) (ax eV (a1 (cS "to")))))) (a1 (vG 2 (λa=>wb (a++[D.E])) (ax (cS "sing") (ax (vE (a1 (cS "hum"))) (a1 ig))))))))))
 (uQ (vd 1 (cL (xx ai (cL (vx (ax (vG 2 (λa=>wb (a++[D.E])) (ax (cS "swim") (ax (vE (a1 (cS "dive"))) (a1 d9)))) (ax (vG 2 (λa=>wb (a++[])) (ax (cS "takes") rX)) (a1 (vG 2 (λa=>wb (a++[D.E])) (ax (cS "w") (ax (vE vC) (a1 ig))))))))))))
 (uQ (vd 2 (vK uP 0 (a1 ie)))
 (wD (EB (cL (xx (cL (EB ai (V' ak) oNo)) (cL (EB ai oNo (V' ak))))) oNo (V' (vK uP 0 (a1 jd))))))))
def CD:=u6 0 3 CC
def yg:FS:=(uQ (vd 3 (cL (xx ak (cL (vx j9)))))
 (uQ (fm (cT (c2 (m? δ) ai (cL (vx gx)))) (vd 3 (cL (xx ay (cL (vx (ax cc jk)))))) u4)
 (uQ (fm (cT (c2 (fb δ) ai eV)) (vd 3 (cL (xx ay (cL (vx (ax eW (a1 eW))))))) u4)
 (uV (c2 f? ay (vK uP 0 gz))))))
def wX:=u6 2 4 yg
abbrev ng:=(ax (c1 (uU vh "name") aa) sr)
abbrev nI:=(ax aa (a1 aL))
abbrev se:=(ax (vE (ax cc gA)) (a1 (vE jh)))
abbrev nO:=(ax ak rK)
def wJ:FS:=(uQ (yz 4 (xx (cL (u5 1 [] (iL ay) (gN 0) vP (vE ng))) (cL (u5 1 [] (iL (cL (vM vz nO))) (gN 0) vP (vE nI)))))
 (uQ (fm (cT (c2 (m? δ) ai (cL (vx gx)))) (yz 4 (xx (Hs 4) (cL (vx se)))) u4)
 (uQ (fm (cT (c2 (fb δ) ai eV)) (vJ (AV 4 (vE (ax eW gA)))) u4)
 (uQ (fm (Ad (cT (c2 (fb δ) aw (cL (vx vC))))) (uV aF) u4)
 (uV (Ng 4 (vK uP 0 (a1 (AW (c1 wY aw))))))))))
def wK:=u6 3 5 wJ
abbrev sj:=(a1 (c2 wZ (c2 f? aw aL) aL))
abbrev m8:=(ax (c2 f? aw aP) (a1 (vK uP 0 sj)))
def zM:FS:=(uQ (vd 4 (vK wK 0 cW))
 (uQ (fm (cT (c2 zw aw aF)) (uV (Xy 15)) u4)
 (uV (vG 6 (λa=>wV (a++[])) m8))))
def BC:=u6 3 5 zM
abbrev rA:=(ax (cS "north") (ax (cS "up") (ax (cS "outside") (a1 (cS "down")))))
abbrev ni:=(ax ai (ax ak (ax ay (a1 (c2 IV aw aL)))))
abbrev nu:=(ax ak (a1 (cL (vx (ax dt (ax cR j5))))))
abbrev rS:=(a1 (c2 wZ gy (c2 yA bZ (c1 IZ (c2 LZ aw aP)))))
abbrev kE:=(ax ai kn)
def vZ(g:List D->List D->Option (D×List D)):FS:=(uQ (vd 5 (cL (u5 1 [] (iL ak) (gN 0) vP (c1 (uU vh "name") aa))))
 (uQ (vd 6 (cL (vM vz nu)))
 (uQ (vd 7 (vK uP 0 rS))
 (uQ (fm (cT (c2 HY bq bZ)) (uV (vG 3 (λa=>D5 (a++[])) (ax (vK wX 0 kE) (a1 (vK wX 0 (ax ai (a1 bR))))))) u4)
 (uQ (fm (cT (c2 (fb δ) bq bZ)) (uV (vG 4 (λa=>Cg (a++[])) (a1 (vK wX 0 kE)))) u4)
 (uQ (fm (cT (c2 (fb δ) bq fO)) (uV (vG 5 (λa=>Hh (a++[])) (a1 (vK wX 0 kE)))) u4)
 (uQ (fm (cT (c2 (fb δ) bq (cC (.int 4)))) (uQ (vd 8 (cL (vx (ax j6 (ax j7 (ax cR (ax ja (ax dt j5))))))))
 (uV (vG 7 (λa=>xI (a++[])) (ax (vK wX 0 kE) (a1 (c2 f? cU (vK uP 0 (a1 ie)))))))) u4)
 (uQ (fm (cT (c2 (fb δ) bq kc)) (uV (Xy 15)) u4)
 (uQ (fm (xl (cT (c2 (fb δ) bq ie)) (cT (c2 (fb δ) ai d9))) (uV (vG 8 (λa=>DA (a++[])) (a1 (c2 f? (cL (vx rA)) (vK uP 0 dq))))) u4)
 (uQ (fm (cT (c2 HY bq gy)) (uV (vK BC 0 cW)) u4)
 (uQ (fm (cT (c2 (fb δ) bq gy)) (uV (vG 9 (λa=>xO (a++[])) (a1 (vK g 0 ni)))) u4)
 (uQ (vd 9 (vK g 0 ni))
 (uV (vG 10 (λa=>Hn (a++[])) (ax du (a1 (vK g 0 ni)))))))))))))))))
def wN:Nat->List D->List D->Option (D×List D)
 |0=>u6 4 10 TF
 |n+1=>u6 4 10 (vZ (wN n))
abbrev kg:=(ax cc (ax cc (a1 (c2 f? (cL (vx (ax cc (a1 eW)))) (c1 IZ (c2 (fb δ) ai eV))))))
abbrev rP:=(ax ak (a1 (cL (vx (ax j6 (ax j7 (ax cR ir)))))))
abbrev nD:=(ax ak (a1 (cL (vx (a1 dt)))))
abbrev ip:=(a1 bZ)
abbrev nL:=(a1 (c1 wY br))
def zT:FS:=(uQ (vd 4 (vK wK 0 cW))
 (uQ (fm (xl (cT (c2 w6 aw aF)) (cT (c2 (fb δ) (vK uP 0 ip) aL))) (uV (vG 12 (λa=>yS (a++[])) m8)) u4)
 (uQ (vd 5 (cL (vM vz rP)))
 (uQ (fm (xl (cT (c2 (m? δ) ai (cL (vx gx)))) (xM (cT (c2 (fb δ) br (cL (vx vC)))) (cT (c2 (fb δ) (vK uP 0 ip) aL)))) (vd 5 (cL (vx kg))) u4)
 (uQ (vd 6 (cL (vM vz nD)))
 (uQ (fm (xM (cT (c2 (fb δ) br (cL (vx vC)))) (cT (c2 (fb δ) (vK uP 0 dq) aP))) (uV (vG 11 (λa=>yf (a++[])) (ax (cS "me") (a1 (c2 f? bR (vK uP 0 (a1 (c1 wY bR)))))))) u4)
 (uQ (vd 7 (cL (vM vz nu)))
 (uV (vG 11 (λa=>yf (a++[])) (ax (c2 f? br (vK uP 0 nL)) (a1 (vK wX 0 (ax ai (a1 bq))))))))))))))
def y7:=u6 3 8 zT
abbrev eX:=(cV 11)
abbrev rF:=(yM (gN 8) (yM (gN 9) KJ))
abbrev rJ:=(ax cU (ax (cV 10) (ax (cV 12) (ax (c2 Fe (c2 Fe (cS "Text ") (c1 F? bq)) (c2 KP (cS ".") (c2 wZ aL (vK uP 0 rH)))) (a1 eX)))))
abbrev nh:=(ax (c1 (uU vh "name") aa) (a1 (c1 (uU zf "form") aa)))
abbrev ny:=(ax ak (ax ay (ax aw (a1 bZ))))
abbrev nN:=(ax ak (ax ay eA))
def CG:FS:=(uQ (vd 5 (cL (vx (ax (vE (ax je (a1 jl))) (ax (vE (ax jf (a1 jl))) (ax (vE (ax ik (a1 eV))) (ax (vE (ax (cS "go") (a1 d9))) (ax (vE (ax (cS "wait") (a1 ig))) (a1 (vE (ax (cS "drop") (a1 jl))))))))))))
 (uQ (vd 5 (cL (xx br (cL (ψ (cL (u5 1 [] (iL ay) (gN 0) vP (vE nh))) bZ)))))
 (uQ (yz 6 (vx vC))
 (uQ (yb (N? (vK uP 0 (a1 (c2 wZ aw aL)))) (gN 7) (uQ (Kb (c2 f? br (vK uP 0 nL)) (gT rF 2))
 (uQ (vd 10 (cL (u5 1 [0,9,1,2] (N? (vK uP 0 dq)) (gN 0) vP (vK (wN 3) 1 ny))))
 (uQ (vd 11 (c2 (fb δ) (vK uP 0 dq) aP))
 (uQ (vd 12 (cL (u5 1 [0,9,1,2] (N? (c2 yA (vK uP 0 dq) (c1 IZ (D9 eX)))) (gN 0) vP (vK y7 1 nN))))
 (vJ (AV 6 (vG 13 (λa=>yY (a++[])) rJ))))))))
 (wD (Kc 6))))))
def CH:=u6 4 13 CG
def DT:FS:=(uQ (vd 2 (vK BB 0 vC))
 (uQ (vd 3 (vK CB 0 vC))
 (uQ (vd 4 (cL (u5 1 [0] (iL (cL (vM vz nD))) (gN 0) (cT (c2 (fb δ) (vK uP 1 gA) aP)) aa)))
 (uQ (vd 5 (vK DQ 0 (ax ak eh)))
 (uQ (vd 6 (vK CD 0 vC))
 (wD (vx (ax ak (ax ay (ax aw (ax br (ax bR (a1 (vK CH 0 (ax ak (ax ay (ax bR bE)))))))))))))))))
def Bh:=u6 1 7 DT
def DU:FS:=(uQ (fm (cT (c1 (uU yX "refuses") ay)) (uV (vE sk)) u4)
 (uQ (vd 4 ai)
 (uQ (yb (iL (c1 (uU Ao "deeds") ay)) (gN 5) (uQ (vd 4 (vg yV "done" br nM))
 (fm (cT (c2 zw aw aF)) (uV (vE (ax (vE (ax jb (a1 (cS "That cannot be.")))) bE))) u4)))
 (uV (vE sf)))))
def AN:=fc 4 6 DU
abbrev rW:=(ax aa (ax ay (ax aw (a1 cU))))
abbrev rY:=(ax jb (a1 (cS "Nothing comes of it.")))
abbrev sg:=(ax (vE (ax rG (a1 bq))) eh)
def EV:FS:=(uQ (vd 5 (cL (u5 1 [] (iL ai) (gN 0) vP (c1 (uU vh "name") aa))))
 (uQ (vd 6 (cL (vM Mm kA)))
 (uQ (yb (iT (Km aw (Z 1) J)) (gN 7) (fm (xl (cT (c2 (m? δ) bq br)) (cT (c2 (m? γ) bq bR))) (uV (vE sg)) u4))
 (uQ (yb (iL ak) (gN 8) (fm (cT (c2 (fb δ) (c1 (uU xV "verb") cU) (c2 f? aw aP))) (fm (cT (c2 U' (cL (u5 1 [0,3,4] (iL (c1 (uU zB "tests") cU)) (gN 0) (wt (cT (vg (vq 3) "holds" aa cW))) aa)) (cL (vx vC)))) (uV (uO AN rW)) u4) u4))
 (uV (vE (ax (vE rY) eh)))))))
def AO:=fc 5 9 EV
abbrev i9:=(ax (cV 8) (ax (cV 10) (a1 (cV 12))))
abbrev ee:=(cV 14)
abbrev nz:=(a1 (uO xF (ax aa (a1 aP))))
abbrev rT:=(ax cU (ax ak (ax bq (ax (cV 10) (a1 (cV 12))))))
abbrev nJ:=(ax aa (a1 eX))
def Qk:FS:=(uQ (vd 1 (E? Bh (a1 (cC (.int 12))) (vx nz)))
 (uQ (Kb ai (gTL (yM (gN 2) (yM (gN 3) (yM (gN 4) (yM (gN 5) (yM (gN 6) (yM (gN 7) KJ)))))) 6))
 (uQ (vd 8 (vG 14 (λa=>zm (a++[])) (ax ak (ax ay (ax aw (ax br (ax bR (a1 bq))))))))
 (uQ (vd 9 (cL (vM Cy (a1 cU))))
 (uQ (vd 7 (cL (xx bq (cL (vM zh (ax (cS "me") kn))))))
 (uQ (vd 10 (uO Bw (a1 cU)))
 (uQ (yb (iR2 aL (c2 Xn bZ (c2 X? (cC (.int 26)) (c1 wY aa)))) (gN 11) (uQ (vd 12 (c2 f? du (c2 yB (c2 wZ (uO xF nJ) (c2 yA (cC (.int 17)) eX)) (c1 wY du))))
 (uQ (vd 13 (uO AO rT))
 (uQ (vd 14 (uO Cw i9))
 (uQ (fm (xM (wt (cT (c1 (v3 (wx "tuple")) ee))) (xM (wt (cT (c1 (v3 (wx "tuple")) (c2 f? ee aP)))) (cT (c2 (fb γ) ee (cV 13))))) (uV bO) u4)
 (uQ (fm (cT (c2 (fb γ) (uO Cw i9) (cV 13))) (uV bO) u4)
 (vd 10 (c2 f? ee aL))))))))
 (uV df))))))))
def Ys:=fc 1 15 Qk
def JI(c:0<b)(l:b<1073741824):∃d a j,(uQ (fm (Ad (cT (c2 LZ (c2 f? aa aP) aP))) (uQ (vd 3 (AW (c2 yB (c2 f? aa aP) ai)))
 (uQ (Bi 0 0 (AW (c2 Ec (c2 f? aa aP) ai)))
 (uV ay))) u4)
 (uQ (Bi 0 2 (AW (c2 wZ (c2 f? aa bZ) aL)))
 (uQ (vd 4 (AW (c2 yB (c2 yA (c2 wZ (c2 wZ (c2 f? aa aL) (c2 yA (cC (.int 7919)) (c2 f? aa bZ))) aL) (cC (.int 48271))) jc)))
 (uQ (vd 4 (c2 yB (c2 yA aw (c2 wZ (c2 Ec aw (cC (.int 1009))) (cC (.int 69621)))) jc))
 (uV (c2 yB (c2 yB (c2 yA aw (c2 wZ (c2 Ec aw (cC (.int 2003))) (cC (.int 40692)))) (cC (.int 2147483399))) ai))))))
  [.pm [.int q,.int r,.int n],.z (.int b),s2,.un,.un]=Z (.rt (.int d) j)/\E9 j=Z a/\0<=d/\d<b/\vV a:=by
 have e:Ad (cT (c2 LZ (c2 f? aa aP) aP)) [.pm [.int q,.int r,.int n],.z (.int b),s2,.un,.un]=Z (decide (0<q),[.pm [.int q,.int r,.int n],.z (.int b),s2,.un,.un]):=rfl;by_cases h:0<q
 .rw[aU h]at e;refine⟨q % b,[.int (q / b),.int r,.int n],[.pm [.int (q / b),.int r,.int n],.z (.int b),s2,.z (.int (q % b)),.un],?_,O,iP _ (by omega),iG _ c,.inr ⟨_,_,_,O⟩⟩;rw[uW (d:=.int (q % b)) (ρ':=[.pm [.int (q / b),.int r,.int n],.z (.int b),s2,.z (.int (q % b)),.un])];rw[vb e,uM (uZ (Jb (uY O O (DX c)) O)),uM (Nr (k:=0) (Jb (uY O O (I' c l)) O) O O)];rfl
 .rw[aT h]at e;rw[uM (show _=Z (tz.nx [.pm [.int q,.int r,.int n],.z (.int b),s2,.un,.un]) from by rw[vI e];rfl)];rw[uM (show _=Z (tz.nx [.pm [.int q,.int r,.int (n+1)],.z (.int b),s2,.un,.un]) from O)];have p:B8 7919=γ:=by decide
  have o:B8 48271=γ:=by decide
  rw[uM (uZ (Jb (d:=.int ((r+7919 * (n+1)+1) * 48271 % 2147483647)) (uY (uY (uY (uY O (uY O O (zy (.inl p))) O) O O) O (zy (.inr o))) O (DX (by decide))) O))];generalize t:(r+7919 * (n+1)+1) * 48271 % 2147483647=g;have f:0<=g/\g<2147483647:=by rw[<-t];exact⟨iP _ (by decide),iG _ (by decide)⟩
  rw[uM (uZ (d:=.int (g * (g / 1009+69621) % 2147483647)) (uY (uY O (uY (uY O O (I' (by decide) (by decide))) O O) (zy (.inl (Nt f.1 f.2)))) O (DX (by decide))))];generalize u:g * (g / 1009+69621) % 2147483647=m;have i:0<=m/\m<2147483647:=by rw[<-u];exact⟨iP _ (by decide),iG _ (by decide)⟩
  rw[uT (d:=.int (m * (m / 2003+40692) % 2147483399 % b)) (uY (uY (uY O (uY (uY O O (I' (by decide) (by decide))) O O) (zy (.inl (Nt i.1 i.2)))) O (DX (by decide))) O (DX c))];exact⟨_,[.int q,.int r,.int (n+1)],_,O,O,iP _ (by omega),iG _ c,.inr ⟨_,_,_,O⟩⟩
def NU(h:vV o)(l:0<b)(m:b<1073741824):∃d a,uP o [.int b]=Z (.int d,a)/\0<=d/\d<b/\vV a:=by
 rcases h with ⟨c,rfl⟩|⟨q,r,n,rfl⟩
 .obtain⟨d,a,u,e,p,i,j,q3⟩:=JI (q:=c * (if decide ((10:Int) ^ (18:Int).toNat<=c)=γ then 1 else 0)) (r:=c % 2147483647) (n:=0) (s2:=.z (.int c)) l m;refine⟨d,a,Bj O ?_ p,i,j,q3⟩;unfold Ak;rw[uM (ρ':=[.pm [.int (c * (if decide ((10:Int) ^ (18:Int).toNat<=c)=γ then 1 else 0)),.int (c % 2147483647),.int 0],.z (.int b),.z (.int c),.un,.un])]
  .exact e
  .show fm _ _ _ [.pm [.int c],.z (.int b),.un,.un,.un]=_;rw[vb (ρ':=[.pm [.int c],.z (.int b),.un,.un,.un]) O,uM (show _=Z (tz.nx [.pm [.int c],.z (.int b),.z (.int c),.un,.un]) from O)];rw[uM (Nr (k:=0) (ds:=[.int c]) (uY O O (zy (.inr (by split<;>decide)))) O O)];rfl
 .obtain⟨d,a,u,e,p,i,j,q3⟩:=JI (q:=q) (r:=r) (n:=n) (s2:=.un) l m;refine⟨d,a,Bj O ?_ p,i,j,q3⟩;unfold Ak;rw[uM (ρ':=[.pm [.int q,.int r,.int n],.z (.int b),.un,.un,.un])]
  .exact e
  .show fm _ _ _ [.pm [.int q,.int r,.int n],.z (.int b),.un,.un,.un]=_;rw[vI (ρ':=[.pm [.int q,.int r,.int n],.z (.int b),.un,.un,.un]) O];rfl
def K?(st:List L4.D->aS)(f:∀es,xf (st es) i=Z es)(m:∀es c,putAt (st es) i c=st c)(l:a (st es)=Z (.int b,st es))(o:vV es)(h:0<b)(j:b<1073741824):∃d c,vK uP i (a1 a) (st es)=Z (.int d,st c)/\0<=d/\d<b/\vV c:=by obtain⟨d,c,e,p,q,q3⟩:=NU o h j;exact⟨d,c,by rw[<-m es c];exact yP (f es) (uL l O) (f es) e,p,q,q3⟩
def pk(st:List L4.D->aS)(o:∀es,xf (st es) i=Z es)(q:∀es b,putAt (st es) i b=st b)(l:e (st es)=Z (.bt L,st es))(j:a (st es)=Z (.int L.length,st es))(r:vV es)(h:L≠[])(u:L.length<=1000):∃d∈L,∃b,c2 f? e (vK uP i (a1 a)) (st es)=Z (d,st b)/\vV b:=by
 have p:0<L.length:=oV.2 h;obtain⟨d,b,f,t,w,q3⟩:=K? st o q j r (by omega) (by omega);obtain⟨m,rfl⟩:=cE t;have c:m<L.length:=by omega
 exact⟨L[m],fA c,b,uY l f (DV (bh c)),q3⟩
def ab0(h:e ρ=Z (.bt L,ρ1)):c1 wY e ρ=Z (.int L.length,ρ1):=vQ h O
section
variable{k:Nat}{e?:List Nat}{g:FG}{ft:FT}{fe e:FE}{s:FA}{ρ ρ1 ρ2:aS}{α:Type}
def xT(h:e ρ=Z (.I γ,ρ1)):vJ (uO vc (ax e (ax (cC m) vC))) ρ=Z (.nx ρ1):=wm (uN (uL h (uL O O)) O)
def xG(c h:α->L4.D)(l:List α)(f:s ρ=Z (l.map c,ρ1))(d:l.length<=1000)(st:∀a∈l,∃ρ2 b,g (c a) (Fb k e? ρ1)=Z ρ2/\fe ρ2=Z (h a,b)/\yD e? (b.drop k) ρ1=Z ρ1):
  u5 k e? s g vP fe ρ=Z (l.map h,ρ1):=(Fi f (by rw[ag];exact d)).t (Xo c h l st)
def zq(d h:α->L4.D)(p:α->Bool)(l:List α)(i:s ρ=Z (l.map d,ρ1))(f:l.length<=1000)
  (st:∀a∈l,∃ρ2 b,g (d a) (Fb k e? ρ1)=Z ρ2/\ft ρ2=Z (p a,b)/\(p a=γ->∃c,fe b=Z (h a,c)/\yD e? (c.drop k) ρ1=Z ρ1)/\(p a=δ->yD e? (b.drop k) ρ1=Z ρ1)):
  u5 k e? s g ft fe ρ=Z ((l.filter p).map h,ρ1):=(Fi i (by rw[ag];exact f)).t (Jh d p h l st)
def zI(c:α->L4.D)(l:List α)(f:s ρ=Z (l.map c,ρ1))(d:l.length<=1000)(st:∀a∈l,∃ρ2 b,g (c a) (Fb k e? ρ1)=Z ρ2/\fe ρ2=Z (.I γ,b)/\yD e? (b.drop k) ρ1=Z ρ1):
  c1 zY (cL (u5 k e? s g vP fe)) ρ=Z (.I γ,ρ1):=
 vQ (vR (xG c (λ_=>.I γ) l f d st)) ((Xq l λ_=>γ).t (by rw[aQ.2 λ_ _=>O]))
def UQ(c:α->L4.D)(l:List α)(f:s ρ=Z (l.map c,ρ1))(d:l.length<=1000)(st:∀a∈l,∃ρ2 b,g (c a) (Fb k e? ρ1)=Z ρ2/\fe ρ2=Z (.I δ,b)/\yD e? (b.drop k) ρ1=Z ρ1):
  c1 Ia (cL (u5 k e? s g vP fe)) ρ=Z (.I δ,ρ1):=
 vQ (vR (xG c (λ_=>.I δ) l f d st)) ((P8 l λ_=>δ).t (by rw[pj.2 λ_ _=>bu]))
end
inductive Kd where
 |room|you|plain|fixed|box|lamp
deriving DecidableEq
def Kd.s:Kd->Str
 |.room=>"room" |.you=>"you" |.plain=>"plain" |.fixed=>"fixed" |.box=>"box" |.lamp=>"lamp"
def Kd.pl:Kd->Bool
 |.room=>δ|.you=>δ|_=>γ
def Kd.hd:Kd->Bool
 |.room=>γ|.you=>γ|.box=>γ|_=>δ
def Kd.mk:Kd->Bool
 |.box=>γ|.lamp=>γ|_=>δ
structure Th where
 n:Str
 w:aE
 k:Kd
 s:Option Str
def oS:Option Str->L4.D
 |none=>.E
 |some x=>.str x
def et(t:Th):L4.D:=.obj 0 ["name", "words", "kind", "start"] [.str t.n,.d? (t.w.map D.str),.str t.k.s,oS t.s]
def AQ(t:Th):uU vh "name" (et t)=Z (.str t.n):=rfl
def Mn(t:Th):uU xY "words" (et t)=Z (.d? (t.w.map D.str)):=rfl
def AR(t:Th):uU vO "kind" (et t)=Z (.str t.k.s):=rfl
def Iu(t:Th):uU wH "start" (et t)=Z (oS t.s):=rfl
def HP(a b:Kd):fb δ (.str a.s) (.str b.s)=Z (.I (decide (a=b))):=by cases a<;>cases b<;>kernel_rfl
def Mo(t:Th):zC [et t]=Z (.I t.k.hd):=by obtain⟨n,w,k,s⟩:=t;cases k<;>kernel_rfl
def Ql(t:Th):BQ [et t]=Z (.I t.k.mk):=by obtain⟨n,w,k,s⟩:=t;cases k<;>kernel_rfl
def F4(t:Th):yT [et t]=Z (.I t.k.pl):=by obtain⟨n,w,k,s⟩:=t;cases k<;>kernel_rfl
def XB(t:Th):vT [.str t.k.s,Ce]=Z (.I γ):=by obtain⟨n,w,k,s⟩:=t;cases k<;>kernel_rfl
abbrev TD(T:List Th):L4.D:=.bt (T.map et)
def P?(T:List Th)(a:T.length<=1000)(k:Kd):Ci [TD T,.str k.s]=Z (.int (T.filter λt=>decide (t.k=k)).length):=by refine uR (ρ:=[.z (TD T),.z (.str k.s)]) O ?_;refine uT (vQ (vR (zq et et (λt=>decide (t.k=k)) T (ρ1:=[.z (TD T),.z (.str k.s)]) O a λt _=>⟨[.z (et t),.z (.str k.s)],[.z (et t),.z (.str k.s)],O,v5 (uY (vQ O (AR t)) O (HP t.k k)),λ_=>⟨_,O,O⟩,λ_=>O⟩)) ?_);show Z (D.int _)=_;rw[ag]
def BD(T:List Th)(a:T.length<=1000):yt [TD T]=Z ((T.filter λt=>t.k.pl).map et):=by refine zZ (ρ:=[.z (TD T)]) O ?_;exact xn (zq et et (λt=>t.k.pl) T (ρ1:=[.z (TD T)]) O a λt _=>⟨[.z (et t)],[.z (et t)],O,v5 (vB (xs:=[.str t.n,.d? (t.w.map D.str),.str t.k.s,oS t.s]) (ys:=[]) O O O O (F4 t)),λ_=>⟨_,O,O⟩,λ_=>O⟩)
def JJ(f:a ρ=Z (.int x,ρ))(h:b ρ=Z (.int y,ρ))(i:c ρ=Z (.int z,ρ))(j:x<=y)(l:y<=z):yN Ae Ae a b c ρ=Z (.I γ,ρ):=by
 unfold yN;rw[f];simp only[h];have d:Ae (.int x) (.int y)=Z (.I γ):=by show Z (D.I (decide (x<=y)))=_;rw[aU j]
 have e:Ae (.int y) (.int z)=Z (.I γ):=by show Z (D.I (decide (y<=z)))=_;rw[aU l]
 simp only[d,i,e]
def Qm(c:a ρ=Z (.int x,ρ))(d:b ρ=Z (.int y,ρ))(e:x<=y):c2 Ae a b ρ=Z (.I γ,ρ):=uY c d (by
 show Z (D.I (decide (x<=y)))=_;rw[aU e])
def Ie(T:List Th)(c:T.length<=1000)(f:1<=(T.filter λt=>decide (t.k=.room)).length)(h:(T.filter λt=>decide (t.k=.room)).length<=5)(e:(T.filter λt=>decide (t.k=.you)).length=1)(i:(T.filter λt=>t.k.pl).length<=7):
  AG [TD T]=Z .E:=by
 let b:aS:=[.z (TD T),.z (.I γ)];refine Bl (ρ:=b) O ?_;unfold AF;rw[uM (show _=Z (tz.nx b) from(uZ ((vn O).t (zI et T (ρ1:=[.z (TD T),.un]) O c λt _=>⟨_,_,O,O,O⟩))).t O)];rw[uM (xT (ρ1:=b) O)];rw[uM (xT (ρ1:=b) (zI et T O c λt _=>⟨[.z (et t)],[.z (et t)],O,uN (uL (vQ O (AR t)) (uL O O)) (XB t),O⟩))];rw[uM (xT (ρ1:=b) (JJ (x:=1) (y:=(T.filter λt=>decide (t.k=.room)).length) (z:=5) O (uN (ds:=[TD T,.str Kd.room.s]) O (P? T c .room)) O (by omega) (by omega)))];rw[uM (xT (ρ1:=b) (uY (ρ1:=b) (x:=.int (T.filter λt=>decide (t.k=.you)).length) (y:=.int 1) (uN (ds:=[TD T,.str Kd.you.s]) O (P? T c .you)) O (by rw[e];rfl)))];refine xT (ρ1:=b) (Qm (x:=(T.filter λt=>t.k.pl).length) (y:=7) (vQ (vR (uN O (BD T c))) ?_) O (by omega));show Z (D.int _)=_;rw[ag]
structure Mk where
 n:Str
 st:Int
 mo:Int
def o3(m:Mk):L4.D:=.obj 1 ["name", "start", "most"] [.str m.n,.int m.st,.int m.mo]
def Mk.ok(m:Mk):Prop:=1<=m.mo/\m.mo<=3/\0<=m.st/\m.st<=m.mo
abbrev MD(M:List Mk):L4.D:=.bt (M.map o3)
def Mp(m:Mk):uU vh "name" (o3 m)=Z (.str m.n):=rfl
def OY(m:Mk)(h:m.ok):GA [o3 m]=Z (.I γ):=by obtain⟨a,b,c,d⟩:=h;refine uR (ρ:=[.z (o3 m)]) O ?_;unfold Gy;rw[uM (show _=Z (tz.nx [.z (o3 m)]) from O)];exact uT ((vn (JJ (x:=1) (y:=m.mo) (z:=3) O O O a b)).t (JJ (x:=0) (y:=m.st) (z:=m.mo) O O O c d))
def JK(M:List Mk)(f:M.length<=4)(h:∀m∈M,m.ok):Bp [MD M]=Z .E:=by
 let a:aS:=[.z (MD M),.z (.I γ)];refine Bl (ρ:=a) O ?_;unfold Bo;have c:v7 [MD M,Ag]=Z (.I γ):=by refine uR (ρ:=[.z (MD M),.z (.int 4)]) O ?_;refine uT ((vn O).t (Qm (x:=M.length) (y:=4) ?_ O (by omega)));refine vQ O ?_;show Z (D.int _)=_;rw[ag]
 rw[uM (show _=Z (tz.nx a) from(uZ ((vn (uN (ds:=[MD M,Ag]) O c)).t (zI o3 M (ρ1:=[.z (MD M),.un]) O (by omega) λm d=>⟨[.z (o3 m)],[.z (o3 m)],O,uN O (OY m (h m d)),O⟩))).t O)];exact xT (ρ1:=a) O
def X1:aE:=["hall", "x", "cellar", "loft", "porch"]
def tf:List (Str×aE):=[("chest", ["old", "chest"]),("lamp", ["lamp", "red"]),("stone", ["red", "stone"]),("key", ["key"]),("itch", ["old", "red", "rag"]),("heretic", ["stone", "man"]),("others", ["book", "of", "old"])]
def mkL:aE:=["gate", "luck", "tide", "i"]
def nmL:aE:=X1++("me" : Str)::tf.map cQ++mkL
def Nm(x:Str):Prop:=x∈nmL
def isT:Option L4.D->Bool
 |some (.I b)=>b
 |_=>δ
def CJ(h:isT o=γ):o=Z (.I γ):=by
 unfold isT at h;split at h
 .rw[h]
 .cases h
def isF:Option L4.D->Bool
 |some (.I b)=>!b
 |_=>δ
def OZ(h:isF o=γ):o=Z (.I δ):=by
 unfold isF at h;split at h
 .rw[fw]at h;rw[h]
 .cases h
def O0(h:Nm x):ym [.str x]=Z (.I γ):=CJ (aQ.1 (show (nmL.all λx=>isT (ym [.str x]))=γ by kernel_rfl) x h)
def EW{l:aE}(h:l.Nodup)(a:l.length<=1000):xP [.bt (l.map D.str)]=Z (.I γ):=by
 refine uR (ρ:=[.z (.bt (l.map D.str))]) O ?_;refine uT (uY (x:=.int l.length) (y:=.int l.length) (vQ O (Xg (NC h a))) (vQ O ?_) ?_)
 .show Z (D.int _)=_;rw[ag]
 .rw[yH];simp
def JL(T:List Th)(M:List Mk)(hT:T.length<=400)(hM:M.length<=400)(j:∀x∈T.map Th.n++M.map Mk.n,Nm x)(m:(T.map Th.n++M.map Mk.n).Nodup):Br [TD T,MD M]=Z .E:=by
 have d:(T.map Th.n++M.map Mk.n).length<=1000:=by rw[aC,ag,ag];omega
 let a:aS:=[.z (TD T),.z (MD M),.un];let b:aS:=[.z (TD T),.z (MD M),.z (.bt ((T.map Th.n++M.map Mk.n).map D.str))];refine Bl (ρ:=b) O ?_;unfold Bq;have e:u5 1 [] (iL aa) (gN 0) vP (c1 (uU vh "name") aa) a=Z (T.map λt=>D.str t.n,a):=xG et (λt=>D.str t.n) T O (by omega) λt _=>⟨_,_,O,vQ O (AQ t),O⟩;have f:u5 1 [] (iL ai) (gN 0) vP (c1 (uU vh "name") aa) a=Z (M.map λt=>D.str t.n,a):=xG o3 (λt=>D.str t.n) M O (by omega) λt _=>⟨_,_,O,vQ O (Mp t),O⟩;have h:=uZ (i:=2) (vR (w9 (vR e) (vR f) (by rw[ag,ag];omega)));refine(uM (ρ':=b) (h.t (by
  have:(T.map λt=>D.str t.n)++(M.map λt=>D.str t.n)=(T.map Th.n++M.map Mk.n).map D.str:=by rw[bz,bc,bc];rfl
  rw[this];rfl))).t ?_
 rw[uM (xT (ρ1:=b) (zI D.str (T.map Th.n++M.map Mk.n) O d λx l=>⟨_,_,O,uN O (O0 (j x l)),O⟩))];exact xT (ρ1:=b) (uN O (EW m d))
def k?(T:List Th):aE:=(T.filter λt=>decide (t.k=.room)).map Th.n
def qs(T:List Th):aE:=(T.filter λt=>t.k.hd).map Th.n
abbrev j8:=(cC (.str "room"))
def NV(T:List Th)(b:T.length<=1000)(a:cV i ρ=Z (TD T,ρ)):u5 1 [] (iL (cV i)) (gN 0) (cT (c2 (fb δ) (c1 (uU vO "kind") aa) j8)) (c1 (uU vh "name") aa) ρ=Z ((k? T).map D.str,ρ):=by
 have c:iL (cV i) ρ=Z (T.map et,ρ):=by unfold iL;rw[a]
 have:=zq (k:=1) (e?:=[]) (g:=gN 0) (ft:=cT (c2 (fb δ) (c1 (uU vO "kind") aa) j8)) (fe:=c1 (uU vh "name") aa) et (λt=>D.str t.n) (λt=>decide (t.k=.room)) T c b λt _=>⟨[.z (et t)],[.z (et t)],O,v5 (uY (vQ O (AR t)) O (HP t.k .room)),λ_=>⟨_,vQ O (AQ t),O⟩,λ_=>O⟩
 rw[this];unfold k?;rw[bc];rfl
def O1(T:List Th)(b:T.length<=1000)(a:cV i ρ=Z (TD T,ρ)):u5 1 [] (iL (cV i)) (gN 0) (cT (vg wc "can_hold" aa vC)) (c1 (uU vh "name") aa) ρ=Z ((qs T).map D.str,ρ):=by
 have c:iL (cV i) ρ=Z (T.map et,ρ):=by unfold iL;rw[a]
 have:=zq (k:=1) (e?:=[]) (g:=gN 0) (ft:=cT (vg wc "can_hold" aa vC)) (fe:=c1 (uU vh "name") aa) et (λt=>D.str t.n) (λt=>t.k.hd) T c b λt _=>⟨[.z (et t)],[.z (et t)],O,v5 (vB (xs:=[.str t.n,.d? (t.w.map D.str),.str t.k.s,oS t.s]) (ys:=[]) O O O O (Mo t)),λ_=>⟨_,vQ O (AQ t),O⟩,λ_=>O⟩
 rw[this];unfold qs;rw[bc];rfl
def Ar{x:Str}{l:aE}(h:x∈l):vT [.str x,.bt (l.map D.str)]=Z (.I γ):=by refine uR (ρ:=[.z (.str x),.z (.bt (l.map D.str))]) O ?_;refine uT ((vn O).t (uY O O ?_));rw[xU];simp[h]
def Kq(a d:aE)(f:a.length<=1000)(j:a.Nodup)(h:∀x∈a,x∈d):Ck [.bt (a.map D.str),.bt (d.map D.str)]=Z .E:=by let b:aS:=[.z (.bt (a.map D.str)),.z (.bt (d.map D.str)),.un];let e:aS:=[.z (.bt (a.map D.str)),.z (.bt (d.map D.str)),.z (.I γ)];refine Bl (ρ:=e) O ?_;unfold Cj;rw[uM (show _=Z (tz.nx e) from(uZ ((vn (ρ1:=b) O).t ((vn (zI D.str a (ρ1:=b) O f λx i=>⟨[.z (.str x),.z (.bt (d.map D.str))],[.z (.str x),.z (.bt (d.map D.str))],O,uN O (Ar (h x i)),O⟩)).t (uN (ρ1:=b) O (EW j f))))).t O)];exact xT (ρ1:=e) O
def D7(T:List Th)(t:Th):Prop:=match t.k,t.s with
 |.room,J=>True
 |.room,Z _=>False
 |_,J=>False
 |.you,Z x=>x∈k? T
 |_,Z x=>x∈qs T
def NW(T:List Th)(e:T.length<=1000)(t:Th)(h:D7 T t):EH [TD T,et t]=Z (.I γ):=by
 refine uR (ρ:=[.z (TD T),.z (et t)]) O ?_;unfold EG;obtain⟨n,w,k,s⟩:=t;have els:∀k:Kd,k≠.room->k≠.you->∀x,x∈qs T->(uQ (fm (cT (c2 (fb δ) (c1 (uU vO "kind") ai) j8)) (uV (c2 zw (c1 (uU wH "start") ai) aF)) u4)
   (uQ (fm (cT (c2 (fb δ) (c1 (uU vO "kind") ai) (cC (.str "you")))) (uV (uO vT (ax (c1 (uU wH "start") ai) (ax (cL (u5 1 [] (iL aa) (gN 0) (cT (c2 (fb δ) (c1 (uU vO "kind") aa) j8)) (c1 (uU vh "name") aa))) vC)))) u4)
   (uV (uO vT (ax (c1 (uU wH "start") ai) (ax (cL (u5 1 [] (iL aa) (gN 0) (cT (vg wc "can_hold" aa vC)) (c1 (uU vh "name") aa))) vC)))))) [.z (TD T),.z (et ⟨n,w,k,Z x⟩)]=Z (.rt (.I γ) [.z (TD T),.z (et ⟨n,w,k,Z x⟩)]):=λk f i x j=>by
  let a:aS:=[.z (TD T),.z (et ⟨n,w,k,Z x⟩)];rw[uM (show _=Z (tz.nx a) from(vI (ρ':=a) (v5 (uY (ρ1:=a) (ρ2:=a) (vQ O (AR _)) O ((HP k .room).t (by rw[aT f]))))).t O)];rw[uM (show _=Z (tz.nx a) from(vI (ρ':=a) (v5 (uY (ρ1:=a) (ρ2:=a) (vQ O (AR _)) O ((HP k .you).t (by rw[aT i]))))).t O)];exact uT (uN (uL (vQ O (Iu _)) (uL (vR (O1 T e O)) O)) (Ar j))
 cases k with
 |room=>
  cases s with
  |none=>rfl
  |some x=>exact h.elim
 |you=>
  cases s with
  |none=>exact h.elim
  |some x=>let a:aS:=[.z (TD T),.z (et ⟨n,w,.you,Z x⟩)];rw[uM (show _=Z (tz.nx a) from O)];refine uW ((vb (ρ':=a) O).t ?_);exact uT (uN (uL (vQ O (Iu _)) (uL (vR (NV T e O)) O)) (Ar h))
 |plain=>cases s with
  |none=>exact h.elim
  |some x=>exact els .plain (by decide) (by decide) x h
 |fixed=>cases s with
  |none=>exact h.elim
  |some x=>exact els .fixed (by decide) (by decide) x h
 |box=>cases s with
  |none=>exact h.elim
  |some x=>exact els .box (by decide) (by decide) x h
 |lamp=>cases s with
  |none=>exact h.elim
  |some x=>exact els .lamp (by decide) (by decide) x h
def kS(x:Str):fh:=Sum.inr x
def NX(e:fv ρ=Z (d,ρ))(f:ρ[i]?=Z (.dk a b))(h:fk ρ=Z (.str x,ρ))(o:kS x∉a)(m:a.length<1000)(j:b.length=a.length):
  zz i fk fv ρ=Z (.nx (ρ.set i (.dk (a++[kS x]) (b++[d])))):=by
 have l:HZ a (kS x)=δ:=by unfold HZ;rw[jH];intro z;obtain⟨y,p,c⟩:=fE.1 z;exact o (by rw[<-bF c];exact p)
 unfold zz;rw[e];simp only[f,h];rw[show BJ (.str x)=Z (kS x) from O];simp only;rw[aj m,aj j,l];rfl
section
variable{α:Type}{g:FG}{i:Nat}{fk fv:FE}
theorem BW(h:α->L4.D)(kf:α->Str)(f:α->L4.D)(st:List fh->List L4.D->Sl->aS)
  (p:∀(a:α) (b:List fh) (ds:List L4.D) (s:Sl),∃ρ1,g (h a) (st b ds s)=Z ρ1/\fv ρ1=Z (f a,ρ1)/\ρ1[i]?=Z (.dk b ds)/\fk ρ1=Z (.str (kf a),ρ1)/\∀d c,∃e,ρ1.set i (.dk d c)=st d c e):
  ∀(l:List α) (b:List fh) (ds:List L4.D) (s:Sl),(b++l.map λa=>kS (kf a)).Nodup->b.length+l.length<=1000->ds.length=b.length->
   ∃e,fu g (zz i fk fv) (l.map h) (st b ds s)=Z (.nx (st (b++l.map λa=>kS (kf a)) (ds++l.map f) e))
 |[],b,ds,s,_,_,_=>⟨s,by rw[fK,fK,fK,bS,bS];rfl⟩
 |a::l,b,ds,s,j,A,o=>by
  obtain⟨ρ1,q,r,t,u,w⟩:=p a b ds s;obtain⟨C,x⟩:=w (b++[kS (kf a)]) (ds++[f a]);rw[aM]at A;have m:((b++[kS (kf a)])++l.map λa=>kS (kf a)).Nodup:=by rw[bX];exact j
  have B:kS (kf a)∉b:=λz=>by rw[cn]at j;exact j.2.2 _ z _ (by rw[aI];exact aX) O
  obtain⟨e,y⟩:=BW h kf f st p l (b++[kS (kf a)]) (ds++[f a]) C m (by rw[aC,cF];omega) (by rw[aC,aC,o,cF,cF]);refine⟨e,?_⟩;rw[aI];unfold fu;rw[q];simp only[NX r t u B (by omega) o,x];rw[y,aI,aI,bX,bX];rfl
end
def nK(T:List Th):List fh:=T.map λt=>kS t.n
def O2(h:kS a=kS b):a=b:=jR h
def UR{T:List Th}(h:(T.map Th.n).Nodup):(nK T).Nodup:=by have:=DZ h;rw[bc]at this;exact this
def F5{T:List Th}(h:(T.map Th.n).Nodup)(a:Th->L4.D)(b:t∈T):xu (nK T) (T.map a) (kS t.n)=Z (a t):=by refine Fp (UR h) ?_;unfold nK;rw[mm];exact cG (f:=λt=>(kS t.n,a t)) b
def Mq(T:List Th)(r:Str->Nat):Prop:=∀t∈T,r t.n<T.length/\∀p,t.s=Z p->r p<r t.n/\∃u∈T,u.n=p
def v?(T:List Th):L4.D:=.Q (nK T) (T.map λt=>oS t.s)
def US(T:List Th)(N:T.length<=1000)(B:(T.map Th.n).Nodup)(r:Str->Nat)(w:Mq T r)(t:Th)(z:t∈T):z5 [v? T,.str t.n]=Z (.I γ):=by
 have loop:∀(m:Nat) (l:List L4.D),l.length=m->∀(a:Option Str) (s:Sl),(∀x,a=Z x->(∃u∈T,u.n=x)/\r x<m)->
   (∃b,fu (gN 3) (uQ (fm (cT (c2 zw ak aF)) (uV df) u4) (vd 2 (c2 Ee aa ak))) l [.z (v? T),.z (.str t.n),.z (oS a),s]=Z (.rt (.I γ) b))\/
   (∃j,fu (gN 3) (uQ (fm (cT (c2 zw ak aF)) (uV df) u4) (vd 2 (c2 Ee aa ak))) l [.z (v? T),.z (.str t.n),.z (oS a),s]=Z (.nx [.z (v? T),.z (.str t.n),.z .E,j])):=by
  intro m
  induction m with
  |zero=>
   intro l h a s f;cases l with
   |cons d l=>cases h
   |nil=>
    cases a with
    |none=>exact .inr ⟨s,O⟩
    |some x=>exact aq (f x O).2 (Nat.not_lt_zero _)
  |succ m G=>
   intro l h a s f;cases l with
   |nil=>cases h
   |cons d l=>
    cases a with
    |none=>refine .inl ⟨[.z (v? T),.z (.str t.n),.z .E,.z d],?_⟩;unfold fu;rw[show gN 3 d [.z (v? T),.z (.str t.n),.z (oS J),s]=Z [.z (v? T),.z (.str t.n),.z .E,.z d] from O];rfl
    |some x=>
     obtain⟨⟨u,A,rfl⟩,i⟩:=f x O;have e:uQ (fm (cT (c2 zw ak aF)) (uV df) u4) (vd 2 (c2 Ee aa ak)) [.z (v? T),.z (.str t.n),.z (.str u.n),.z d]=Z (.nx [.z (v? T),.z (.str t.n),.z (oS u.s),.z d]):=by refine(uM (ρ':=[.z (v? T),.z (.str t.n),.z (.str u.n),.z d]) O).t ?_;exact(uZ (uY O O (F5 B (λt=>oS t.s) A))).t O
     have key:=G l (by simpa using h) u.s (.z d) λy F=>by obtain⟨C,c⟩:=w u A;obtain⟨M,E⟩:=c y F;exact⟨E,by omega⟩
     unfold fu;rw[show gN 3 d [.z (v? T),.z (.str t.n),.z (oS (Z u.n)),s]=Z [.z (v? T),.z (.str t.n),.z (.str u.n),.z d] from O];simp only[e];exact key
 obtain⟨C,c⟩:=w t z;have H:=loop T.length (B6 0 T.length) (by unfold B6;simp) t.s .un λx i=>⟨(c x i).2,by have:=(c x i).1;omega⟩;have o:vd 2 (c2 Ee aa ai) [.z (v? T),.z (.str t.n),.un,.un]=Z (.nx [.z (v? T),.z (.str t.n),.z (oS t.s),.un]):=(uZ (uY O O (F5 B (λt=>oS t.s) z))).t O;have p:N? (c1 wY aa) [.z (v? T),.z (.str t.n),.z (oS t.s),.un]=Z (B6 0 T.length,[.z (v? T),.z (.str t.n),.z (oS t.s),.un]):=by unfold N?;rw[show c1 wY aa [.z (v? T),.z (.str t.n),.z (oS t.s),.un]=Z (.int T.length,[.z (v? T),.z (.str t.n),.z (oS t.s),.un]) from vQ O (by show Z (D.int _)=_;unfold nK;rw[ag])];simp only;rw[aj (by omega),gQ]
 rcases H with ⟨b,q⟩|⟨j,q⟩
 .refine uR (ρ:=b) O ?_;refine(uM o).t (uW ((wF p).t q))
 .refine uR (ρ:=[.z (v? T),.z (.str t.n),.z .E,j]) O ?_;refine(uM o).t ((uM ((wF p).t q)).t O)
def Ig(T:List Th)(x:T.length<=900)(h:(T.map Th.n).Nodup)(r:Str->Nat)(m:Mq T r)(o:∀t∈T,D7 T t):AI [TD T]=Z .E:=by
 obtain⟨b,l⟩:=BW (g:=gN 2) (i:=1) (fk:=c1 (uU vh "name") ak) (fv:=c1 (uU wH "start") ak) et Th.n (λt=>oS t.s) (λe c s=>[.z (TD T),.dk e c,s])
  (λt e c s=>⟨[.z (TD T),.dk e c,.z (et t)],O,vQ O (Iu t),O,vQ O (AQ t),λp j=>⟨_,O⟩⟩) T [] [] .un (by rw[cw];exact UR h) (by simp;omega) O
 refine Bl (ρ:=[.z (TD T),.z (v? T),b]) O ?_;unfold AH;refine(uM (xT (ρ1:=[.z (TD T),.un,.un]) (zI et T O (by omega) λt d=>⟨[.z (et t),.z (TD T)],[.z (et t),.z (TD T)],O,uN O (NW T (by omega) t (o t d)),O⟩))).t ?_;refine(uM (ρ':=[.z (TD T),.dk [] [],.un]) O).t ?_;refine(uM ((wF O).t l)).t ?_;have src:iD (Hs 1) [.z (TD T),.dk ([]++T.map λa=>kS a.n) ([]++T.map λt=>oS t.s),b]=Z ((T.map λt=>D.str t.n),[.z (TD T),.z (v? T),b]):=by rw[cw,cw];unfold iD;rw[show Hs 1 [.z (TD T),.dk (T.map λa=>kS a.n) (T.map λt=>oS t.s),b]=Z (v? T,[.z (TD T),.z (v? T),b]) from O];show (if (nK T).length=(T.map λt=>oS t.s).length then Z ((nK T).map keyV,_)else J)=_;unfold nK;rw[aj (by rw[ag,ag]),bc];rfl
 exact xT (ρ1:=[.z (TD T),.z (v? T),b]) (zI (λt:Th=>D.str t.n) T src (by omega) λt d=>⟨[.z (.str t.n),.z (v? T)],[.z (.str t.n),.z (v? T)],O,uN O (US T (by omega) h r m t d),O⟩)
def Mr(l:List Th)(r:Th):Prop:=(r.k=.room/\r.s=J)\/(r.k=.you/\∃u∈l,r.s=Z u.n/\u.k=.room)\/(r.k.pl=γ/\∃u∈l,r.s=Z u.n/\u.k.hd=γ)
inductive Ord:List Th->Prop
 |nil:Ord []
 |snoc {l:List Th} {r:Th} (h:Ord l) (h':Mr l r):Ord (l++[r])
def Mr.mono(h:Mr l r)(d:∀u∈l,u∈e):Mr e r:=by
 rcases h with h|⟨a,u,b,c⟩|⟨a,u,b,c⟩
 .exact .inl h
 .exact .inr (.inl ⟨a,u,d u b,c⟩)
 .exact .inr (.inr ⟨a,u,d u b,c⟩)
def Ord.all(h:Ord l):∀r∈l,Mr l r:=by
 induction h with
 |nil=>exact λr hr=>(cA hr).elim
 |snoc h b c=>
  intro r hr;rcases aV.1 hr with hr|hr
  .exact(c r hr).mono λu a=>bJ _ a
  .rw[bp]at hr;subst hr;exact b.mono λu a=>bJ _ a
def Mr.start(h:Mr l r)(a:r.s=Z p):∃u∈l,u.n=p:=by
 rcases h with ⟨_,h⟩|⟨_,u,b,c,_⟩|⟨_,u,b,c,_⟩
 .rw[h]at a;cases a
 .rw[c]at a;cases a;exact⟨u,b,O⟩
 .rw[c]at a;cases a;exact⟨u,b,O⟩
def Ord.rank(h:Ord l):(l.map Th.n).Nodup->∃c:Str->Nat,∀t∈l,c t.n<l.length/\∀p,t.s=Z p->c p<c t.n/\∃u∈l,u.n=p:=by
 induction h with
 |nil=>exact λ_=>⟨λ_=>0,λt a=>(cA a).elim⟩
 |@snoc l r h j q=>
  intro e;rw[bz,cn]at e;obtain⟨c,i⟩:=q e.1;have f:∀u∈l,u.n≠r.n:=λu b z=>e.2.2 _ (cG b) _ (by simp) z;refine⟨λx=>if x=r.n then l.length else c x,λt a=>?_⟩;rw[aC,cF];dsimp only;rcases aV.1 a with a|a
  .obtain⟨w,m⟩:=i t a;rw[ao (f t a)];refine⟨by omega,λp d=>?_⟩;obtain⟨o,u,b,rfl⟩:=m p d;rw[ao (f u b)];exact⟨o,u,bJ _ b,O⟩
  .rw[bp]at a;subst a;rw[aj O];refine⟨by omega,λp d=>?_⟩;obtain⟨u,b,rfl⟩:=j.start d;rw[ao (f u b)];exact⟨(i u b).1,u,bJ _ b,O⟩
def JM{ds:List L4.D}(k:Nat)(h:k<=ds.length):ro ds J (Z (k:Int))=ds.take k:=by unfold ro;rw[HT.MU,HT.Pp,qg h,qw,Nat.sub_zero]
def UT{ds:List L4.D}(k:Nat)(h:k<=ds.length):ro ds (Z (k:Int)) J=ds.drop k:=by unfold ro;rw[HT.MU,HT.Pp,qg h,iy (by rw[fC];omega)]
def wdL:List (Str×aE):=X1.map (λx:Str=>(x,([x,"place"]:aE)))++(("me", ["me", "self"]):Str×aE)::tf
def Th.nw(t:Th):Str×aE:=(t.n,t.w)
def D8(t:Th):Prop:=t.nw∈wdL/\(t.k.pl=γ->t.nw∈tf)
def Ms(h:D8 t):A8 [.d? (t.w.map D.str)]=Z (.I γ):=CJ (aQ.1 (show (wdL.all λq=>isT (A8 [.d? (q.2.map D.str)]))=γ by kernel_rfl) t.nw h.1)
def O3(t u:Th)(a:t.nw∈tf)(b:u.nw∈tf)(hne:u.n≠t.n):BR [.d? (u.w.map D.str),.d? (t.w.map D.str)]=Z (.I δ):=by
 have h:=aQ.1 (aQ.1 (show (tf.all λp=>tf.all λq=>decide (q.1=p.1)||isF (BR [.d? (q.2.map D.str),.d? (p.2.map D.str)]))=γ by kernel_rfl) t.nw a) u.nw b;rw[jM]at h;rcases h with h|h
 .exact aq (bF h) hne
 .exact OZ h
def Kr(P:List Th)(d:P.length<=900)(h:∀t∈P,t.nw∈tf)(t:Th)(f:t.nw∈tf):z7 [TD P,et t]=Z (.I γ):=by
 let b:=P.filter λu=>!decide (u.n=t.n);let a:aS:=[.z (TD P),.z (et t),.z (TD b)];have hO:b.length<=900:=bG (cu _ _) d;refine uR (ρ:=a) O ?_;unfold z6;refine(uM (ρ':=a) ((uZ (vR (zq et et (λu=>!decide (u.n=t.n)) P (ρ1:=[.z (TD P),.z (et t),.un]) O (by omega) λu _=>⟨[.z (et u),.z (et t)],[.z (et u),.z (et t)],O,v5 (uY (vQ O (AQ u)) (vQ O (AQ t)) (xN γ u.n t.n)),λ_=>⟨_,O,O⟩,λ_=>O⟩))).t O)).t ?_;have e:c1 Ia (cL (u5 1 [1] (iL ak) (gN 0) vP (uO BR (ax (c1 (uU xY "words") aa) (ax (c1 (uU xY "words") ai) vC))))) a=Z (.I δ,a):=
  UQ et b O (by omega) λu c=>⟨[.z (et u),.z (et t)],[.z (et u),.z (et t)],O,uN (uL (vQ O (Mn u)) (uL (vQ O (Mn t)) O)) (O3 t u f (h u (aW.1 c).1) (by simpa using (aW.1 c).2)),O⟩
 refine uT ?_;unfold D9;rw[e];rfl
def JN(T:List Th)(e:T.length<=900)(d:∀t∈T,D8 t):xE [TD T]=Z .E:=by let P:=T.filter λt=>t.k.pl;have hP:P.length<=900:=bG (cu _ _) e;have hwP:∀t∈P,t.nw∈tf:=λt a=>(d t (aW.1 a).1).2 (aW.1 a).2;let b:aS:=[.z (TD T),.z (TD P)];refine Bl (ρ:=b) O ?_;unfold xD;refine(uM (xT (ρ1:=[.z (TD T),.un]) (zI et T O (by omega) λt a=>⟨[.z (et t)],[.z (et t)],O,uN (uL (vQ O (Mn t)) O) (Ms (d t a)),O⟩))).t ?_;refine(uM (ρ':=b) ((uZ (vR (uN O (BD T (by omega))))).t O)).t ?_;exact xT (ρ1:=b) (zI et P O (by omega) λt a=>⟨[.z (et t),.z (TD P)],[.z (et t),.z (TD P)],O,uN O (Kr P hP hwP t (hwP t a)),O⟩)
def Mu(h:e ρ=Z (.I b,ρ1)):D9 e ρ=Z (.I !b,ρ1):=by unfold D9;rw[h]
def JO{l m:aE}(hd:d=.bt (m.map D.str)\/d=.d? (m.map D.str))(c:l.length<=900)(h:∀x∈l,x∉m):zP [.bt (l.map D.str),d]=Z (.I γ):=by
 let a:aS:=[.z (.bt (l.map D.str)),.z d];refine uR (ρ:=a) O ?_;have e:c1 Ia (cL (u5 1 [1] (iL aa) (gN 0) vP (c2 (m? δ) aa ai))) a=Z (.I δ,a):=UQ D.str l O (by omega) λx b=>⟨[.z (.str x),.z d],[.z (.str x),.z d],O,uY O O (by
  rcases hd with rfl|rfl
  .rw[xU];simp[h x b]
  .rw[Ul];simp[h x b]),O⟩
 exact uT (Mu e)
structure Vb where
 n:Str
 o:aE
 f:Str
 j:Option Str
def ki(v:Vb):L4.D:=.obj 2 ["name", "others", "form", "joining"] [.str v.n,.d? (v.o.map D.str),.str v.f,oS v.j]
def v6:List Vb:=[⟨"push", ["shove", "p"],"one", J⟩,⟨"tie", [],"two", Z "to"⟩,⟨"sing", ["hum"],"alone", J⟩,⟨"swim", ["dive"],"way", J⟩,⟨"takes", [],"two", Z "in"⟩,⟨"w", [],"alone", J⟩]
def v9:List Vb:=[⟨"take", [],"one", J⟩,⟨"drop", [],"one", J⟩,⟨"open", [],"one", J⟩,⟨"shut", [],"one", J⟩,⟨"light", [],"one", J⟩,⟨"douse", [],"one", J⟩,⟨"put", [],"two", Z "in"⟩,⟨"go", [],"way", J⟩,⟨"wait", [],"alone", J⟩]
abbrev VD(V:List Vb):L4.D:=.bt (V.map ki)
def vL(t n:Nat):List Vb:=(v6.drop t++v6.take t).take n
def UU:zi []=Z (v9.map ki):=by kernel_rfl
def Vb.ws(v:Vb):aE:=v.n::v.o
def vW:aE:=(v6++v9).flatMap Vb.ws
def bW:aE:=["to", "in", "north", "up", "outside"]
def V42(p:List Vb->Bool):Bool:=(aZ 6).all λt=>(aZ 7).all λn=>p (vL t n)
def v42(h:V42 p=γ)(b:t<6)(a:n<7):p (vL t n)=γ:=aQ.1 (aQ.1 h t (bN.2 b)) n (bN.2 a)
def Mx(h:v∈vL t n):v∈v6:=by
 rcases aV.1 (iC h)with h|h
 .exact oJ h
 .exact iC h
def JP(t n:Nat):(vL t n).length<=6:=by unfold vL;rw[bY,aC,fC,bY];show min n (6 - t+min t 6)<=6;omega
def isN:Option L4.D->Bool
 |some .E=>γ
 |_=>δ
def ab1(h:isN o=γ):o=Z .E:=by
 unfold isN at h;split at h
 .rfl
 .cases h
def JQ(b:t<6)(a:n<7):yE [VD (vL t n)]=Z .E:=ab1 (v42 (p:=λV=>isN (yE [VD V])) (by kernel_rfl) b a)
def Qn(b:t<6)(a:n<7):((vL t n++v9).flatMap Vb.ws).Nodup:=bF (v42 (p:=λV=>decide ((V++v9).flatMap Vb.ws).Nodup) (by kernel_rfl) b a)
def vws{V:List Vb}(h:∀v∈V,v∈v6):∀x∈(V++v9).flatMap Vb.ws,x∈vW:=λx b=>by
 obtain⟨v,a,b⟩:=dP.1 b;refine dP.2 ⟨v,?_,b⟩;rcases aV.1 a with a|a
 .exact bJ _ (h v a)
 .exact bA _ a
structure Wy where
 r:Str
 w:Str
 g:Str
 m:Option Str
def n9(w:Wy):L4.D:=.d? [.str w.r,.str w.w,.str w.g,oS w.m]
abbrev WD(W:List Wy):L4.D:=.bt (W.map n9)
def vo(T:List Th)(M:List Mk):aE:=(T.filter λt=>t.k.mk).map Th.n++M.map Mk.n
structure Ks(T:List Th)(M:List Mk)(w:Wy):Prop where
 hr:w.r∈k? T
 hw:w.w∈(["north", "up", "outside"]:aE)
 hg:w.g∈k? T
 hm:∀x,w.m=Z x->x∈vo T M
def Qo(l:List L4.D)(n:Int)(h:(l.length:Int)<=n):v7 [.bt l,.int n]=Z (.I γ):=by
 have e:v7 [.bt l,.int n]=Z (.I (decide ((l.length:Int)<=n))):=by kernel_rfl
 rw[e,aU h]
def F6(b:e ρ=Z (.I δ,ρ1)):S' e a ρ=a ρ1:=by unfold S';rw[b]
def My(a:e ρ=Z (.I γ,ρ1)):S' e b ρ=Z (.I γ,ρ1):=by unfold S';rw[a]
def RY(h:Ks T M w):JA [n9 w,.bt ((k? T).map D.str),.bt ((vo T M).map D.str)]=Z (.I γ):=by
 let R:L4.D:=.bt ((k? T).map D.str);let K:L4.D:=.bt ((vo T M).map D.str);let a:aS:=[.z (n9 w),.z R,.z K,.un];let d:aS:=[.z (n9 w),.z R,.z K,.z (.I γ)];refine uR (ρ:=d) O ?_;unfold Jz;refine(uM (ρ':=a) O).t ?_;have e:S' (c2 zw (c2 f? aa fO) aF) (uO vT su) a=Z (.I γ,a):=by
  obtain⟨r,x,g,m⟩:=w;cases m with
  |none=>rfl
  |some y=>exact(F6 (ρ1:=a) O).t (uN (ds:=[.str y,K]) O (Ar (h.hm y O)))
 refine(uM (ρ':=d) ((uZ e).t O)).t (uT ?_);have f:yn [.str w.w]=Z (.I γ):=CJ (aQ.1 (show ((["north", "up", "outside"]:aE).all λx=>isT (yn [.str x]))=γ by kernel_rfl) w.w h.hw);exact(vn (uN (ds:=[.str w.r,R]) O (Ar h.hr))).t ((vn (uN (ds:=[.str w.w]) O f)).t ((vn (uN (ds:=[.str w.g,R]) O (Ar h.hg))).t O))
theorem Qp:∀W:List Wy,zu (W.map λw=>D.d? [.str w.r,.str w.w])=Z (W.map λw=>[w.r,w.w])
 |[]=>rfl
 |w::W=>by rw[aI];unfold zu;rw[Qp W];rfl
def Kt{W:List Wy}(e:W.length<=8)(h:∀w∈W,Ks T M w)(i:(W.map λw=>[w.r,w.w]).Nodup):Cp [WD W,.bt ((k? T).map D.str),.bt ((vo T M).map D.str)]=Z .E:=by
 let R:L4.D:=.bt ((k? T).map D.str);let K:L4.D:=.bt ((vo T M).map D.str);let d:aS:=[.z (WD W),.z R,.z K,.un];let c:aS:=[.z (WD W),.z R,.z K,.z (.I γ)];refine Bl (ρ:=c) O ?_;unfold Cn;refine(uM (ρ':=c) ((uZ ((vn (uN (ds:=[WD W,Du]) O (Qo _ _ (by rw[ag];omega)))).t (zI n9 W (ρ1:=d) O (by omega) λw f=>⟨[.z (n9 w),.z R,.z K],[.z (n9 w),.z R,.z K],O,uN O (RY (h w f)),O⟩))).t O)).t ?_;refine(uM (xT (ρ1:=c) O)).t (xT (ρ1:=c) (uN (uL (vR (xG n9 (λw=>.d? [.str w.r,.str w.w]) W (ρ1:=c) O (by omega) λw _=>⟨[.z (n9 w)],[.z (n9 w)],O,O,O⟩)) O) ?_));refine uR (ρ:=[.z (.bt (W.map λw:Wy=>D.d? [.str w.r,.str w.w]))]) O (uT (uY (x:=.int W.length) (y:=.int W.length) (vQ O ?_) (vQ O ?_) ?_))
 .have b:x8 (W.map λw=>D.d? [.str w.r,.str w.w])=J\/x8 (W.map λw=>D.d? [.str w.r,.str w.w])=Z (.int W.length):=by
   cases W with
   |nil=>exact .inr O
   |cons w W=>exact .inl O
  show (match x8 (W.map λw:Wy=>D.d? [.str w.r,.str w.w])with|some r=>Z r|none=>EE (W.map λw:Wy=>D.d? [.str w.r,.str w.w]))=_;rcases b with b|b
  .rw[b];show EE _=_;unfold EE;rw[Qp];dsimp only;rw[aj ⟨i,by rw[ag];exact e⟩,ag]
  .rw[b]
 .show Z (D.int _)=_;rw[ag]
 .rw[yH];simp
def ab2{t:Th}(h:t.nw∈tf):t.w.length<=3:=bF (aQ.1 (show (tf.all λq=>decide (q.2.length<=3))=γ by kernel_rfl) t.nw h)
theorem JR:∀(P:List Th) (acc:aE) (s:Sl),acc.length+3 * P.length<=900->(∀t∈P,t.nw∈tf)->
  ∃f,fu (gN 4) (vJ (Dl 3 (c1 (uU xY "words") aw))) (P.map et) [a,b,c,.O (acc.map D.str),s,s5,s6,s7]=Z (.nx [a,b,c,.O ((acc++P.flatMap Th.w).map D.str),f,s5,s6,s7])
 |[],acc,s,_,_=>⟨s,by simp;rfl⟩
 |t::P,acc,s,j,h=>by
  have o:=ab2 (h t aX);rw[aM]at j;obtain⟨f,e⟩:=JR P (acc++t.w) (.z (et t)) (by rw[aC];omega) λu l=>h u (ba _ l);refine⟨f,?_⟩;rw[aI];unfold fu;have i:vJ (Dl 3 (c1 (uU xY "words") aw)) [a,b,c,.O (acc.map D.str),.z (et t),s5,s6,s7]=Z (.nx [a,b,c,.O ((acc++t.w).map D.str),.z (et t),s5,s6,s7]):=by refine(wm (d:=.E) (ρ':=[a,b,c,.O ((acc++t.w).map D.str),.z (et t),s5,s6,s7]) ?_);unfold Dl;show (if (acc.map D.str).length+(t.w.map D.str).length<=1000 then Z (D.E,[a,b,c,.O (acc.map D.str++t.w.map D.str),.z (et t),s5,s6,s7])else J)=_;rw[aj (by rw[ag,ag];omega),bz]
  rw[show gN 4 (et t) [a,b,c,.O (acc.map D.str),s,s5,s6,s7]=Z [a,b,c,.O (acc.map D.str),.z (et t),s5,s6,s7] from O];simp only[i];rw[e,fz,bX]
theorem Qq:∀(V:List Vb) (acc:aE) (s:Sl),acc.length+3 * V.length<=900->(∀v∈V,v.o.length<=2)->
  ∃h,fu (gN 6) (vJ (Dl 5 (G3 (vE j3) (c1 (uU ye "others") bR)))) (V.map ki) [a,b,c,s3,s4,.O (acc.map D.str),s,s7]=Z (.nx [a,b,c,s3,s4,.O ((acc++V.flatMap Vb.ws).map D.str),h,s7])
 |[],acc,s,_,_=>⟨s,by simp;rfl⟩
 |v::V,acc,s,m,i=>by
  have q:=i v aX;rw[aM]at m;have r:v.ws.length<=3:=by unfold Vb.ws;rw[aM];omega
  obtain⟨h,e⟩:=Qq (a:=a) (b:=b) (c:=c) (s3:=s3) (s4:=s4) (s7:=s7) V (acc++v.ws) (.z (ki v)) (by rw[aC];omega) λu p=>i u (ba _ p);refine⟨h,?_⟩;rw[aI];unfold fu;let f:aS:=[a,b,c,s3,s4,.O (acc.map D.str),.z (ki v),s7];have j:G3 (vE j3) (c1 (uU ye "others") bR) f=Z (.d? (v.ws.map D.str),f):=by show (if ([]:List L4.D).length+(v.o.map D.str).length<=900 then Z (D.d? (.str v.n::[]++v.o.map D.str),f)else J)=_;rw[aj (by rw[ag];simp only[fF];omega)];rfl
  have l:vJ (Dl 5 (G3 (vE j3) (c1 (uU ye "others") bR))) f=Z (.nx [a,b,c,s3,s4,.O ((acc++v.ws).map D.str),.z (ki v),s7]):=by refine wm (d:=.E) ?_;unfold Dl;rw[j];show (if (acc.map D.str).length+(v.ws.map D.str).length<=1000 then Z (D.E,[a,b,c,s3,s4,.O (acc.map D.str++v.ws.map D.str),.z (ki v),s7])else J)=_;rw[aj (by rw[ag,ag];omega),bz]
  rw[show gN 6 (ki v) [a,b,c,s3,s4,.O (acc.map D.str),s,s7]=Z f from O];simp only[l];rw[e,fz,bX]
def jsN(V:List Vb):aE:=V.filterMap Vb.j
def v_o2{V:List Vb}(h:∀v∈V,v∈v6):∀v∈V++v9,v.o.length<=2:=λv b=>by
 have a:=aQ.1 (show ((v6++v9).all λv=>decide (v.o.length<=2))=γ by kernel_rfl) v (by
  rcases aV.1 b with b|b
  .exact bJ _ (h v b)
  .exact bA _ b)
 exact bF a
def adT(h:e c=Z (.bt b,a)):iL e c=Z (b,a):=by unfold iL;rw[h]
def adU(V:List Vb)(d:V.length<=900)(a:cV 2 ρ=Z (VD V,ρ)):u5 1 [] (iL ak) (gN 0) (cT (c2 w6 (c1 (uU xq "joining") aa) aF)) (c1 (uU xq "joining") aa) ρ=Z ((jsN V).map D.str,ρ):=by
 have b:iL ak ρ=Z (V.map ki,ρ):=adT a;refine(zq (k:=1) (e?:=[]) (g:=gN 0) (ft:=cT (c2 w6 (c1 (uU xq "joining") aa) aF)) (fe:=c1 (uU xq "joining") aa) ki (λv=>oS v.j) (λv=>v.j.isSome) V b (by omega) λv _=>⟨[.z (ki v)],[.z (ki v)],O,?_,λ_=>⟨[.z (ki v)],O,O⟩,λ_=>O⟩).t ?_
 .obtain⟨n,o,f,j⟩:=v;cases j<;>rfl
 .congr 2;unfold jsN;clear b a d
  induction V with
  |nil=>rfl
  |cons v V c=>
   obtain⟨n,o,f,j⟩:=v;cases j with
   |none=>rw[oe (by simp),List.filterMap_cons_none O];exact c
   |some x=>rw[kJ (by simp)];exact bH (D.str x::·) c
def JS{T:List Th}{W:List Wy}(X:T.length<=200)(G:∀t∈T,D8 t)(hW:W.length<=8)(ww:∀w∈W,w.w∈(["north", "up", "outside"]:aE))(y:t<6)(I:n<7):xQ [TD T,WD W,VD (vL t n++v9)]=Z .E:=by
 let V:=vL t n++v9;have v6m:∀v∈vL t n,v∈v6:=λv E=>Mx E;have lV:V.length<=15:=by show (vL t n++v9).length<=15;rw[aC];have:=JP t n;show (vL t n).length+9<=15;omega
 let P:=T.filter λt=>t.k.pl;have hP:P.length<=200:=bG (cu _ _) X;have hwP:∀t∈P,t.nw∈tf:=λt y=>(G t (aW.1 y).1).2 (aW.1 y).2;let A:Sl:=.z (TD T);let B:Sl:=.z (WD W);let C:Sl:=.z (VD V);obtain⟨i,Q⟩:=JR (a:=A) (b:=B) (c:=C) (s5:=.un) (s6:=.un) (s7:=.un) P [] .un (by simp;omega) hwP;let u:=P.flatMap Th.w;let U:=V.flatMap Vb.ws;let p:Sl:=.O (u.map D.str);obtain⟨z,R⟩:=Qq (a:=A) (b:=B) (c:=C) (s3:=p) (s4:=i) (s7:=.un) V [] .un (by simp;omega) (v_o2 v6m);let o:aE:=jsN V++W.map Wy.w;let AT:Sl:=.z (.bt (o.map D.str));have lU:U.length<=100:=by have h:=vws v6m;have S:=NJ (Qn y I) h;exact bG S (iA (by kernel_rfl))
 have lJ:(jsN V).length<=15:=bG (List.length_filterMap_le _ _) lV;have lB:o.length<=100:=by show (jsN V++W.map Wy.w).length<=100;rw[aC,ag];omega
 have bIn:∀x∈o,x∈bW:=λx d=>by
  rcases aV.1 d with d|d
  .obtain⟨v,E,e⟩:=iF.1 d;have a:=aQ.1 (show ((v6++v9).all λv=>match v.j with|some x=>decide (x∈bW)|none=>γ)=γ by kernel_rfl) v (by
    rcases aV.1 E with E|E
    .exact bJ _ (v6m v E)
    .exact bA _ E)
   rw[e]at a;exact bF a
  .obtain⟨w,G,rfl⟩:=au.1 d;exact(show ∀x∈(["north", "up", "outside"]:aE),x∈bW by decide) _ (ww w G)
 have oIn:∀x∈u,x∈tf.flatMap bI:=λx d=>by obtain⟨t,y,hxt⟩:=dP.1 d;exact dP.2 ⟨t.nw,hwP t y,hxt⟩
 have uIn:∀x∈U,x∈vW:=vws v6m;have s1:∀x∈vW++bW,x∉tf.flatMap bI:=by decide +kernel
 have s2:∀x∈vW++bW,x∉(["the", "a", "undo", "restart"]:aE):=by decide +kernel
 have M:∀x∈bW,x∉vW:=by decide +kernel
 have N:∀x∈U++o,x∈vW++bW:=λx d=>by
  rcases aV.1 d with d|d
  .exact bJ _ (uIn x d)
  .exact bA _ (bIn x d)
 have lUB:(U++o).length<=900:=by rw[aC];omega
 let UL:L4.D:=.bt (U.map D.str);refine Bl (ρ:=[A,B,C,.z (.bt (u.map D.str)),i,.z UL,z,AT]) O ?_;unfold yU;refine(uM (ρ':=[A,B,C,.O [],.un,.un,.un,.un]) O).t ?_;refine(uM (ρ':=[A,B,C,p,i,.un,.un,.un]) ((wF (ds:=P.map et) (ρ1:=[A,B,C,.O [],.un,.un,.un,.un]) ?_).t Q)).t ?_
 .unfold iL;rw[vR (uN (g:=yt) (ds:=[TD T]) (ρ1:=[A,B,C,.O [],.un,.un,.un,.un]) O (BD T (by omega)))]
 refine(uM (ρ':=[A,B,C,p,i,.O [],.un,.un]) O).t ?_;refine(uM (ρ':=[A,B,C,p,i,.O (U.map D.str),z,.un]) ((wF (ds:=V.map ki) (ρ1:=[A,B,C,p,i,.O [],.un,.un]) O).t R)).t ?_;refine(uM (ρ':=[A,B,C,p,i,.O (U.map D.str),z,AT]) ((uZ (vR (w9 (vR (adU V (by omega) O)) (vR (xG n9 (λw=>.str w.w) W (ρ1:=[A,B,C,p,i,.O (U.map D.str),z,.un]) O (by omega) λw _=>⟨[.z (n9 w)],[.z (n9 w)],O,O,O⟩)) (by rw[ag,ag];omega)))).t ?_)).t ?_
 .show Z (tz.nx [A,B,C,p,i,.O (U.map D.str),z,.z (.bt ((jsN V).map D.str++W.map λw=>.str w.w))])=_;rw[show (jsN V).map D.str++(W.map λw=>D.str w.w)=o.map D.str by show _=(jsN V++W.map Wy.w).map D.str;rw[bz,bc];rfl]
 refine(uM (xT (ρ1:=[A,B,C,p,i,.z UL,z,AT]) (uN (ds:=[UL]) O (EW (Qn y I) (by omega))))).t ?_;have H:∀(q:Sl),cL (xx (Hs 5) bq) [A,B,C,q,i,.z UL,z,AT]=Z (.bt ((U++o).map D.str),[A,B,C,q,i,.z UL,z,AT]):=λq=>(vR (w9 (xs:=U.map D.str) (ys:=o.map D.str) (ρ1:=[A,B,C,q,i,.z UL,z,AT]) O O (by rw[ag,ag];omega))).t (by rw[<-bz]);refine(uM (xT (ρ1:=[A,B,C,.z (.bt (u.map D.str)),i,.z UL,z,AT]) (uN (uL (H p) (uL O O)) (JO (l:=U++o) (m:=u) (.inl O) lUB λx d Y=>s1 x (N x d) (oIn x Y))))).t ?_;refine(uM (xT (ρ1:=[A,B,C,.z (.bt (u.map D.str)),i,.z UL,z,AT]) (uN (uL (H _) (uL O O)) (JO (l:=U++o) (m:=["the", "a", "undo", "restart"]) (.inr O) lUB λx d=>s2 x (N x d))))).t ?_;exact xT (ρ1:=[A,B,C,.z (.bt (u.map D.str)),i,.z UL,z,AT]) (uN (uL O (uL O O)) (JO (l:=o) (m:=U) (.inl O) (by omega) λx d hu=>M x (bIn x d) (uIn x hu)))
structure ff(T:List Th)(M:List Mk)(dk:aE)(W:List Wy):Prop where
 len:T.length<=13
 r1:1<=(T.filter λt=>decide (t.k=.room)).length
 r5:(T.filter λt=>decide (t.k=.room)).length<=5
 y1:(T.filter λt=>decide (t.k=.you)).map Th.n=(["me"]:aE)
 p7:(T.filter λt=>t.k.pl).length<=7
 m4:M.length<=4
 mo:∀m∈M,m.ok
 nm:∀x∈T.map Th.n++M.map Mk.n,Nm x
 nd:(T.map Th.n++M.map Mk.n).Nodup
 st:∀t∈T,D7 T t
 rk:∃r,Mq T r
 wd:∀t∈T,D8 t
 d0:dk.length<=5
 d1:dk.Nodup
 d2:∀x∈dk,x∈k? T
 w8:W.length<=8
 wo:∀w∈W,Ks T M w
 wn:(W.map λw=>[w.r,w.w]).Nodup
section
variable{T:List Th}{M:List Mk}{dk:aE}{W:List Wy}
def ff.B'(g:ff T M dk W):(T.map Th.n).Nodup:=(cn.1 g.nd).1
def Et(T:List Th)(M:List Mk)(c:T.length<=200)(hM:M.length<=4):yu [TD T,MD M]=Z ((vo T M).map D.str):=by
 let a:aS:=[.z (TD T),.z (MD M)];have h:=cu (λt:Th=>t.k.mk) T;refine(zZ (ρ:=a) O (xn (w9 (vR (zq et (λt=>D.str t.n) (λt=>t.k.mk) T (ρ1:=a) O (by omega) λt _=>⟨[.z (et t)],[.z (et t)],O,v5 (vB (xs:=[.str t.n,.d? (t.w.map D.str),.str t.k.s,oS t.s]) (ys:=[]) O O O O (Ql t)),λ_=>⟨_,vQ O (AQ t),O⟩,λ_=>O⟩))
  (vR (xG o3 (λt=>D.str t.n) M O (by omega) λt _=>⟨_,_,O,vQ O (Mp t),O⟩)) (by rw[ag,ag];omega)))).t ?_
 unfold vo;rw[bz,bc,bc];rfl
def JT(g:ff T M dk W)(f:t<6)(e:n<7):Bt [TD T,MD M,.bt (dk.map D.str),WD W,VD (vL t n),VD v9]=Z .E:=by
 have o:=g.len;have h:=g.m4;have hdk:dk.length<=1000:=by have:=g.d0;omega
 have l:(T.filter λt=>decide (t.k=.you)).length=1:=by have:=bH dh g.y1;rw[ag]at this;exact this
 obtain⟨r,i⟩:=g.rk;let b:aS:=[.z (TD T),.z (MD M),.z (.bt (dk.map D.str)),.z (WD W),.z (VD (vL t n)),.z (VD v9),.un];let c:aS:=[.z (TD T),.z (MD M),.z (.bt (dk.map D.str)),.z (WD W),.z (VD (vL t n)),.z (VD v9),.z (.bt ((k? T).map D.str))];refine Bl (ρ:=c) O ?_;unfold Bs;refine(uM (wm (ρ':=b) (uN O (Ie T (by omega) g.r1 g.r5 l g.p7)))).t ?_;refine(uM (wm (ρ':=b) (uN O (JK M g.m4 g.mo)))).t ?_;refine(uM (wm (ρ':=b) (uN O (JL T M (by omega) (by omega) g.nm g.nd)))).t ?_;refine(uM (wm (ρ':=b) (uN O (Ig T (by omega) g.B' r i g.st)))).t ?_;refine(uM (wm (ρ':=b) (uN O (JN T (by omega) g.wd)))).t ?_;refine(uM (ρ':=c) ((uZ (vR (NV T (by omega) O))).t O)).t ?_;refine(uM (wm (ρ':=c) (uN O (Kq dk (k? T) hdk g.d1 g.d2)))).t ?_;refine(uM (wm (ρ':=c) (uN (uL O (uL O (uL (vR (uN (g:=yu) (ds:=[TD T,MD M]) O (Et T M (by omega) h))) O))) (Kt g.w8 g.wo g.wn)))).t ?_;refine(uM (wm (ρ':=c) (uN (g:=yE) (ds:=[VD (vL t n)]) (r:=.E) O (JQ f e)))).t ?_;refine wm (ρ':=c) (uN (g:=xQ) (ds:=[TD T,WD W,VD (vL t n++v9)]) (uL O (uL O (uL ((vR (w9 (xs:=(vL t n).map ki) (ys:=v9.map ki) (ρ1:=c) O O ?_)).t (by rw[<-bz])) O))) (JS (by omega) g.wd g.w8 (λw j=>(g.wo w j).hw) f e));have:=JP t n;rw[ag,ag];show (vL t n).length+9<=1000;omega
def O4(T:List Th)(o:T.length<=900)(f:(T.map Th.n).Nodup):GE [TD T]=Z (.Q (nK T) (T.map et)):=by
 obtain⟨h,d⟩:=BW (g:=gN 2) (i:=1) (fk:=c1 (uU vh "name") ak) (fv:=cV 2) et Th.n et (λb a s=>[.z (TD T),.dk b a,s])
  (λt b a s=>⟨[.z (TD T),.dk b a,.z (et t)],O,O,O,vQ O (AQ t),λe c=>⟨_,O⟩⟩) T [] [] .un (by rw[cw];exact UR f) (by simp;omega) O
 refine uR (ρ:=[.z (TD T),.z (.Q (nK T) (T.map et)),h]) O ?_;unfold GB;refine(uM (ρ':=[.z (TD T),.dk [] [],.un]) O).t ?_;refine(uM ((wF O).t d)).t ?_;rw[cw,cw];rfl
def mP(T:List Th)(M:List Mk):List (Str×Int):=(T.filter λt=>t.k.mk).map (λt=>(t.n,1))++M.map λm=>(m.n,m.mo)
def O5(T:List Th)(M:List Mk):(mP T M).map cQ=vo T M:=by unfold mP vo;rw[bz,bc,bc];rfl
def XD(m:Mk):uU Ay "most" (o3 m)=Z (.int m.mo):=rfl
theorem GP:∀(l:List Th) (c:List fh) (d:List L4.D) (s:Sl),(c++(l.filter λt=>t.k.mk).map λt=>kS t.n).Nodup->c.length+l.length<=900->d.length=c.length->
  ∃j,fu (gN 3) (fm (cT (vg xC "has_mark" ay vC)) (zz 2 (c1 (uU vh "name") ay) aL) u4) (l.map et) [a,b,.dk c d,s,e]=Z (.nx [a,b,.dk (c++(l.filter λt=>t.k.mk).map λt=>kS t.n) (d++(l.filter λt=>t.k.mk).map λ_=>.int 1),j,e])
 |[],c,d,s,_,_,_=>⟨s,by simp;rfl⟩
 |t::l,c,d,s,f,u,r=>by
  rw[aM]at u;let m:aS:=[a,b,.dk c d,.z (et t),e];have o:cT (vg xC "has_mark" ay vC) m=Z (t.k.mk,m):=v5 (vB (xs:=[.str t.n,.d? (t.w.map D.str),.str t.k.s,oS t.s]) (ys:=[]) O O O O (Ql t));rw[aI];unfold fu;rw[show gN 3 (et t) [a,b,.dk c d,s,e]=Z m from O];cases h:t.k.mk with
  |true=>
   rw[h]at o;rw[kJ (p:=λt:Th=>t.k.mk) h,aI]at f;rw[kJ (p:=λt:Th=>t.k.mk) h];have y:kS t.n∉c:=λz=>by rw[cn]at f;exact f.2.2 _ z _ aX O
   obtain⟨j,q⟩:=GP (a:=a) (b:=b) (e:=e) l (c++[kS t.n]) (d++[.int 1]) (.z (et t)) (by rw[bX];exact f) (by rw[aC,cF];omega) (by simp[r]);refine⟨j,?_⟩;simp only[(vb o).t (NX (i:=2) (fk:=c1 (uU vh "name") ay) (fv:=cC (.int 1)) (ρ:=m) (x:=t.n) O O (vQ O (AQ t)) y (by omega) r)];refine Eq.t q ?_;rw[bX,bX];rfl
  |false=>rw[h]at o;rw[oe (p:=λt:Th=>t.k.mk) (by rw[h];exact bu)]at f ⊢;obtain⟨j,q⟩:=GP (a:=a) (b:=b) (e:=e) l c d (.z (et t)) f (by omega) r;refine⟨j,?_⟩;simp only[vI o,u4];exact q
def mD(T:List Th)(M:List Mk):L4.D:=.Q ((mP T M).map λq=>kS q.1) ((mP T M).map λq=>.int q.2)
def ff.ndK(g:ff T M dk W):(vo T M).Nodup:=by unfold vo;have h:=cn.1 g.nd;refine cn.2 ⟨uA (kT.map _) h.1,h.2.1,λx b y c=>h.2.2 x ?_ y c⟩;obtain⟨t,a,rfl⟩:=au.1 b;exact cG (aW.1 a).1
def Yt(g:ff T M dk W):((mP T M).map λq=>kS q.1).Nodup:=by have:=DZ g.ndK;rw[<-O5,bc]at this;exact this
def UV(g:ff T M dk W):z9 [TD T,MD M]=Z (mD T M):=by
 have h:=Yt g;have B:=g.len;have C:=g.m4;have l:(mP T M).map (λq=>kS q.1)=(T.filter λt=>t.k.mk).map (λt=>kS t.n)++M.map λm=>kS m.n:=by unfold mP;rw[bz,bc,bc];rfl
 have d:(mP T M).map (λq=>D.int q.2)=(T.filter λt=>t.k.mk).map (λ_=>D.int 1)++M.map λm=>D.int m.mo:=by unfold mP;rw[bz,bc,bc];rfl
 rw[l]at h;have A:=cu (λt:Th=>t.k.mk) T;obtain⟨j,o⟩:=GP (a:=.z (TD T)) (b:=.z (MD M)) (e:=.un) T [] [] .un (by rw[cw];exact(cn.1 h).1) (by simp;omega) O;rw[cw,cw]at o;obtain⟨w,r⟩:=BW (g:=gN 4) (i:=2) (fk:=c1 (uU vh "name") aw) (fv:=c1 (uU Ay "most") aw) o3 Mk.n (λm=>.int m.mo) (λf c s=>[.z (TD T),.z (MD M),.dk f c,j,s])
  (λm f c s=>⟨[.z (TD T),.z (MD M),.dk f c,j,.z (o3 m)],O,vQ O (XD m),O,vQ O (Mp m),λu p=>⟨_,O⟩⟩) M ((T.filter λt=>t.k.mk).map λt=>kS t.n) ((T.filter λt=>t.k.mk).map λ_=>.int 1) .un h (by rw[ag];omega) (by rw[ag,ag])
 refine uR (ρ:=[.z (TD T),.z (MD M),.z (mD T M),j,w]) O ?_;unfold z8;refine(uM (ρ':=[.z (TD T),.z (MD M),.dk [] [],.un,.un]) O).t ?_;refine(uM ((wF O).t o)).t ((uM ((wF O).t r)).t ?_);unfold mD;rw[l,d];rfl
def JU(T:List Th)(b:T.length<=1000)(ns:aE)(ey:List L4.D)(k:Kd):Aa [.obj 14 ("kept_things" ::ns) (TD T::ey),.str k.s]=Z (.bt ((T.filter λt=>decide (t.k=k)).map λt=>D.str t.n)):=by let a:aS:=[.z (.obj 14 ("kept_things" ::ns) (TD T::ey)),.z (.str k.s)];refine Gr (ρ:=a) O ?_;exact xn (zq et (λt=>D.str t.n) (λt=>decide (t.k=k)) T (ρ1:=a) O b λt _=>⟨[.z (et t),.z (.str k.s)],[.z (et t),.z (.str k.s)],O,v5 (uY (vQ O (AR t)) O (HP t.k k)),λ_=>⟨_,vQ O (AQ t),O⟩,λ_=>O⟩)
end
def vwD(V:List Vb):L4.D:=.Q (V.flatMap λv=>v.ws.map kS) (V.flatMap λv=>v.ws.map λ_=>ki v)
def p42:List (Nat×Nat):=(aZ 6).flatMap λt=>(aZ 7).map λn=>(t,n)
def ab3(b:t<6)(a:n<7):(t,n)∈p42:=dP.2 ⟨t,bN.2 b,au.2 ⟨n,bN.2 a,O⟩⟩
def ab4:(p42.map λq=>yI [VD (vL q.1 q.2++v9)])=p42.map λq=>Z (vwD (vL q.1 q.2++v9)):=by kernel_rfl
def adV(b:t<6)(a:n<7):yI [VD (vL t n++v9)]=Z (vwD (vL t n++v9)):=List.map_inj_left.1 ab4 (t,n) (ab3 b a)
theorem UW:∀V:List Vb,(V.flatMap λv=>v.ws.map kS).zip (V.flatMap λv=>v.ws.map λ_=>ki v)=V.flatMap λv=>v.ws.map λx=>(kS x,ki v)
 |[]=>rfl
 |v::V=>by rw[fz,fz,fz,lQ (by rw[ag,ag]),UW V,mm]
def Mz{V:List Vb}(b:(V.flatMap Vb.ws).Nodup)(a:v∈V):CM (vwD V) (.str v.n)=Z (ki v):=by
 show Z ((xu (V.flatMap λv=>v.ws.map kS) (V.flatMap λv=>v.ws.map λ_=>ki v) (kS v.n)).getD .E)=_;rw[Fp (d:=ki v)]
 .rfl
 .have:=DZ b;rw[List.map_flatMap]at this;exact this
 .rw[UW];exact dP.2 ⟨v,a,au.2 ⟨v.n,aX,O⟩⟩
def t?:aE:=["kept_things", "kept_marks", "kept_dark", "kept_ways", "kept_verbs", "shared_verbs", "your_name", "things_by_name", "mosts_by_name", "verbs_by_word", "kept_rules", "shared_rules", "copied_rules", "rules_by_verb"]
def gk(T:List Th)(M:List Mk)(dk:aE)(W:List Wy)(V:List Vb):L4.D:=.obj 14 (t?.take 10) [TD T,MD M,.bt (dk.map D.str),WD W,VD V,VD v9,.str "me", .Q (nK T) (T.map et),mD T M,vwD (V++v9)]
def p?:aE:=["one", "two", "alone", "way"]
def xL:aE:="here" ::nmL
def ab5:(p?.all λf=>xL.all λx=>isF (wg [.str f,.str x]))=γ:=by kernel_rfl
def Ln(a:f∈p?)(b:x∈xL):wg [.str f,.str x]=Z (.I δ):=OZ (aQ.1 (aQ.1 ab5 f a) x b)
def ab6:(p?.all λf=>nmL.all λx=>isF (zD [.str f,.str x]))=γ:=by kernel_rfl
def Yu(a:f∈p?)(b:x∈nmL):zD [.str f,.str x]=Z (.I δ):=OZ (aQ.1 (aQ.1 ab6 f a) x b)
def UX(a:f∈p?):zD [.str f,.str "here"]=Z (.I γ):=CJ (aQ.1 (show (p?.all λf=>isT (zD [.str f,.str "here"]))=γ by kernel_rfl) f a)
def By(f x:Str):Prop:=(x="it" /\ f∈(["one", "two"]:aE))\/(x="other" /\ f="two")
def MA(h:By f x):wg [.str f,.str x]=Z (.I γ):=by
 rcases h with ⟨rfl,h⟩|⟨rfl,rfl⟩
 .exact CJ (aQ.1 (show ((["one", "two"]:aE).all λf=>isT (wg [.str f,.str "it"]))=γ by kernel_rfl) f h)
 .kernel_rfl
def Tm(f:Str)(N:aE)(x:Str):Prop:=x∈N\/x="here" \/ By f x
section
variable{T:List Th}{M:List Mk}{dk:aE}{W:List Wy}{V:List Vb}{f:Str}
def UY(g:ff T M dk W)(h:t∈T):t.n∈nmL:=g.nm _ (bJ _ (cG h))
def adW(g:ff T M dk W)(h:t∈T):wI [gk T M dk W V,.str t.n]=Z (et t):=by
 have e:wI [gk T M dk W V,.str t.n]=Z ((xu (nK T) (T.map et) (kS t.n)).getD .E):=by kernel_rfl
 rw[e,F5 g.B' et h];rfl
def adX(g:ff T M dk W)(h:q∈mP T M):xh [gk T M dk W V,.str q.1]=Z (.int q.2):=by
 have e:xh [gk T M dk W V,.str q.1]=Z ((xu ((mP T M).map λq=>kS q.1) ((mP T M).map λq=>.int q.2) (kS q.1)).getD .E):=by kernel_rfl
 rw[e,Fp (d:=.int q.2) (Yt g)]
 .rfl
 .rw[mm];exact cG (f:=λq:Str×Int=>(kS q.1,D.int q.2)) h
def JV(h:c ρ=Z (γ,ρ1)):y? c e a ρ=e ρ1:=by unfold y?;rw[h]
def nmd(g:ff T M dk W)(h:t∈T):Ah [gk T M dk W V,.str t.n]=Z (et t):=by let a:aS:=[.z (gk T M dk W V),.z (.str t.n)];refine uR (ρ:=a) O (uT ?_);refine(JV (ρ1:=a) O).t ?_;exact vB (hh:=wI) (ys:=[.str t.n]) (ρ1:=a) (ρ2:=a) O O O O (adW g h)
def CK(g:ff T M dk W)(d:f∈p?)(h:Tm f (T.map Th.n) x):BU [gk T M dk W V,.str f,.str x]=Z (.I γ):=by
 let b:aS:=[.z (gk T M dk W V),.z (.str f),.z (.str x)];refine uR (ρ:=b) O (uT ?_);rcases h with h|rfl|h
 .obtain⟨t,e,rfl⟩:=au.1 h;refine(F6 (uN (ρ1:=b) (ds:=[.str f,.str t.n]) O (Ln d (ba _ (UY g e))))).t ((F6 (uN (ρ1:=b) (ds:=[.str f,.str t.n]) O (Yu d (UY g e)))).t ?_);exact uY (uN (ρ1:=b) (ds:=[gk T M dk W V,.str t.n]) O (nmd g e)) O O
 .exact(F6 (uN (ρ1:=b) (ds:=[.str f,.str "here"]) O (Ln d aX))).t (My (uN (ρ1:=b) (ds:=[.str f,.str "here"]) O (UX d)))
 .exact My (uN (ρ1:=b) (ds:=[.str f,.str x]) O (MA h))
def hd_T(h:x∈qs T):∃t∈T,t.n=x/\t.k.hd=γ:=by obtain⟨t,a,rfl⟩:=au.1 h;exact⟨t,(aW.1 a).1,O,(aW.1 a).2⟩
def F7(a:c ρ=Z (γ,ρ1)):xM c b ρ=Z (γ,ρ1):=by unfold xM;rw[a]
def HQ(g:ff T M dk W)(j:f∈p?)(h:Tm f (qs T) x):Cr [gk T M dk W V,.str f,.str x]=Z (.I γ):=by
 let b:aS:=[.z (gk T M dk W V),.z (.str f),.z (.str x)];refine uR (ρ:=b) O ?_;unfold EK;rcases h with h|rfl|h
 .obtain⟨t,l,rfl,p⟩:=hd_T h;refine(uM (ρ':=b) ((vI (ρ':=b) (yO (ρ1:=b) (v5 (uN (ds:=[.str f,.str t.n]) O (Ln j (ba _ (UY g l))))) (v5 (uN (ds:=[.str f,.str t.n]) O (Yu j (UY g l)))))).t O)).t (uT ?_);have e:=nmd (V:=V) g l;refine(vn (uY (uN (ρ1:=b) (ds:=[gk T M dk W V,.str t.n]) O e) O O)).t ?_;have o:=vB (g:=wc) (m:="can_hold") (hh:=zC) (a:=vC) (ys:=[]) (ρ1:=b) (ρ2:=b) (xs:=[.str t.n,.d? (t.w.map D.str),.str t.k.s,oS t.s]) (uN (g:=Ah) (a:=ax aa cq) (ρ:=b) (ρ1:=b) (ds:=[gk T M dk W V,.str t.n]) O e) O O O (Mo t);rw[p]at o;exact o
 .exact uW ((vb (ρ':=b) (yO (ρ1:=b) (v5 (uN (ds:=[.str f,.str "here"]) O (Ln j aX))) (v5 (uN (ds:=[.str f,.str "here"]) O (UX j))))).t O)
 .exact uW ((vb (ρ':=b) (F7 (v5 (uN (ds:=[.str f,.str x]) O (MA h))))).t O)
def Yv(g:ff T M dk W)(h:t∈T)(k:Kd):Ai [gk T M dk W V,.str t.n,.str k.s]=Z (.I (decide (t.k=k))):=by let a:aS:=[.z (gk T M dk W V),.z (.str t.n),.z (.str k.s)];refine uR (ρ:=a) O (uT ?_);have e:=nmd (V:=V) g h;exact(vn (uY (uN (ρ1:=a) (ds:=[gk T M dk W V,.str t.n]) O e) O O)).t (uY (vQ (uN (ρ1:=a) (ds:=[gk T M dk W V,.str t.n]) O e) (AR t)) O (HP t.k k))
def Mv(T:List Th)(f x:Str):Prop:=(∃t∈T,t.n=x/\t.k≠.room)\/By f x
def NY(g:ff T M dk W)(i:f∈p?)(h:Mv T f x):EM [gk T M dk W V,.str f,.str x]=Z (.I γ):=by
 let a:aS:=[.z (gk T M dk W V),.z (.str f),.z (.str x)];refine uR (ρ:=a) O ?_;unfold EL;rcases h with ⟨t,d,rfl,j⟩|h
 .refine(uM (ρ':=a) ((vI (ρ':=a) (v5 (uN (ds:=[.str f,.str t.n]) O (Ln i (ba _ (UY g d)))))).t O)).t (uT ?_);refine(vn (uY (uN (ρ1:=a) (ds:=[gk T M dk W V,.str t.n]) O (nmd g d)) O O)).t ((Mu (uN (ρ1:=a) (ds:=[gk T M dk W V,.str t.n,.str Kd.room.s]) O (Yv g d .room))).t ?_);rw[aT j];rfl
 .exact uW ((vb (ρ':=a) (v5 (uN (ds:=[.str f,.str x]) O (MA h)))).t O)
def Mt(T:List Th)(M:List Mk)(f:Str)(q:Str×Int):Prop:=q∈mP T M\/(By f q.1/\q.2<=3)
def UZ(g:ff T M dk W)(h:q∈mP T M):q.1∈nmL:=by
 refine g.nm _ ?_;have a:q.1∈vo T M:=by rw[<-O5];exact cG h
 rcases aV.1 a with a|a
 .obtain⟨t,b,e⟩:=au.1 a;exact bJ _ (by rw[<-e];exact cG (aW.1 b).1)
 .exact bA _ a
def Eu(g:ff T M dk W)(p:f∈p?)(h:Mt T M f q)(t:0<=v)(o:v<=q.2):yK [gk T M dk W V,.str f,.str q.1,.int v]=Z (.I γ):=by
 let a:aS:=[.z (gk T M dk W V),.z (.str f),.z (.str q.1),.z (.int v),.un];have l:cT (c2 HY ay aP) a=Z (δ,a):=by show Z (decide (v<0),a)=_;rw[aT (by omega)]
 have j:fm (xM (wt (cT (uO AD eh))) (cT (c2 HY ay aP))) (uV bO) u4 a=Z (.nx a):=(vI (ρ':=a) (yO (ρ1:=a) (yi (b:=γ) (v5 (uN (ds:=[.int v]) O (by kernel_rfl)))) l)).t O;rcases h with h|⟨h,u⟩
 .let e:aS:=[.z (gk T M dk W V),.z (.str f),.z (.str q.1),.z (.int v),.z (.int q.2)];refine uR (ρ:=e) O ?_;unfold yJ;refine(uM j).t ((uM (ρ':=a) ((vI (ρ':=a) (v5 (uN (ds:=[.str f,.str q.1]) O (Ln p (ba _ (UZ g h)))))).t O)).t ?_);have m:y? (cT (c1 (v3 (wx "str")) ak)) (vg wW "most_of" aa cq) aF a=Z (.int q.2,a):=by refine(JV (ρ1:=a) O).t ?_;exact vB (hh:=xh) (ys:=[.str q.1]) (ρ1:=a) (ρ2:=a) O O O O (adX g h)
  refine(uM (ρ':=e) ((uZ m).t O)).t (uT ((vn (ρ1:=e) O).t (Qm (x:=v) (y:=q.2) O O o)))
 .refine uR (ρ:=a) O ?_;unfold yJ;refine(uM j).t (uW ((vb (ρ':=a) (v5 (uN (ds:=[.str f,.str q.1]) O (MA h)))).t (uT (Qm (x:=v) (y:=3) O O (by omega)))))
def atO(a b:Str):L4.D:=.obj 3 ["term", "place"] [.str a,.str b]
def hsO(a:Str):L4.D:=.obj 4 ["term"] [.str a]
def seO(a:Str):L4.D:=.obj 5 ["term"] [.str a]
def mkO(a:Str)(v:Int):L4.D:=.obj 6 ["term", "value"] [.str a,.int v]
def kiO(a k:Str):L4.D:=.obj 7 ["term", "kind"] [.str a,.str k]
def woO(a:Str):L4.D:=.obj 8 ["word"] [.str a]
def noO(d:L4.D):L4.D:=.obj 9 ["inner"] [d]
def boO(d e:L4.D):L4.D:=.obj 10 ["one", "other"] [d,e]
def M?(a b:Str):L4.D:=.obj 11 ["term", "place"] [.str a,.str b]
def puO(a:Str)(v:Int):L4.D:=.obj 12 ["term", "value"] [.str a,.int v]
def liO:L4.D:=.obj 15 [] []
def Tk(w:L4.D)(f:Str)(n:Nat)(d:L4.D):Prop:=w? 16 14 d=γ/\∀j:Nat,n<j->j<=4->y3 j [w,.str f,d,.int j]=Z (.I γ)
def U0(j:Nat):fm (cT (c2 (fb δ) ay aP)) (uV bO) u4 [.z w,a,b,.z (.int ((j+1:Nat):Int))]=Z (.nx [.z w,a,b,.z (.int ((j+1:Nat):Int))]):=
 (vI (v5 (uY (x:=.int ((j+1:Nat):Int)) (y:=.int 0) O O ((yH δ _ 0).t (by rw[aT (by omega:¬((j+1:Nat):Int)=0)];rfl))))).t O
def yW(c:v3 UF d=Z (.I δ))(e:v3 OX d=Z (.I δ))(i:w? 16 14 d=γ)(h:Ab [w,.str f,d]=Z (.I γ)):Tk w f n d:=⟨i,λj m _=>by
 obtain⟨j,rfl⟩:∃k,j=k+1:=⟨j - 1,by omega⟩;let b:aS:=[.z w,.z (.str f),.z d,.z (.int ((j+1:Nat):Int))];refine uR (ρ:=b) O ?_;unfold yZ;exact(uM (U0 j)).t ((uM (ρ':=b) ((vI (ρ':=b) (v5 (vQ O c))).t O)).t ((uM (ρ':=b) ((vI (ρ':=b) (v5 (vQ O e))).t O)).t (uT (uN (ds:=[w,.str f,d]) O h))))⟩
def sub1(h:cV 3 ρ=Z (.int ((j+1:Nat):Int),ρ)):c2 IV ay aL ρ=Z (.int j,ρ):=(uY h O O).t (by
 show Z (D.int (((j+1:Nat):Int) - 1),ρ)=_;rw[show ((j+1:Nat):Int) - 1=j by omega])
def U1(h:Tk w f n d):Tk w f (n+1) (noO d):=⟨by
 have e:w? 16 14 (noO d)=(w? 16 14 d&&γ):=by kernel_rfl
 rw[e,h.1];rfl,λj l i=>by
 obtain⟨j,rfl⟩:∃k,j=k+1:=⟨j - 1,by omega⟩;let a:aS:=[.z w,.z (.str f),.z (noO d),.z (.int ((j+1:Nat):Int))];refine uR (ρ:=a) O ?_;unfold yZ;refine(uM (U0 j)).t (uW ((vb (ρ':=a) O).t (uT ?_)));exact uN (ds:=[w,.str f,d,.int j]) (uL O (uL O (uL O (uL (sub1 O) O)))) (h.2 j (by omega) (by omega))⟩
def RZ(h:Tk w f n d)(c:Tk w f n e):Tk w f (n+1) (boO d e):=⟨by
 have q:w? 16 14 (boO d e)=(w? 16 14 d&&(w? 16 14 e&&γ)):=by kernel_rfl
 rw[q,h.1,c.1];rfl,λj o m=>by
 obtain⟨j,rfl⟩:∃k,j=k+1:=⟨j - 1,by omega⟩;let a:aS:=[.z w,.z (.str f),.z (boO d e),.z (.int ((j+1:Nat):Int))];refine uR (ρ:=a) O ?_;unfold yZ;refine(uM (U0 j)).t ((uM (ρ':=a) ((vI (ρ':=a) O).t O)).t (uW ((vb (ρ':=a) O).t (uT ((vn (ρ1:=a) ?_).t ?_)))))
 .exact uN (ds:=[w,.str f,d,.int j]) (uL O (uL O (uL O (uL (sub1 O) O)))) (h.2 j (by omega) (by omega))
 .exact uN (ds:=[w,.str f,e,.int j]) (uL O (uL O (uL O (uL (sub1 O) O)))) (c.2 j (by omega) (by omega))⟩
end
section
variable{T:List Th}{M:List Mk}{dk:aE}{W:List Wy}{V:List Vb}{f:Str}{n:Nat}
def adY(g:ff T M dk W)(d:f∈p?)(h:Tm f (T.map Th.n) a)(i:Tm f (qs T) b):Tk (gk T M dk W V) f n (atO a b):=yW O O O (by
 let c:aS:=[.z (gk T M dk W V),.z (.str f),.z (atO a b)];refine uR (ρ:=c) O ?_;unfold wy;exact uW ((vb (ρ':=c) O).t (uT ((vn (uN (ρ1:=c) (ds:=[gk T M dk W V,.str f,.str a]) O (CK g d h))).t (uN (ds:=[gk T M dk W V,.str f,.str b]) O (HQ g d i))))))
def vp(q:c ρ=Z (δ,ρ)):uQ (fm c e u4) h ρ=h ρ:=uM ((vI q).t O)
def ab8(g:ff T M dk W)(d:f∈p?)(c:Tm f (T.map Th.n) a):Tk (gk T M dk W V) f n (hsO a):=yW O O O (by
 let b:aS:=[.z (gk T M dk W V),.z (.str f),.z (hsO a)];refine uR (ρ:=b) O ?_;unfold wy;exact(vp (ρ:=b) O).t (uW ((vb (ρ':=b) O).t (uT (uN (ds:=[gk T M dk W V,.str f,.str a]) O (CK g d c))))))
def XE(g:ff T M dk W)(d:f∈p?)(c:Tm f (T.map Th.n) a):Tk (gk T M dk W V) f n (seO a):=yW O O O (by
 let b:aS:=[.z (gk T M dk W V),.z (.str f),.z (seO a)];refine uR (ρ:=b) O ?_;unfold wy;exact(vp (ρ:=b) O).t (uW ((vb (ρ':=b) O).t (uT (uN (ds:=[gk T M dk W V,.str f,.str a]) O (CK g d c))))))
def XF(g:ff T M dk W)(d:f∈p?)(h:Mt T M f q)(b:0<=v)(c:v<=q.2):Tk (gk T M dk W V) f n (mkO q.1 v):=yW O O O (by
 let a:aS:=[.z (gk T M dk W V),.z (.str f),.z (mkO q.1 v)];refine uR (ρ:=a) O ?_;unfold wy;exact(vp (ρ:=a) O).t ((vp (ρ:=a) O).t (uW ((vb (ρ':=a) O).t (uT (uN (ds:=[gk T M dk W V,.str f,.str q.1,.int v]) O (Eu g d h b c)))))))
def XG(g:ff T M dk W)(h:f∈p?)(e:Tm f (T.map Th.n) a)(i:k∈(["plain", "fixed", "box", "lamp", "room", "you"]:aE)):Tk (gk T M dk W V) f n (kiO a k):=yW O O O (by
 let b:aS:=[.z (gk T M dk W V),.z (.str f),.z (kiO a k)];refine uR (ρ:=b) O ?_;unfold wy;have d:vT [.str k,Ce]=Z (.I γ):=CJ (aQ.1 (show ((["plain", "fixed", "box", "lamp", "room", "you"]:aE).all λx=>isT (vT [.str x,Ce]))=γ by kernel_rfl) k i);exact(vp (ρ:=b) O).t ((vp (ρ:=b) O).t ((vp (ρ:=b) O).t (uW ((vb (ρ':=b) O).t (uT ((vn (uN (ρ1:=b) (ds:=[gk T M dk W V,.str f,.str a]) O (CK g h e))).t (uN (ds:=[.str k,Ce]) O d))))))))
def XH(c:x∈(["north", "up", "outside", "down"]:aE)):Tk w "way" n (woO x):=yW O O O (by
 let a:aS:=[.z w,.z (.str "way"),.z (woO x)];refine uR (ρ:=a) O ?_;unfold wy;have b:yn [.str x]=Z (.I γ):=CJ (aQ.1 (show ((["north", "up", "outside", "down"]:aE).all λx=>isT (yn [.str x]))=γ by kernel_rfl) x c);exact(vp (ρ:=a) O).t ((vp (ρ:=a) O).t ((vp (ρ:=a) O).t ((vp (ρ:=a) O).t (uW ((vb (ρ':=a) O).t (uT ((vn (ρ1:=a) O).t (uN (ds:=[.str x]) O b)))))))))
def U2:Tk w f n liO:=yW O O O (by kernel_rfl)
def Dd(w:L4.D)(f:Str)(d:L4.D):Prop:=w? 16 14 d=γ/\GL [w,.str f,d]=Z (.I γ)
def ab9(g:ff T M dk W)(d:f∈p?)(h:Mt T M f q)(b:0<=v)(c:v<=q.2):Dd (gk T M dk W V) f (puO q.1 v):=⟨O,by
 let a:aS:=[.z (gk T M dk W V),.z (.str f),.z (puO q.1 v)];refine uR (ρ:=a) O ?_;unfold D6;exact uW ((vb (ρ':=a) O).t (uT (uN (ds:=[gk T M dk W V,.str f,.str q.1,.int v]) O (Eu g d h b c))))⟩
def Qr(g:ff T M dk W)(l:f∈p?)(p:Mv T f a)(q:Tm f (qs T) b)(r:a="me" -> ∃t∈T,t.n=b/\t.k=.room):Dd (gk T M dk W V) f (M? a b):=⟨O,by
 let c:aS:=[.z (gk T M dk W V),.z (.str f),.z (M? a b)];have e:GK [gk T M dk W V,.str f,M? a b]=Z (.I γ):=by
  refine uR (ρ:=c) O ?_;unfold GH;refine(vp (ρ:=c) (yO (ρ1:=c) (yi (b:=γ) (v5 (uN (ds:=[gk T M dk W V,.str f,.str a]) O (NY g l p)))) (yi (b:=γ) (v5 (uN (ds:=[gk T M dk W V,.str f,.str b]) O (HQ g l q)))))).t (uT ?_);have d:c2 (fb γ) (c1 (uU BN "term") ak) (vg Ap "you" aa vC) c=Z (.I (!decide (a="me")),c):=uY (x:=.str a) (y:=.str "me") O O (xN γ a "me");by_cases h:a="me"
  .obtain⟨t,u,m,o⟩:=r h;rw[aU h]at d;refine(F6 d).t (uN (ds:=[gk T M dk W V,.str b,.str Kd.room.s]) O ?_);rw[<-m,Yv g u .room,aU o]
  .rw[aT h]at d;exact My d
 refine uR (ρ:=c) O ?_;unfold D6;exact(vp (ρ:=c) O).t (uT ((vn (ρ1:=c) O).t (uN (ds:=[gk T M dk W V,.str f,M? a b]) O e)))⟩
end
inductive Ts(T:List Th) (M:List Mk) (f:Str):Nat->L4.D->Prop
 |ats {n:Nat} {a b:Str} (ha:Tm f (T.map Th.n) a) (hb:Tm f (qs T) b):Ts T M f n (atO a b)
 |has {n:Nat} {a:Str} (ha:Tm f (T.map Th.n) a):Ts T M f n (hsO a)
 |seen {n:Nat} {a:Str} (ha:Tm f (T.map Th.n) a):Ts T M f n (seO a)
 |mark {n:Nat} {q:Str×Int} {v:Int} (h:Mt T M f q):Ts T M f n (mkO q.1 v)
 |kind {n:Nat} {a k:Str} (ha:Tm f (T.map Th.n) a):Ts T M f n (kiO a k)
 |word {n:Nat} {x:Str} (hf:f="way"):Ts T M f n (woO x)
 |lit {n:Nat}:Ts T M f n liO
 |no {n:Nat} {d:L4.D} (h:Ts T M f n d):Ts T M f (n+1) (noO d)
 |bo {n:Nat} {d e:L4.D} (h:Ts T M f n d) (h':Ts T M f n e):Ts T M f (n+1) (boO d e)
def Tq(T:List Th)(M:List Mk)(w:L4.D)(f:Str)(n:Nat)(d:L4.D):Prop:=Tk w f n d/\Ts T M f n d
inductive Ds(T:List Th) (M:List Mk) (f:Str):L4.D->Prop
 |put {q:Str×Int} {v:Int} (h:Mt T M f q):Ds T M f (puO q.1 v)
 |W? {a b:Str} (ha:Mv T f a) (hb:Tm f (qs T) b) (hm:a="me" -> ∃t∈T,t.n=b/\t.k=.room):Ds T M f (M? a b)
def Dq(T:List Th)(M:List Mk)(w:L4.D)(f:Str)(d:L4.D):Prop:=Dd w f d/\Ds T M f d
def zU(T:List Th)(e:T.length<=900)(a:aE)(p:Kd->Bool)(c:∀k:Kd,decide (k.s∈a)=p k):vz [TD T,.bt (a.map D.str)]=Z (((T.filter λt=>p t.k).map Th.n).map D.str):=by let K:L4.D:=.bt (a.map D.str);let b:aS:=[.z (TD T),.z K];refine(zZ (ρ:=b) O (xn (zq et (λt=>D.str t.n) (λt=>p t.k) T (ρ1:=b) O (by omega) λt _=>⟨[.z (et t),.z K],[.z (et t),.z K],O,v5 (uY (x:=.str t.k.s) (y:=K) O O ((xU δ _ _).t (by rw[<-c t.k];rfl))),λ_=>⟨_,vQ O (AQ t),O⟩,λ_=>O⟩))).t ?_;rw[bc];rfl
def JW{P:Kd->Prop}(a:P .room)(b:P .you)(c:P .plain)(d:P .fixed)(e:P .box)(f:P .lamp):∀k,P k:=λk=>by cases k<;>assumption
def O6:∀k:Kd,decide (k.s∈(["room"]:aE))=decide (k=.room):=JW O O O O O O
def U3:∀k:Kd,decide (k.s∈(["room", "box", "you"]:aE))=k.hd:=JW O O O O O O
def U4:∀k:Kd,decide (k.s∈(["box", "lamp"]:aE))=k.mk:=JW O O O O O O
def n_pl:∀k:Kd,decide (k.s∈(["plain", "fixed", "box", "lamp"]:aE))=k.pl:=JW O O O O O O
def eq_nil(h:zx ds=Z l)(hd:wM l<=19):fb δ (.bt ds) (.bt [])=Z (.I (decide (ds=[]))):=by
 cases ds with
 |nil=>rfl
 |cons x b=>
  rw[aT (List.cons_ne_nil x b)];obtain⟨y,a,rfl⟩:∃y a,l=y::a:=by
   unfold zx at h;split at h
   .split at h
    .cases h;exact⟨_,_,O⟩
    .cases h
   .cases h
  have c:Kg δ (.bt (x::b)) (.bt [])=J:=rfl;have d:rl (.bt (x::b))=Z (.bt (y::a)):=by unfold rl;rw[h]
  have e:ll (.bt (y::a))<=20:=by rw[ll];omega
  unfold fb;rw[c];show OD δ _ _=_;unfold OD;rw[d,show rl (.bt [])=Z (.bt []) from O];show (if Pz (.bt (y::a)) (.bt [])&&decide (ll (.bt (y::a))<=20)&&decide (ll (.bt [])<=20)then Z (D.I (nj (.bt (y::a)) (.bt [])))else J)=_;rw[aU e];rfl
theorem GQ:∀l:aE,zx (l.map D.str)=Z (l.map L3.Dq.str)/\wM (l.map L3.Dq.str)=0
 |[]=>⟨O,O⟩
 |x::l=>by obtain⟨a,b⟩:=GQ l;rw[aI,aI];refine⟨by unfold zx;rw[a];rfl,by unfold wM;rw[b];unfold ll;rfl⟩
def pD(q:Str×Int):L4.D:=.d? [.str q.1,.int q.2]
theorem NZ:∀l:List (Str×Int),∃m,zx (l.map pD)=Z m/\wM m<=1
 |[]=>⟨[],O,by decide⟩
 |x::l=>by obtain⟨m,a,b⟩:=NZ l;refine⟨.d? [.str x.1,.int x.2]::m,by rw[aI];unfold zx;rw[a];rfl,?_⟩;unfold wM;exact Nat.max_le.2 ⟨aN 1,b⟩
def U5(h:vV f)(a b:Sl)(L:List L4.D)(j:L≠[])(l:L.length<=1000):∃d∈L,∃c,(uV (c2 f? ay (vK uP 0 gz))) [.pm f,a,b,.z (.bt L)]=Z (.rt d [.pm c,a,b,.z (.bt L)])/\vV c:=by obtain⟨d,hd,c,e,q⟩:=pk (i:=0) (e:=cV 3) (a:=c1 wY ay) (L:=L) (λf=>[.pm f,a,b,.z (.bt L)]) (λ_=>O) (λ_ _=>O) O O h j l;exact⟨d,hd,c,uT e,q⟩
def Qs(h:vV es)(j:f∈p?)(N:aE)(C:N.length<=100):∃x a,wX es [.str f,.bt (N.map D.str)]=Z (.str x,a)/\vV a/\Tm f N x:=by
 let A:List L4.D:=N.map D.str;have lA:A.length<=100:=by show (N.map D.str).length<=100;rw[ag];exact C
 let b:List L4.D:=A++[.str "here"];let c:List L4.D:=b++[.str "it", .str "it"];let L2:List L4.D:=c++[.str "other", .str "other"];have I:b.length<=101:=by show (A++_).length<=101;rw[aC];show A.length+1<=101;omega
 have M:c.length<=103:=by show (b++_).length<=103;rw[aC];show b.length+2<=103;omega
 have P:L2.length<=105:=by show (c++_).length<=105;rw[aC];show c.length+2<=105;omega
 have p:∀{f},∀d∈b,∃x,d=.str x/\Tm f N x:=λd hd=>by
  rcases aV.1 hd with hd|hd
  .obtain⟨x,o,rfl⟩:=au.1 hd;exact⟨x,O,.inl o⟩
  .exact⟨"here", bp.1 hd,.inr (.inl O)⟩
 have r:∀{f},f∈(["one", "two"]:aE)->∀d∈c,∃x,d=.str x/\Tm f N x:=λj d hd=>by
  rcases aV.1 hd with hd|hd
  .exact p d hd
  .refine⟨"it", ?_,.inr (.inr (.inl ⟨O,j⟩))⟩;simpa using hd
 have G:∀d∈L2,∃x,d=.str x/\Tm "two" N x:=λd hd=>by
  rcases aV.1 hd with hd|hd
  .exact r (by simp) d hd
  .refine⟨"other", ?_,.inr (.inr (.inr ⟨O,O⟩))⟩;simpa using hd
 have m:∀F:Sl,vd 3 (cL (xx ak (cL (vx j9)))) [.pm es,F,.z (.bt A),.un]=Z (.nx [.pm es,F,.z (.bt A),.z (.bt b)]):=λF=>(uZ (vR (w9 (xs:=A) (ys:=[.str "here"]) (ρ1:=[.pm es,F,.z (.bt A),.un]) O O (by show A.length+1<=1000;omega)))).t O;have t:∀F:Sl,vd 3 (cL (xx ay (cL (vx (ax cc jk))))) [.pm es,F,.z (.bt A),.z (.bt b)]=Z (.nx [.pm es,F,.z (.bt A),.z (.bt c)]):=λF=>(uZ (vR (w9 (xs:=b) (ys:=[.str "it", .str "it"]) (ρ1:=[.pm es,F,.z (.bt A),.z (.bt b)]) O O (by show b.length+2<=1000;omega)))).t O;have fin:∀(F:Sl) (L:List L4.D),(∀d∈L,∃x,d=.str x/\Tm f N x)->L≠[]->L.length<=1000->(yg [.pm es,F,.z (.bt A),.un]=(uV (c2 f? ay (vK uP 0 gz))) [.pm es,F,.z (.bt A),.z (.bt L)])->(.z (.str f)=F)->∃x a,wX es [.str f,.bt (N.map D.str)]=Z (.str x,a)/\vV a/\Tm f N x:=λF L E B hL e eF=>by obtain⟨d,hd,a,z,q⟩:=U5 h F (.z (.bt A)) L B hL;obtain⟨x,rfl,o⟩:=E d hd;subst eF;exact⟨x,a,Bj (ρ:=[.pm a,.z (.str f),.z (.bt A),.z (.bt L)]) O (e.t z) O,q,o⟩
 have l:∀(X:List L4.D) (y:L4.D) (Y:List L4.D),X++y::Y≠[]:=λX y Y=>by simp
 simp only[p?,aO,cA,or_false]at j;rcases j with rfl|rfl|rfl|rfl
 .refine fin _ c (r (by simp)) (l _ _ _) (by omega) ?_ O;unfold yg;exact(uM (m _)).t ((uM ((vb O).t (t _))).t (vp O))
 .refine fin _ L2 G (l _ _ _) (by omega) ?_ O;unfold yg;refine(uM (m _)).t ((uM ((vb O).t (t _))).t (uM ((vb (ρ':=[.pm es,.z (.str "two"),.z (.bt A),.z (.bt c)]) O).t ?_)));exact(uZ (vR (w9 (xs:=c) (ys:=[.str "other", .str "other"]) (ρ1:=[.pm es,.z (.str "two"),.z (.bt A),.z (.bt c)]) O O (by show c.length+2<=1000;omega)))).t O
 .refine fin _ b p (l _ _ _) (by omega) ?_ O;unfold yg;exact(uM (m _)).t ((vp O).t (vp O))
 .refine fin _ b p (l _ _ _) (by omega) ?_ O;unfold yg;exact(uM (m _)).t ((vp O).t (vp O))
def ixs(h:vV es)(o:L≠[])(y:L.length<=1000)(c:xf ρ i=Z es)(w:xf ρ j=Z L)(u:cV j (ρ.map Sl.T?)=Z (.bt L,ρ.map Sl.T?))(hne:∀a,xf (putAt ρ i a) j=Z L):
  ∃d∈L,∃a,vV a/\Ng j (vK uP i (a1 (AW (c1 wY (cV j))))) ρ=Z (d,putAt ρ i a):=by
 have z:0<L.length:=oV.2 o;obtain⟨r,a,t,q,x,p⟩:=NU h (b:=L.length) (by omega) (by omega);obtain⟨m,rfl⟩:=cE q;have e:m<L.length:=by omega
 refine⟨L[m],fA e,a,p,?_⟩;have f:AW (c1 wY (cV j)) ρ=Z (.int L.length,ρ):=Jb (vQ u O) O;have l:vK uP i (a1 (AW (c1 wY (cV j)))) ρ=Z (.int m,putAt ρ i a):=yP c (uL f O) c t;unfold Ng;rw[w];simp only[l,hne a];rw[show A? L (m:Int)=Z L[m] from DV (bh e)]
def mE:FS:=(uQ (fm (Ad (cT (c2 (fb δ) aw (cL (vx vC))))) (uV aF) u4)
 (uV (Ng 4 (vK uP 0 (a1 (AW (c1 wY aw)))))))
def adZ(h:vV es)(a b c:Sl)(L:List (Str×Int))(u:L.length<=1000):∃r f s,mE [.pm es,a,b,c,.O (L.map pD)]=Z (.rt r [.pm f,a,b,c,s])/\vV f/\(r=.E\/∃q∈L,r=pD q):=by
 let o:aS:=[.pm es,a,b,c,.O (L.map pD)];obtain⟨m,z,A⟩:=NZ L;have l:Ad (cT (c2 (fb δ) aw (cL (vx vC)))) o=Z (decide (L.map pD=[]),o):=PV (v5 (uY (x:=.bt (L.map pD)) (y:=.bt []) O O (eq_nil z (by omega))));unfold mE;by_cases p:L.map pD=[]
 .rw[aU p]at l;exact⟨.E,es,_,uW ((vb l).t O),h,.inl O⟩
 .rw[aT p]at l;obtain⟨d,hd,f,q,e⟩:=ixs (ρ:=o) (i:=0) (j:=4) h p (by rw[ag];exact u) O O O (λ_=>O);obtain⟨t,w,rfl⟩:=au.1 hd;exact⟨pD t,f,_,(vp l).t (uT e),q,.inr ⟨t,w,O⟩⟩
section
variable{T:List Th}{M:List Mk}{dk:aE}{W:List Wy}{V:List Vb}{f:Str}{es:List L4.D}
def F8(g:ff T M dk W)(p:f∈p?)(h:vV es):∃r b,wK es [.str f,TD T,MD M]=Z (r,b)/\vV b/\(r=.E\/∃q:Str×Int,r=pD q/\Mt T M f q/\0<=q.2/\q.2<=3):=by
 have P:=g.len;have Q:=g.m4;let K:=T.filter λt=>t.k.mk;have lK:K.length<=13:=bG (cu _ _) P;let c:List (Str×Int):=M.map (λm=>(m.n,m.mo))++K.map λt=>(t.n,1);have l0:c.length<=17:=by show (dh (_++_))<=17;rw[aC,ag,ag];omega
 let A:Sl:=.z (TD T);let B:Sl:=.z (MD M);have j:∀{f},∀q∈c,Mt T M f q/\0<=q.2/\q.2<=3:=λq a=>by
  rcases aV.1 a with a|a
  .obtain⟨m,w,rfl⟩:=au.1 a;obtain⟨Y,N,_⟩:=g.mo m w;exact⟨.inl (bA _ (au.2 ⟨m,w,O⟩)),by show 0<=m.mo;omega,N⟩
  .obtain⟨t,S,rfl⟩:=au.1 a;exact⟨.inl (bJ _ (au.2 ⟨t,S,O⟩)),(by decide:(0:Int)<=1),(by decide:(1:Int)<=3)⟩
 have y:∀F:Sl,yz 4 (xx (cL (u5 1 [] (iL ay) (gN 0) vP (vE ng))) (cL (u5 1 [] (iL (cL (vM vz nO))) (gN 0) vP (vE nI)))) [.pm es,F,A,B,.un]=Z (.nx [.pm es,F,A,B,.O (c.map pD)]):=λF=>by
  let l:aS:=[.pm es,F,A,B,.un];have z:cL (u5 1 [] (iL ay) (gN 0) vP (vE ng)) l=Z (.bt (M.map λm=>pD (m.n,m.mo)),l):=vR (xG o3 (λm=>pD (m.n,m.mo)) M O (by omega) λm _=>⟨[.z (o3 m)],[.z (o3 m)],O,O,O⟩);have C:cL (u5 1 [] (iL (cL (vM vz nO))) (gN 0) vP (vE nI)) l=Z (.bt (K.map λt=>pD (t.n,1)),l):=by refine(vR (xG D.str (λx=>pD (x,1)) (K.map Th.n) (ρ1:=l) ?_ (by rw[ag];omega) λx _=>⟨[.z (.str x)],[.z (.str x)],O,O,O⟩)).t (by rw[bc];rfl);unfold iL;rw[vR (uN (g:=vz) (ds:=[TD T,.bt ((["box", "lamp"]:aE).map D.str)]) (ρ1:=l) O (zU T (by omega) ["box", "lamp"] Kd.mk U4))]
  refine(Im (w9 z C (by rw[ag,ag];omega))).t ?_;show Z (tz.nx [.pm es,F,A,B,.O (M.map (λm=>pD (m.n,m.mo))++K.map λt=>pD (t.n,1))])=_;rw[show c.map pD=M.map (λm=>pD (m.n,m.mo))++K.map λt=>pD (t.n,1) by show dH pD (_++_)=_;rw[bz,bc,bc];rfl]
 let i:List (Str×Int):=c++([("it", 3),("it", 1)]:List (Str×Int));have l1:i.length<=19:=by show (c++_).length<=19;rw[aC];show c.length+2<=19;omega
 have G:∀F:Sl,yz 4 (xx (Hs 4) (cL (vx se))) [.pm es,F,A,B,.O (c.map pD)]=Z (.nx [.pm es,F,A,B,.O (i.map pD)]):=λF=>by refine(Im (w9 (xs:=c.map pD) (ys:=[pD ("it", 3),pD ("it", 1)]) (ρ1:=[.pm es,F,A,B,.z (.bt (c.map pD))]) O O (by rw[ag];show c.length+2<=1000;omega))).t ?_;show Z (tz.nx [.pm es,F,A,B,.O (c.map pD++[pD ("it", 3),pD ("it", 1)])])=_;rw[show i.map pD=c.map pD++[pD ("it", 3),pD ("it", 1)] by show dH pD (_++_)=_;rw[bz];rfl]
 have u:∀{f},f∈(["one", "two"]:aE)->∀q∈i,Mt T M f q/\0<=q.2/\q.2<=3:=λp q a=>by
  rcases aV.1 a with a|a
  .exact j q a
  .simp only[aO,cA,or_false]at a;rcases a with rfl|rfl
   .exact⟨.inr ⟨.inl ⟨O,p⟩,by decide⟩,by decide,by decide⟩
   .exact⟨.inr ⟨.inl ⟨O,p⟩,by decide⟩,by decide,by decide⟩
 let L2:List (Str×Int):=i++([("other", 3)]:List (Str×Int));have l2:L2.length<=20:=by show (i++_).length<=20;rw[aC];show i.length+1<=20;omega
 have fin:∀L:List (Str×Int),(∀q∈L,Mt T M f q/\0<=q.2/\q.2<=3)->L.length<=1000->(wJ [.pm es,.z (.str f),A,B,.un]=mE [.pm es,.z (.str f),A,B,.O (L.map pD)])->∃r b,wK es [.str f,TD T,MD M]=Z (r,b)/\vV b/\(r=.E\/∃q:Str×Int,r=pD q/\Mt T M f q/\0<=q.2/\q.2<=3):=λL w hL e=>by
  obtain⟨r,b,s,H,q,R⟩:=adZ h (.z (.str f)) A B L hL;refine⟨r,b,Bj (ρ:=[.pm b,.z (.str f),A,B,s]) O (e.t H) O,q,?_⟩;rcases R with rfl|⟨E,a,rfl⟩
  .exact .inl O
  .exact .inr ⟨E,O,w E a⟩
 simp only[p?,aO,cA,or_false]at p;rcases p with rfl|rfl|rfl|rfl
 .refine fin i (u (by simp)) (by omega) ?_;unfold wJ;exact(uM (y _)).t ((uM ((vb O).t (G _))).t (vp O))
 .refine fin L2 (λq a=>?_) (by omega) ?_
  .rcases aV.1 a with a|a
   .exact u (by simp) q a
   .rw[bp.1 a];exact⟨.inr ⟨.inr ⟨O,O⟩,by decide⟩,by decide,by decide⟩
  .unfold wJ;refine(uM (y _)).t ((uM ((vb O).t (G _))).t (uM ((vb (ρ':=[.pm es,.z (.str "two"),A,B,.O (i.map pD)]) O).t ((wm (Dj (es0:=i.map pD) (es:=i.map pD) (ρ1:=[.pm es,.z (.str "two"),A,B,.O (i.map pD)]) (d:=pD ("other", 3)) O O O (by rw[ag];omega))).t ?_))));show Z (tz.nx [.pm es,.z (.str "two"),A,B,.O (i.map pD++[pD ("other", 3)])])=_;rw[show L2.map pD=i.map pD++[pD ("other", 3)] by show dH pD (_++_)=_;rw[bz];rfl]
 .refine fin c j (by omega) ?_;unfold wJ;exact(uM (y _)).t ((vp O).t (vp O))
 .refine fin c j (by omega) ?_;unfold wJ;exact(uM (y _)).t ((vp O).t (vp O))
def U6(h:vV es)(a b c:Sl)(s:aS)(q:Str×Int)(m:0<=q.2)(o:q.2<=3):∃v j,vK uP 0 sj (.pm es::a::b::c::.z (pD q)::s)=Z (.int v,.pm j::a::b::c::.z (pD q)::s)/\vV j/\0<=v/\v<=q.2:=by obtain⟨d,j,e,l,p,q3⟩:=K? (i:=0) (b:=q.2+1) (a:=c2 wZ (c2 f? aw aL) aL) (λes=>.pm es::a::b::c::.z (pD q)::s) (λ_=>O) (λ_ _=>O) O h (by omega) (by omega);exact⟨d,j,e,q3,l,by omega⟩
def R0(g:ff T M dk W)(i:f∈p?)(h:vV es):∃d a,BC es [.str f,TD T,MD M]=Z (d,a)/\vV a/\∀n,Tq T M (gk T M dk W V) f n d:=by
 obtain⟨r,b,y,e,t⟩:=F8 g i h;let F:Sl:=.z (.str f);let A:Sl:=.z (TD T);let B:Sl:=.z (MD M);have l:vd 4 (vK wK 0 cW) [.pm es,F,A,B,.un]=Z (.nx [.pm b,F,A,B,.z r]):=(uZ (yP (es0:=es) (es:=es) (ds:=[.str f,TD T,MD M]) (ρ1:=[.pm es,F,A,B,.un]) O O O y)).t O;rcases t with rfl|⟨q,rfl,j,u,q3⟩
 .refine⟨liO,b,Bj (ρ:=[.pm b,F,A,B,.z .E]) O ?_ O,e,λn=>⟨U2,.lit⟩⟩;unfold zM;exact(uM l).t (uW ((vb O).t O))
 .obtain⟨v,c,z,p,w,x⟩:=U6 e F A B [] q u q3;refine⟨mkO q.1 v,c,Bj (ρ:=[.pm c,F,A,B,.z (pD q)]) O ?_ O,p,λn=>⟨XF g i j w x,.mark j⟩⟩;unfold zM;exact(uM l).t ((vp O).t (uT (xA (ds:=[.str q.1,.int v]) (uL O (uL z O)) O)))
end
section
variable{T:List Th}{M:List Mk}{dk:aE}{W:List Wy}{V:List Vb}{f:Str}{es:List L4.D}
def aca(n:Nat):∃b:Int,(b=8\/(b=10/\∃m,n=m+1))/\∀ρ:aS,cV 4 ρ=Z (.int (n:Nat),ρ)->c2 wZ gy (c2 yA bZ (c1 IZ (c2 LZ aw aP))) ρ=Z (.int b,ρ):=by
 have a:∀ρ:aS,cV 4 ρ=Z (.int (n:Nat),ρ)->c2 LZ aw aP ρ=Z (.I (decide ((0:Int)<(n:Nat))),ρ):=λρ h=>uY h O O;cases n with
 |zero=>exact⟨8,.inl O,λρ h=>uY (x:=.int 8) (y:=.int 0) O (uY (x:=.int 2) (y:=.int 0) O (vQ (x:=.I δ) (a ρ h) O) O) O⟩
 |succ m=>exact⟨10,.inr ⟨O,m,O⟩,λρ h=>uY (x:=.int 8) (y:=.int 2) O (uY (x:=.int 2) (y:=.int 1) O (vQ (x:=.I γ) ((a ρ h).t (by rw[aU (by omega)])) O) O) O⟩
def O7(L:aE)(st:List L4.D->aS)(p:∀es,xf (st es) i=Z es)(r:∀es b,putAt (st es) i b=st b)(o:e (st es)=Z (.bt (L.map D.str),st es))(t:vV es)(m:c=L.length)(h:0<L.length)(l:L.length<=1000):∃x∈L,∃b,c2 f? e (vK uP i (a1 (cC (.int c)))) (st es)=Z (.str x,st b)/\vV b:=by subst m;obtain⟨d,hd,b,j,q⟩:=pk (L:=L.map D.str) (a:=cC (.int L.length)) st p r o (by rw[ag];rfl) t (λz=>by rw[kU]at z;rw[z]at h;exact aq h (eK _)) (by rw[ag];exact l);obtain⟨x,u,rfl⟩:=au.1 hd;exact⟨x,u,b,j,q⟩
def Lo(g:ff T M dk W)(hf:f∈p?)(n:Nat)(gf:List L4.D->List L4.D->Option (L4.D×List L4.D))(hg:∀m,n=m+1->∀es,vV es->∃d j,gf es [.str f,TD T,MD M,.int (m:Nat)]=Z (d,j)/\vV j/\Tq T M (gk T M dk W V) f m d)(h:vV es):
  ∃d j,u6 4 10 (vZ gf) es [.str f,TD T,MD M,.int (n:Nat)]=Z (d,j)/\vV j/\Tq T M (gk T M dk W V) f n d:=by
 have hl:=g.len;let F:Sl:=.z (.str f);let A:Sl:=.z (TD T);let B:Sl:=.z (MD M);let N:Sl:=.z (.int (n:Nat));let P:L4.D:=.bt ((T.map Th.n).map D.str);let H:L4.D:=.bt ((qs T).map D.str);have lP:(T.map Th.n).length<=100:=by rw[ag];omega
 have lH:(qs T).length<=100:=by unfold qs;rw[ag];exact bG (cu _ _) (by omega)
 obtain⟨b,hb,eb⟩:=aca n;obtain⟨k,r,x1,k0,k1,G⟩:=K? (i:=0) (a:=c2 wZ gy (c2 yA bZ (c1 IZ (c2 LZ aw aP)))) (b:=b) (λes=>[.pm es,F,A,B,N,.z P,.z H,.un,.un,.un]) (λ_=>O) (λ_ _=>O) (eb _ O) h (by omega) (by omega);let l:List L4.D->Sl->aS:=λes s=>[.pm es,F,A,B,N,.z P,.z H,.z (.int k),s,.un];have pre:∀t:FS,(uQ (vd 5 (cL (u5 1 [] (iL ak) (gN 0) vP (c1 (uU vh "name") aa))))
   (uQ (vd 6 (cL (vM vz nu)))
   (uQ (vd 7 (vK uP 0 rS)) t)):FS) [.pm es,F,A,B,N,.un,.un,.un,.un,.un]=t (l r .un):=λt=>by
  refine(uM (ρ':=[.pm es,F,A,B,N,.z P,.un,.un,.un,.un]) ((uZ (vR ((xG et (λt=>D.str t.n) T (ρ1:=[.pm es,F,A,B,N,.un,.un,.un,.un,.un]) O (by omega) λt _=>⟨[.z (et t)],[.z (et t)],O,O,O⟩).t (by rw[show (T.map λt=>D.str t.n)=(T.map Th.n).map D.str by rw[bc];rfl])))).t O)).t ?_;refine(uM (ρ':=[.pm es,F,A,B,N,.z P,.z H,.un,.un,.un]) ((uZ (vR (uN (g:=vz) (ds:=[TD T,.bt ((["room", "box", "you"]:aE).map D.str)]) (ρ1:=[.pm es,F,A,B,N,.z P,.un,.un,.un,.un]) O (zU T (by omega) ["room", "box", "you"] Kd.hd U3)))).t O)).t ?_;exact uM ((uZ x1).t O)
 have tm:∀{es} (i:Nat) (L:aE) (s:Sl),vV es->L.length<=100->(∀es,cV i (l es s)=Z (.bt (L.map D.str),l es s))->∃x j,vK wX 0 (ax ai (a1 (cV i))) (l es s)=Z (.str x,l j s)/\vV j/\Tm f L x:=λ{es} i L s h hL hi=>by obtain⟨x,j,e,q,w⟩:=Qs h hf L hL;exact⟨x,j,(yP (es0:=es) (es:=es) (ds:=[.str f,.bt (L.map D.str)]) (ρ1:=l es s) O (uL O (uL (hi es) O)) O e).t O,q,w⟩
 have lt:∀(c:Int) (s:Sl),cT (c2 HY bq (cC (.int c))) (l r s)=Z (decide (k<c),l r s):=λc s=>O;have eq:∀(c:Int) (s:Sl),cT (c2 (fb δ) bq (cC (.int c))) (l r s)=Z (decide (k=c),l r s):=λc s=>v5 (uY (x:=.int k) (y:=.int c) O O (yH δ k c));have fin:∀{d j} {s s':Sl},(vZ gf [.pm es,F,A,B,N,.un,.un,.un,.un,.un]=Z (.rt d [.pm j,F,A,B,N,.z P,.z H,.z (.int k),s,s']))->vV j->Tq T M (gk T M dk W V) f n d->∃d j,u6 4 10 (vZ gf) es [.str f,TD T,MD M,.int (n:Nat)]=Z (d,j)/\vV j/\Tq T M (gk T M dk W V) f n d:=λ{d j s s'} e q t=>⟨d,j,Bj (ρ:=[.pm j,F,A,B,N,.z P,.z H,.z (.int k),s,s']) O e O,q,t⟩;by_cases c1:k<2
 .obtain⟨x,e2,C,u,w⟩:=tm 5 _ .un G lP (λ_=>O);obtain⟨y,e3,X,U,hy⟩:=tm 6 _ .un u lH (λ_=>O);refine fin (s:=.un) (s':=.un) ?_ U ⟨adY g hf w hy,.ats w hy⟩;unfold vZ;exact(pre _).t (uW ((vb ((lt 2 .un).t (by rw[aU c1]))).t (uT (xA (ds:=[.str x,.str y]) (uL C (uL X O)) O))))
 have Q:cT (c2 HY bq bZ) (l r .un)=Z (δ,l r .un):=(lt 2 .un).t (by rw[aT c1]);have o:∀c:Int,k≠c->cT (c2 (fb δ) bq (cC (.int c))) (l r .un)=Z (δ,l r .un):=λc hc=>(eq c .un).t (by rw[aT hc]);have Y:∀c:Int,k=c->cT (c2 (fb δ) bq (cC (.int c))) (l r .un)=Z (γ,l r .un):=λc hc=>(eq c .un).t (by rw[aU hc]);by_cases c2:k=2
 .obtain⟨x,e2,C,u,w⟩:=tm 5 _ .un G lP (λ_=>O);refine fin (s:=.un) (s':=.un) ?_ u ⟨ab8 g hf w,.has w⟩;unfold vZ;exact(pre _).t ((vp Q).t (uW ((vb (Y 2 c2)).t (uT (xA (ds:=[.str x]) (uL C O) O)))))
 by_cases R:k=3
 .obtain⟨x,e2,C,u,w⟩:=tm 5 _ .un G lP (λ_=>O);refine fin (s:=.un) (s':=.un) ?_ u ⟨XE g hf w,.seen w⟩;unfold vZ;exact(pre _).t ((vp Q).t ((vp (o 2 c2)).t (uW ((vb (Y 3 R)).t (uT (xA (ds:=[.str x]) (uL C O) O))))))
 by_cases c4:k=4
 .let kl:aE:=["plain", "fixed", "box", "lamp", "room", "you"];let S:Sl:=.z (.bt (kl.map D.str));obtain⟨x,e2,C,u,w⟩:=tm 5 _ S G lP (λ_=>O);obtain⟨y,hy,e3,X,U⟩:=O7 (i:=0) (c:=6) (e:=cV 8) kl (λes=>l es S) (λ_=>O) (λ_ _=>O) O u O (by decide) (by decide);refine fin (s:=S) (s':=.un) ?_ U ⟨XG g hf w hy,.kind w⟩;unfold vZ;exact(pre _).t ((vp Q).t ((vp (o 2 c2)).t ((vp (o 3 R)).t (uW ((vb (Y 4 c4)).t ((uM (ρ':=l r S) O).t (uT (xA (ds:=[.str x,.str y]) (uL C (uL X O)) O))))))))
 by_cases c5:k=5
 .refine fin (s:=.un) (s':=.un) ?_ G ⟨U2 (f:=f),.lit⟩;unfold vZ;exact(pre _).t ((vp Q).t ((vp (o 2 c2)).t ((vp (o 3 R)).t ((vp (o 4 c4)).t (uW ((vb (Y 5 c5)).t O))))))
 have wq:∀p:Prop,∀[Decidable p],(f="way" ↔ p)->cT (L4.c2 (fb δ) ai d9) (l r .un)=Z (decide p,l r .un):=λp _ hp=>(v5 (uY (x:=.str f) (y:=.str "way") O O (xN δ f "way"))).t (by simp[hp]);by_cases c6:k=6/\f="way"
 .obtain⟨ck,cf⟩:=c6;let wl:aE:=["north", "up", "outside", "down"];obtain⟨y,hy,e3,X,U⟩:=O7 (i:=0) (c:=4) (e:=cL (vx rA)) wl (λes=>l es .un) (λ_=>O) (λ_ _=>O) O G O (by decide) (by decide);refine fin (s:=.un) (s':=.un) ?_ U ⟨by rw[cf];exact XH hy,.word cf⟩;unfold vZ;refine(pre _).t ((vp Q).t ((vp (o 2 c2)).t ((vp (o 3 R)).t ((vp (o 4 c4)).t ((vp (o 5 c5)).t (uW ((vb (ρ':=l r .un) ?_).t (uT (xA (ds:=[.str y]) (uL X O) O)))))))));unfold xl;rw[Y 6 ck];exact(wq True (by simp[cf])).t O
 have q6:xl (cT (L4.c2 (fb δ) bq ie)) (cT (L4.c2 (fb δ) ai d9)) (l r .un)=Z (δ,l r .un):=by
  unfold xl;by_cases ck:k=6
  .rw[Y 6 ck];exact(wq False (by simpa using λz=>c6 ⟨ck,z⟩)).t O
  .rw[o 6 ck]
 by_cases c7:k<8
 .obtain⟨d,e2,C,u,hd⟩:=R0 (V:=V) g hf G;refine fin (s:=.un) (s':=.un) ?_ u (hd n);unfold vZ;exact(pre _).t ((vp Q).t ((vp (o 2 c2)).t ((vp (o 3 R)).t ((vp (o 4 c4)).t ((vp (o 5 c5)).t ((vp q6).t (uW ((vb ((lt 8 .un).t (by rw[aU c7]))).t (uT ((yP (es0:=r) (es:=r) (ds:=[.str f,TD T,MD M]) (ρ1:=l r .un) O O O C).t O))))))))))
 obtain⟨m,rfl⟩:∃m,n=m+1:=by
  rcases hb with rfl|⟨_,h⟩
  .exact aq k1 (by omega)
  .exact h
 have q7:cT (L4.c2 HY bq gy) (l r .un)=Z (δ,l r .un):=(lt 8 .un).t (by rw[aT c7]);have rec_:∀{es} (s':Sl),vV es->∃d j,vK gf 0 (ax ai (ax ak (ax ay (a1 (L4.c2 IV aw aL))))) [.pm es,F,A,B,N,.z P,.z H,.z (.int k),.un,s']=Z (d,[.pm j,F,A,B,N,.z P,.z H,.z (.int k),.un,s'])/\vV j/\Tq T M (gk T M dk W V) f m d:=λ{es} s' h=>by
  obtain⟨d,j,e,q,t⟩:=hg m O es h;have e4:L4.c2 IV aw aL [.pm es,F,A,B,N,.z P,.z H,.z (.int k),.un,s']=Z (.int (m:Nat),[.pm es,F,A,B,N,.z P,.z H,.z (.int k),.un,s']):=by show Z (D.int (((m+1:Nat):Int) - 1),_)=_;rw[show ((m+1:Nat):Int) - 1=m by omega]
  exact⟨d,j,(yP (es0:=es) (es:=es) (ds:=[.str f,TD T,MD M,.int (m:Nat)]) (ρ1:=[.pm es,F,A,B,N,.z P,.z H,.z (.int k),.un,s']) O (uL O (uL O (uL O (uL e4 O)))) O e).t O,q,t⟩
 by_cases c8:k=8
 .obtain⟨d,e2,C,u,hd⟩:=rec_ .un G;refine fin (s:=.un) (s':=.un) ?_ u ⟨U1 hd.1,.no hd.2⟩;unfold vZ;exact(pre _).t ((vp Q).t ((vp (o 2 c2)).t ((vp (o 3 R)).t ((vp (o 4 c4)).t ((vp (o 5 c5)).t ((vp q6).t ((vp q7).t (uW ((vb (Y 8 c8)).t (uT (xA (ds:=[d]) (uL C O) O)))))))))))
 .obtain⟨d,e2,C,u,hd⟩:=rec_ .un G;obtain⟨d',e3,X,U,hd'⟩:=rec_ (.z d) u;refine fin (s:=.un) (s':=.z d) ?_ U ⟨RZ hd.1 hd'.1,.bo hd.2 hd'.2⟩;unfold vZ;exact(pre _).t ((vp Q).t ((vp (o 2 c2)).t ((vp (o 3 R)).t ((vp (o 4 c4)).t ((vp (o 5 c5)).t ((vp q6).t ((vp q7).t ((vp (o 8 c8)).t ((uM ((uZ C).t O)).t (uT (xA (ds:=[d,d']) (uL O (uL X O)) O)))))))))))
theorem Qt(g:ff T M dk W)(b:f∈p?):∀(n:Nat) {es:List L4.D},vV es->∃d a,wN (n+1) es [.str f,TD T,MD M,.int (n:Nat)]=Z (d,a)/\vV a/\Tq T M (gk T M dk W V) f n d
 |0,es,h=>Lo g b 0 (wN 0) (λm c=>by cases c) h
 |n+1,es,h=>Lo g b (n+1) (wN (n+1)) (λm c es h=>by cases c;exact Qt g b n h) h
end
section
variable{T:List Th}{M:List Mk}{dk:aE}{W:List Wy}{V:List Vb}{f:Str}{es:List L4.D}
def me_T(g:ff T M dk W):∃t∈T,t.n="me" /\ t.k=.you:=by
 have h:("me" : Str)∈(T.filter λt=>decide (t.k=.you)).map Th.n:=by rw[g.y1];exact bp.2 O
 obtain⟨t,a,e⟩:=au.1 h;exact⟨t,(aW.1 a).1,e,bF (aW.1 a).2⟩
def rm_T(h:x∈k? T):∃t∈T,t.n=x/\t.k=.room:=by obtain⟨t,a,rfl⟩:=au.1 h;exact⟨t,(aW.1 a).1,O,bF (aW.1 a).2⟩
def Yy(h:x∈k? T):x∈qs T:=by obtain⟨t,b,rfl,a⟩:=rm_T h;exact cG (aW.2 ⟨b,by rw[a];rfl⟩)
def ad0(g:ff T M dk W):k? T≠[]:=λz=>by have:=g.r1;unfold k? at z;rw[kU]at z;rw[z]at this;exact aq this (by decide)
def Mw(T:List Th)(f:Str)(L:aE):Prop:=∀x∈L,Mv T f x/\x≠"me"
def Yz(g:ff T M dk W):Mw T f ((T.filter λt=>t.k.pl).map Th.n):=λx d=>by obtain⟨t,c,rfl⟩:=au.1 d;obtain⟨b,a⟩:=aW.1 c;refine⟨.inl ⟨t,b,O,λz=>by rw[z]at a;cases a⟩,?_⟩;have:=(g.wd t b).2 a;exact bF (aQ.1 (show (tf.all λq=>decide (q.1≠"me"))=γ by kernel_rfl) t.nw this)
def ad1(e:f∈(["one", "two"]:aE)):∃L:aE,Mw T f L/\L.length=3/\∀es a b c s ey,cV 1 (.pm es::.z (.str f)::a::b::c::s::ey)=Z (.str f,.pm es::.z (.str f)::a::b::c::s::ey)/\cL (vx kg) (.pm es::.z (.str f)::a::b::c::s::ey)=Z (.bt (L.map D.str),.pm es::.z (.str f)::a::b::c::s::ey):=by
 simp only[aO,cA,or_false]at e;rcases e with rfl|rfl
 .refine⟨["it", "it", "it"],λx d=>?_,O,λes a b c s ey=>⟨O,O⟩⟩;have:x="it" := by simpa using d
  subst this;exact⟨.inr (.inl ⟨O,by simp⟩),by decide⟩
 .refine⟨["it", "it", "other"],λx d=>?_,O,λes a b c s ey=>⟨O,O⟩⟩;simp only[aO,cA,or_false]at d;rcases d with rfl|rfl|rfl
  .exact⟨.inr (.inl ⟨O,by simp⟩),by decide⟩
  .exact⟨.inr (.inl ⟨O,by simp⟩),by decide⟩
  .exact⟨.inr (.inr ⟨O,O⟩),by decide⟩
def XI(g:ff T M dk W)(U:f∈p?)(h:vV es):∃d j,y7 es [.str f,TD T,MD M]=Z (d,j)/\vV j/\Dq T M (gk T M dk W V) f d:=by
 have hl:=g.len;obtain⟨r,w,x1,h1,hr⟩:=F8 g U h;let F:Sl:=.z (.str f);let A:Sl:=.z (TD T);let B:Sl:=.z (MD M);let R:Sl:=.z r;have s0:vd 4 (vK wK 0 cW) [.pm es,F,A,B,.un,.un,.un,.un]=Z (.nx [.pm w,F,A,B,R,.un,.un,.un]):=(uZ (yP (es0:=es) (es:=es) (ds:=[.str f,TD T,MD M]) (ρ1:=[.pm es,F,A,B,.un,.un,.un,.un]) O O O x1)).t O;have dig:∀{es} (b:Int) (ey:aS),vV es->0<b->b<1000->∃d j,vK uP 0 (a1 (cC (.int b))) (.pm es::ey)=Z (.int d,.pm j::ey)/\0<=d/\d<b/\vV j:=λ{es} b ey h h0 h1=>K? (i:=0) (b:=b) (a:=cC (.int b)) (λes=>.pm es::ey) (λ_=>O) (λ_ _=>O) O h h0 (by omega);have first:(∃d j,y7 es [.str f,TD T,MD M]=Z (d,j)/\vV j/\Dq T M (gk T M dk W V) f d)\/∃l,vV l/\fm (xl (cT (c2 w6 aw aF)) (cT (c2 (fb δ) (vK uP 0 ip) aL))) (uV (vG 12 (λo=>yS (o++[])) m8)) u4 [.pm w,F,A,B,R,.un,.un,.un]=Z (.nx [.pm l,F,A,B,R,.un,.un,.un]):=by
  rcases hr with rfl|⟨q,rfl,hq,q0,q3⟩
  .exact .inr ⟨w,h1,(vI O).t O⟩
  .obtain⟨d,l,x2,d0,d1,I⟩:=dig (es:=w) 2 [F,A,B,R,.un,.un,.un] h1 (by decide) (by decide);have S:xl (cT (c2 w6 aw aF)) (cT (c2 (fb δ) (vK uP 0 ip) aL)) [.pm w,F,A,B,R,.un,.un,.un]=Z (decide (d=1),[.pm l,F,A,B,R,.un,.un,.un]):=by unfold xl;rw[show cT (c2 w6 aw aF) [.pm w,F,A,B,.z (pD q),.un,.un,.un]=Z (γ,[.pm w,F,A,B,.z (pD q),.un,.un,.un]) from O];exact v5 (uY (x:=.int d) (y:=.int 1) x2 O (yH δ d 1))
   by_cases c:d=1
   .obtain⟨v,m,x3,C,v0,v1⟩:=U6 I F A B [.un,.un,.un] q q0 q3;refine .inl ⟨puO q.1 v,m,Bj (ρ:=[.pm m,F,A,B,R,.un,.un,.un]) O ?_ O,C,⟨ab9 g U hq v0 v1,.put hq⟩⟩;unfold zT;exact(uM s0).t (uW ((vb (S.t (by rw[aU c]))).t (uT (xA (ds:=[.str q.1,.int v]) (uL O (uL x3 O)) O))))
   .exact .inr ⟨l,I,(vI (S.t (by rw[aT c]))).t O⟩
 rcases first with first|⟨l,I,i2⟩
 .exact first
 let PL:aE:=(T.filter λt=>t.k.pl).map Th.n;have lPL:PL.length<=7:=by show (dH Th.n _).length<=7;rw[ag];exact g.p7
 have s5:vd 5 (cL (vM vz rP))  [.pm l,F,A,B,R,.un,.un,.un]=Z (.nx [.pm l,F,A,B,R,.z (.bt (PL.map D.str)),.un,.un]):=(uZ (vR (uN (g:=vz) (ds:=[TD T,.bt ((["plain", "fixed", "box", "lamp"]:aE).map D.str)]) (ρ1:=[.pm l,F,A,B,R,.un,.un,.un]) O (zU T (by omega) ["plain", "fixed", "box", "lamp"] Kd.pl n_pl)))).t O;let X:aE->aS:=λL=>[F,A,B,R,.z (.bt (L.map D.str)),.un,.un];have nilT:∀{es} (L:aE) (ey:aS),cT (c2 (fb δ) br (cL (vx vC))) (.pm es::F::A::B::R::.z (.bt (L.map D.str))::ey)=Z (decide (L.map D.str=[]),.pm es::F::A::B::R::.z (.bt (L.map D.str))::ey):=λL ey=>v5 (uY (x:=.bt (L.map D.str)) (y:=.bt []) O O (eq_nil (GQ L).1 (by rw[(GQ L).2];decide)));have second:∃L m,vV m/\Mw T f L/\L.length<=10/\fm (xl (cT (c2 (m? δ) ai (cL (vx gx)))) (xM (cT (c2 (fb δ) br (cL (vx vC)))) (cT (c2 (fb δ) (vK uP 0 ip) aL)))) (vd 5 (cL (vx kg))) u4 (.pm l::X PL)=Z (.nx (.pm m::X L)):=by
  have Q:cT (c2 (m? δ) ai (cL (vx gx))) (.pm l::X PL)=Z (decide (f∈(["one", "two"]:aE)),.pm l::X PL):=v5 (uY (x:=.str f) (y:=.bt ((["one", "two"]:aE).map D.str)) O O (xU δ f ["one", "two"]));by_cases cf:f∈(["one", "two"]:aE)
  .rw[aU cf]at Q;obtain⟨L,mL,lL,eL⟩:=ad1 (T:=T) cf;have set5:∀es,vd 5 (cL (vx kg)) (.pm es::X PL)=Z (.nx (.pm es::X L)):=λes=>(uZ (eL es A B R (.z (.bt (PL.map D.str))) [.un,.un]).2).t O;by_cases G:PL.map D.str=[]
   .refine⟨L,l,I,mL,by omega,(vb (ρ':=.pm l::X PL) ?_).t (set5 l)⟩;unfold xl;rw[Q];exact F7 ((nilT PL _).t (by rw[aU G]))
   .obtain⟨d,m,x3,d0,d1,C⟩:=dig (es:=l) 2 (X PL) I (by decide) (by decide);have S:xl (cT (c2 (m? δ) ai (cL (vx gx)))) (xM (cT (c2 (fb δ) br (cL (vx vC)))) (cT (c2 (fb δ) (vK uP 0 ip) aL))) (.pm l::X PL)=Z (decide (d=1),.pm m::X PL):=by unfold xl;rw[Q];exact yO ((nilT PL _).t (by rw[aT G])) (v5 (uY (x:=.int d) (y:=.int 1) x3 O (yH δ d 1)))
    by_cases c1:d=1
    .exact⟨L,m,C,mL,by omega,(vb (S.t (by rw[aU c1]))).t (set5 m)⟩
    .exact⟨PL,m,C,Yz g,by omega,(vI (S.t (by rw[aT c1]))).t O⟩
  .rw[aT cf]at Q;refine⟨PL,l,I,Yz g,by omega,(vI (ρ':=.pm l::X PL) ?_).t O⟩;unfold xl;rw[Q]
 obtain⟨L,m,C,mL,lL,i5⟩:=second;let RM:Sl:=.z (.bt ((k? T).map D.str));let HD:Sl:=.z (.bt ((qs T).map D.str));let LS:Sl:=.z (.bt (L.map D.str));have lR:(k? T).length<=13:=by unfold k?;rw[ag];exact bG (cu _ _) hl
 have lH:(qs T).length<=13:=by unfold qs;rw[ag];exact bG (cu _ _) hl
 have s6:vd 6 (cL (vM vz nD)) (.pm m::X L)=Z (.nx [.pm m,F,A,B,R,LS,RM,.un]):=(uZ (vR (uN (g:=vz) (ds:=[TD T,.bt ((["room"]:aE).map D.str)]) (ρ1:=.pm m::X L) O (zU T (by omega) ["room"] (λk=>decide (k=.room)) O6)))).t O;have pickS:∀{es} (i:Nat) (N:aE) (ey:aS),vV es->N≠[]->N.length<=100->(∀es,cV i (.pm es::ey)=Z (.bt (N.map D.str),.pm es::ey))->∃x∈N,∃j,c2 f? (cV i) (vK uP 0 (a1 (c1 wY (cV i)))) (.pm es::ey)=Z (.str x,.pm j::ey)/\vV j:=λ{es} i N ey h h0 hN hi=>by obtain⟨d,hd,j,e,q⟩:=pk (i:=0) (e:=cV i) (a:=c1 wY (cV i)) (L:=N.map D.str) (λes=>.pm es::ey) (λ_=>O) (λ_ _=>O) (hi es) (ab0 (hi es)) h (by simpa using h0) (by rw[ag];omega);obtain⟨x,P,rfl⟩:=au.1 hd;exact⟨x,P,j,e,q⟩
 obtain⟨tm,htm,ntm,ktm⟩:=me_T g;have meM:Mv T f "me" := .inl ⟨tm,htm,ntm,λz=>by rw[ktm]at z;cases z⟩;have third:∃b p,vV p/\(b=δ->L≠[])/\xM (cT (c2 (fb δ) br (cL (vx vC)))) (cT (c2 (fb δ) (vK uP 0 dq) aP)) [.pm m,F,A,B,R,LS,RM,.un]=Z (b,[.pm p,F,A,B,R,LS,RM,.un]):=by
  by_cases G:L.map D.str=[]
  .exact⟨γ,m,C,λz=>(by cases z),F7 ((nilT L _).t (by rw[aU G]))⟩
  .obtain⟨d,p,x4,d0,d1,h4⟩:=dig (es:=m) 4 [F,A,B,R,LS,RM,.un] C (by decide) (by decide);exact⟨decide (d=0),p,h4,λ_ z=>G (by rw[z];rfl),yO ((nilT L _).t (by rw[aT G])) (v5 (uY (x:=.int d) (y:=.int 0) x4 O (yH δ d 0)))⟩
 obtain⟨b,p,h4,hb,t4⟩:=third;cases b with
 |true=>obtain⟨y,E,H,x5,h5⟩:=pickS (es:=p) 6 (k? T) [F,A,B,R,LS,RM,.un] h4 (ad0 g) (by omega) (λ_=>O);refine⟨M? "me" y,H,Bj (ρ:=[.pm H,F,A,B,R,LS,RM,.un]) O ?_ O,h5,⟨Qr g U meM (.inl (Yy E)) λ_=>rm_T E,.W? meM (.inl (Yy E)) λ_=>rm_T E⟩⟩;unfold zT;exact(uM s0).t ((uM i2).t ((uM s5).t ((uM i5).t ((uM s6).t (uW ((vb t4).t (uT (xA (ds:=[.str "me", .str y]) (uL O (uL x5 O)) O))))))))
 |false=>obtain⟨x,P,H,x5,h5⟩:=pickS (es:=p) 5 L [F,A,B,R,LS,RM,HD] h4 (hb O) (by omega) (λ_=>O);obtain⟨y,e6,x6,h6,E⟩:=Qs h5 U (qs T) (by omega);refine⟨M? x y,e6,Bj (ρ:=[.pm e6,F,A,B,R,LS,RM,HD]) O ?_ O,h6,⟨Qr g U (mL x P).1 E λz=>aq z (mL x P).2,.W? (mL x P).1 E λz=>aq z (mL x P).2⟩⟩;unfold zT;refine(uM s0).t ((uM i2).t ((uM s5).t ((uM i5).t ((uM s6).t ((uM ((vI t4).t O)).t ?_)))));refine(uM (ρ':=[.pm p,F,A,B,R,LS,RM,HD]) ((uZ (vR (uN (g:=vz) (ds:=[TD T,.bt ((["room", "box", "you"]:aE).map D.str)]) (ρ1:=[.pm p,F,A,B,R,LS,RM,.un]) O (zU T (by omega) ["room", "box", "you"] Kd.hd U3)))).t O)).t (uT (xA (ds:=[.str x,.str y]) (uL x5 (uL ?_ O)) O));exact(yP (es0:=H) (es:=H) (ds:=[.str f,.bt ((qs T).map D.str)]) (ρ1:=[.pm H,F,A,B,R,LS,RM,HD]) O O O x6).t O
end
def gl:List fh->List (List L4.D)->fh->List L4.D
 |k::b,a::dss,j=>if k=j then a else gl b dss j
 |_,_,_=>[]
theorem Qu:∀(a:List fh) (dss:List (List L4.D)) (j:fh),(xu a (dss.map .bt) j).getD (.bt [])=.bt (gl a dss j)
 |[],dss,j=>by cases dss<;>rfl
 |k::a,[],j=>rfl
 |k::a,b::dss,j=>by
  rw[aI];unfold xu gl;by_cases h:k=j
  .rw[aj h,aj h];rfl
  .rw[ao h,ao h];exact Qu a dss j
theorem U7:∀(a:List fh) (dss:List (List L4.D)),a.length=dss.length->(k=j->k∈a)->gl a (gn (λi c=>if i=k then c++[d]else c) a dss) j=gl a dss j++if k=j then [d]else []
 |[],[],_,f=>by rw[ao λh=>(by cases f h)];rfl
 |[],_::_,h,_=>by cases h
 |_::_,[],h,_=>by cases h
 |k0::a,c::dss,h,f=>by
  rw[ix];unfold gl;by_cases e:k0=j
  .subst e;rw[aj O,aj O];by_cases b:k0=k
   .rw[aj b,aj b.symm]
   .rw[ao b,ao λz=>b z.symm,bS]
  .rw[ao e,ao e];exact U7 a dss (by simpa using h) λz=>by
    rcases aO.1 (f z)with y|y
    .exact aq (y.symm.t z) e
    .exact y
theorem U8:∀(a:List fh) (dss:List (List L4.D)),a.length=dss.length->k∉a->gl (a++[k]) (dss++[[d]]) j=gl a dss j++if k=j then [d]else []
 |[],[],_,_=>rfl
 |[],_::_,h,_=>by cases h
 |_::_,[],h,_=>by cases h
 |k0::a,c::dss,h,b=>by
  rw[lE,lE];unfold gl;by_cases e:k0=j
  .rw[aj e,aj e,ao λz=>b (by rw[z,e];exact aX),bS]
  .rw[ao e,ao e];exact U8 a dss (by simpa using h) λz=>b (ba _ z)
theorem U9{d:L4.D}{k:fh}{P Q:List L4.D->Prop}(e:∀a,P a->Q a)(f:∀a,P a->Q (a++[d])):∀(c:List fh) (dss:List (List L4.D)),(∀a∈dss,P a)->∀x∈gn (λi a=>if i=k then a++[d]else a) c dss,Q x
 |[],_,_,x,b=>by cases b
 |_::_,[],_,x,b=>by cases b
 |k0::c,a::dss,h,x,b=>by
  rw[ix]at b;rcases aO.1 b with rfl|b
  .have:=h a aX;split
   .exact f _ this
   .exact e _ this
  .exact U9 e f c dss (λa hd=>h a (ba _ hd)) x b
theorem JX(hd:w? 16 14 d=γ):∀a:List L4.D,z4 16 14 a=γ->z4 16 14 (a++[d])=γ
 |[],_=>by rw[cw];unfold z4;rw[hd];rfl
 |x::a,h=>by rw[lE];unfold z4 at h ⊢;rw[aY]at h ⊢;exact⟨h.1,JX hd a h.2⟩
theorem BX:∀ds:List L4.D,(∀d∈ds,w? 16 14 d=γ)->z4 16 14 ds=γ
 |[],_=>by unfold z4;rfl
 |x::ds,h=>by unfold z4;rw[aY];exact⟨h x aX,BX ds λd hd=>h d (ba _ hd)⟩
def kv(d:L4.D):fh:=match uU xV "verb" d with
 |some x=>(BJ x).getD (.inl 0)
 |none=>.inl 0
def gK(d:L4.D):Bool:=(match uU xV "verb" d with
 |some x=>(BJ x).isSome
 |none=>δ)&&w? 16 14 d
def ad2(h:gK d=γ):∃x,uU xV "verb" d=Z x/\BJ x=Z (kv d):=by
 unfold gK at h;rw[aY]at h;obtain⟨h,_⟩:=h;unfold kv;split at h
 .rename_i x e;rw[e];cases a:BJ x with
  |none=>rw[a]at h;cases h
  |some y=>exact⟨x,O,a⟩
 .cases h
theorem Va:∀(L:List L4.D) (a:List fh) (dss:List (List L4.D)),(∀d∈L,gK d=γ)->a.length=dss.length->a.length+L.length<1000->(∀ds∈dss,ds.length+L.length<1000/\z4 16 14 ds=γ)->
  ∃b dss',Dm (uU xV "verb") L a dss=Z (b,dss')/\(∀j,gl b dss' j=gl a dss j++L.filter λd=>decide (kv d=j))/\∀ds∈dss',z4 16 14 ds=γ
 |[],a,dss,_,_,_,h=>⟨a,dss,O,λj=>by rw[List.filter_nil,bS],λds hd=>(h ds hd).2⟩
 |d::L,a,dss,i,f,p,h=>by
  rw[aM]at p;have hL:∀ds∈dss,ds.length+L.length+1<1000/\z4 16 14 ds=γ:=λds hd=>⟨by have:=(h ds hd).1;rw[aM]at this;omega,(h ds hd).2⟩;have e:=i d aX;have l:w? 16 14 d=γ:=by unfold gK at e;rw[aY]at e;exact e.2
  obtain⟨x,m,o⟩:=ad2 e;have st:(Cb a dss (kv d) d).1.length=(Cb a dss (kv d) d).2.length/\(Cb a dss (kv d) d).1.length+L.length<1000/\(∀ds∈(Cb a dss (kv d) d).2,ds.length+L.length<1000/\z4 16 14 ds=γ)/\∀j,gl (Cb a dss (kv d) d).1 (Cb a dss (kv d) d).2 j=gl a dss j++if kv d=j then [d]else []:=by
   unfold Cb;by_cases c:HZ a (kv d)=γ
   .rw[aj c];refine⟨by simp only[kQ];omega,by simp only;omega,U9 (P:=λds=>ds.length+L.length+1<1000/\z4 16 14 ds=γ) (λds h=>⟨by omega,h.2⟩) (λds h=>⟨by rw[aC,cF];omega,JX l ds h.2⟩) a dss hL,λj=>U7 a dss f λ_=>Fm.1 c⟩
   .rw[ao c];refine⟨by simp[f],by simp only[aC,cF];omega,λds hd=>?_,λj=>U8 a dss f λz=>c (Fm.2 z)⟩;rcases aV.1 hd with hd|hd
    .exact⟨by have:=(hL ds hd).1;omega,(hL ds hd).2⟩
    .rw[bp.1 hd];exact⟨by simp only[cF];omega,JX l [] (by unfold z4;rfl)⟩
  obtain⟨u,w,y,A⟩:=st;obtain⟨b,dss',r,t,q3⟩:=Va L (Cb a dss (kv d) d).1 (Cb a dss (kv d) d).2 (λx q=>i x (ba _ q)) u w y;refine⟨b,dss',?_,λj=>?_,q3⟩
  .unfold Dm;simp only[m,o];rw[aj]
   .exact r
   .rw[aY];refine⟨aU (by omega),aQ.2 λds hd=>aU (by have:=(hL ds hd).1;omega)⟩
  .rw[t j,A j,fY,bX];by_cases c:kv d=j
   .simp[c]
   .simp[c]
def ruN:aE:=["verb", "tests", "deeds", "text", "refuses"]
def n?(v:Str)(b ds:List L4.D)(c:Str)(a:Bool):L4.D:=.obj 13 ruN [.str v,.bt b,.bt ds,.str c,.I a]
structure RuOk(w d:L4.D):Prop where
 r:GO [w,d]=Z (.I γ)
 g:gK d=γ
 c:GF [d]=Z d
def RuS(T:List Th)(M:List Mk)(V:List Vb)(d:L4.D):Prop:=∃v∈V++v9,∃a b h c,d=n? v.n a b h c/\a.length<=9/\(∀t∈a,Ts T M v.f 2 t)/\∀e∈b,Ds T M v.f e
def RuQ(T:List Th)(M:List Mk)(V:List Vb)(w d:L4.D):Prop:=RuOk w d/\RuS T M V d
section
variable{T:List Th}{M:List Mk}{dk:aE}{W:List Wy}{V:List Vb}{f:Str}{es:List L4.D}
def O8(b:((V++v9).flatMap Vb.ws).Nodup)(a:v∈V++v9):xi [gk T M dk W V,.str v.n]=Z (ki v):=by
 have e:xi [gk T M dk W V,.str v.n]=CM (vwD (V++v9)) (.str v.n):=by kernel_rfl
 rw[e,Mz b a]
def XJ(H:∀v∈V,v∈v6)(Q:((V++v9).flatMap Vb.ws).Nodup)(l:v∈V++v9)(B:∀t∈i,Tk (gk T M dk W V) v.f 2 t)(lt:i.length<=3)(hd:∀d∈ds,Dd (gk T M dk W V) v.f d)(ld:ds.length<=3)(N:q=γ->ds=[])(P:BV [.str m]=Z (.I γ)):RuOk (gk T M dk W V) (n? v.n i ds m q):=by
 let w:=gk T M dk W V;let r:=n? v.n i ds m q;have p:v∈v6++v9:=by
  rcases aV.1 l with l|l
  .exact bJ _ (H v l)
  .exact bA _ l
 have evo:=O8 (T:=T) (M:=M) (dk:=dk) (W:=W) Q l;have G:AK [w,.str v.n]=Z (.I γ):=by let a:aS:=[.z w,.z (.str v.n)];have R:ym [.str v.n]=Z (.I γ):=CJ (aQ.1 (show ((v6++v9).all λv=>isT (ym [.str v.n]))=γ by kernel_rfl) v p);have mt:vg we "verb_of" aa bE a=Z (ki v,a):=vB (hh:=xi) (ys:=[.str v.n]) (ρ1:=a) (ρ2:=a) O O O O evo;refine uR (ρ:=a) O (uT ((vn (uN (ρ1:=a) (ds:=[.str v.n]) O R)).t ((vn (ρ1:=a) (uY mt O O)).t (uY (x:=.str v.n) (y:=.str v.n) (vQ mt O) O ?_))));rw[xN];simp
 refine⟨?_,?_,by kernel_rfl⟩
 .let a:aS:=[.z w,.z r,.un];let o:aS:=[.z w,.z r,.z (.str v.f)];refine uR (ρ:=o) O ?_;unfold GN;refine(vp (ρ:=a) (yO (ρ1:=a) O (yO (ρ1:=a) (yi (b:=γ) (v5 (uN (ds:=[w,.str v.n]) O G))) (yi (b:=γ) (v5 (uN (ds:=[.str m]) O P)))))).t ?_;refine(uM (ρ':=o) ((uZ (ρ':=a) (vQ (g:=uU zf "form") (z:=.str v.f) (vB (hh:=xi) (ys:=[.str v.n]) (ρ1:=a) (ρ2:=a) O O O O evo) O)).t O)).t (uT ?_);have C:DI [w,.str v.f,.bt i]=Z (.I γ):=uR (ρ:=[.z w,.z (.str v.f),.z (.bt i)]) O (uT ((vn (uN (ds:=[.bt i,.int 5]) (ρ1:=[.z w,.z (.str v.f),.z (.bt i)]) O (Qo _ _ (by omega)))).t (zI id i (by rw[hJ];rfl) (by omega) λt j=>⟨[.z t,.z w,.z (.str v.f)],[.z t,.z w,.z (.str v.f)],O,uN (ds:=[w,.str v.f,t,.int 4]) O ((B t j).2 4 (by decide) (by decide)),O⟩)));have E:DJ [w,.str v.f,.bt ds]=Z (.I γ):=uR (ρ:=[.z w,.z (.str v.f),.z (.bt ds)]) O (uT ((vn (uN (ds:=[.bt ds,.int 4]) (ρ1:=[.z w,.z (.str v.f),.z (.bt ds)]) O (Qo _ _ (by omega)))).t (zI id ds (by rw[hJ];rfl) (by omega) λt j=>⟨[.z t,.z w,.z (.str v.f)],[.z t,.z w,.z (.str v.f)],O,uN (ds:=[w,.str v.f,t]) O (hd t j).2,O⟩)));have F:zk [r]=Z (.I γ):=by
   cases q with
   |false=>kernel_rfl
   |true=>rw[show r=n? v.n i [] m γ from by show n? v.n i ds m γ=_;rw[N O]];kernel_rfl
  exact(vn (uN (ρ1:=o) (ds:=[w,.str v.f,.bt i]) O C)).t ((vn (uN (ρ1:=o) (ds:=[w,.str v.f,.bt ds]) O E)).t (uN (ds:=[r]) O F))
 .have e:gK r=(z4 16 14 i&&(z4 16 14 ds&&γ)):=by kernel_rfl
  rw[e,BX i λt h=>(B t h).1,BX ds λt h=>(hd t h).1];rfl
end
def nf(v:Vb):Str×Str:=(v.n,v.f)
def L0(q:Str×Str):L4.D:=.d? [.str q.1,.str q.2]
def bsL:List (Str×Str):=[("take", "one"),("open", "one"),("put", "two"),("go", "way"),("wait", "alone"),("drop", "one")]
def θ(V:List Vb):List (Str×Str):=bsL++(V.map nf++V.map nf)
def v_fm(h:v∈v6++v9):v.f∈p?:=bF (aQ.1 (show ((v6++v9).all λv=>decide (v.f∈p?))=γ by kernel_rfl) v h)
def fm_v{V:List Vb}{q:Str×Str}(h:q∈θ V):∃v∈V++v9,nf v=q:=by
 rcases aV.1 h with h|h
 .have:=(show ∀q∈bsL,q∈v9.map nf by decide +kernel) q h;obtain⟨v,a,e⟩:=au.1 this;exact⟨v,bA _ a,e⟩
 .have h:q∈V.map nf:=(aV.1 h).elim id id;obtain⟨v,a,e⟩:=au.1 h;exact⟨v,bJ _ a,e⟩
def tx1(k:Nat):Option L4.D:=(F? (.int (k:Nat))).bind (Fe (.str "Text "))
def tx2(d:Nat):Option L4.D:=KP (.str ".") (.int (1+(d:Nat)))
def isS:Option L4.D->Bool
 |some (.str x)=>isT (BV [.str x])
 |_=>δ
def ace:((aZ 12).all λk=>(aZ 9).all λd=>isS ((tx1 k).bind λx=>(tx2 d).bind λy=>Fe x y))=γ:=by kernel_rfl
def ad4(m:k<12)(hd:d<9):∃x a b y c,F? (.int (k:Nat))=Z x/\Fe (.str "Text ") x=Z a/\KP (.str ".") (.int (1+(d:Nat)))=Z y/\b=y/\Fe a y=Z (.str c)/\BV [.str c]=Z (.I γ):=by
 have h:=aQ.1 (aQ.1 ace k (bN.2 m)) d (bN.2 hd);unfold isS at h;split at h
 .rename_i c e;obtain⟨a,f,e⟩:=jv.1 e;obtain⟨x,i,f⟩:=jv.1 f;obtain⟨y,j,l⟩:=jv.1 e;exact⟨x,a,y,y,c,i,f,j,O,l,CJ h⟩
 .cases h
def rB:FS:=(uQ (Kb (c2 f? br (vK uP 0 nL)) (gT rF 2))
 (uQ (vd 10 (cL (u5 1 [0,9,1,2] (N? (vK uP 0 dq)) (gN 0) vP (vK (wN 3) 1 ny))))
 (uQ (vd 11 (c2 (fb δ) (vK uP 0 dq) aP))
 (uQ (vd 12 (cL (u5 1 [0,9,1,2] (N? (c2 yA (vK uP 0 dq) (c1 IZ (D9 eX)))) (gN 0) vP (vK y7 1 nN))))
 (vJ (AV 6 (vG 13 (λa=>yY (a++[])) rJ)))))))
section
variable{T:List Th}{M:List Mk}{dk:aE}{W:List Wy}{V:List Vb}{f:Str}{es:List L4.D}
theorem many{P:L4.D->Prop}{fe:FE}{a3 a4 a5 a6 a7 a8 a10 a11 a12:Sl}(st:∀(d:L4.D) (es:List L4.D),vV es->∃x a,fe [.z d,.pm es,.z (.str f),.z (TD T),.z (MD M)]=Z (x,[.z d,.pm a,.z (.str f),.z (TD T),.z (MD M)])/\vV a/\P x):∀(l:List L4.D) (es:List L4.D),vV es->∃(b:List L4.D) (a:List L4.D),b.length=l.length/\(∀x∈b,P x)/\vV a/\
  Av 1 [0,9,1,2] (gN 0) vP fe l [.pm es,.z (TD T),.z (MD M),a3,a4,a5,a6,a7,a8,.z (.str f),a10,a11,a12]=Z (b,[.pm a,.z (TD T),.z (MD M),a3,a4,a5,a6,a7,a8,.z (.str f),a10,a11,a12])
 |[],es,h=>⟨[],es,O,λt p=>(by cases p),h,O⟩
 |d::l,es,h=>by
  obtain⟨x,c,r,j,q⟩:=st d es h;obtain⟨b,i,o,hxs,m,u⟩:=many (a3:=a3) (a4:=a4) (a5:=a5) (a6:=a6) (a7:=a7) (a8:=a8) (a10:=a10) (a11:=a11) (a12:=a12) st l c j;refine⟨x::b,i,by rw[aM,aM,o],λy e=>?_,m,?_⟩
  .rcases aO.1 e with rfl|e
   .exact q
   .exact hxs y e
  .unfold Av;rw[show gN 0 d (Fb 1 [0,9,1,2] [.pm es,.z (TD T),.z (MD M),a3,a4,a5,a6,a7,a8,.z (.str f),a10,a11,a12])=Z [.z d,.pm es,.z (.str f),.z (TD T),.z (MD M)] from O];simp only[vP,r];rw[show yD [0,9,1,2] (([.z d,.pm c,.z (.str f),.z (TD T),.z (MD M)]:aS).drop 1) [.pm es,.z (TD T),.z (MD M),a3,a4,a5,a6,a7,a8,.z (.str f),a10,a11,a12]=Z [.pm c,.z (TD T),.z (MD M),a3,a4,a5,a6,a7,a8,.z (.str f),a10,a11,a12] from O];simp only[u]
def MB(n:Nat):(B6 0 n).length=n:=by unfold B6;simp
def R7(g:ff T M dk W)(h6:∀v∈V,v∈v6)(lV:V.length<=6)(nd:((V++v9).flatMap Vb.ws).Nodup){k:Nat}(hk:k<12)(h:vV es)(R:List L4.D)(lR:R.length<900)(C E s8 s9 m l c:Sl):∃r j t8 t9 t10 t11 t12,vV j/\RuQ T M V (gk T M dk W V) r/\
  rB [.pm es,.z (TD T),.z (MD M),C,E,.z (.bt ((θ V).map L0)),.O R,.z (.int (k:Nat)),s8,s9,m,l,c]=Z (.nx [.pm j,.z (TD T),.z (MD M),C,E,.z (.bt ((θ V).map L0)),.O (R++[r]),.z (.int (k:Nat)),t8,t9,t10,t11,t12]):=by
 let A:Sl:=.z (TD T);let B:Sl:=.z (MD M);let Q:Sl:=.z (.bt ((θ V).map L0));let K:Sl:=.z (.int (k:Nat));have lF:(θ V).length<=18:=by unfold θ;rw[aC,aC,ag];show 6+_<=18;omega
 obtain⟨d,hd,e1,x1,h1⟩:=pk (i:=0) (e:=cV 5) (a:=c1 wY br) (L:=(θ V).map L0) (λes=>[.pm es,A,B,C,E,Q,.O R,K,s8,s9,m,l,c]) (λ_=>O) (λ_ _=>O) O O h (by unfold θ bsL;simp) (by rw[ag];omega);obtain⟨q,hq,rfl⟩:=au.1 hd;obtain⟨v,u,rfl⟩:=fm_v hq;have hv6:v∈v6++v9:=by
  rcases aV.1 u with u|u
  .exact bJ _ (h6 v u)
  .exact bA _ u
 have hf:=v_fm hv6;let X:Sl:=.z (.str v.n);let F:Sl:=.z (.str v.f);have dig:∀{es} (b:Int) (ey:aS),vV es->0<b->b<1000->∃d j,vK uP 0 (a1 (cC (.int b))) (.pm es::ey)=Z (.int d,.pm j::ey)/\0<=d/\d<b/\vV j:=λ{es} b ey h h0 h1=>K? (i:=0) (b:=b) (a:=cC (.int b)) (λes=>.pm es::ey) (λ_=>O) (λ_ _=>O) O h h0 (by omega);obtain⟨d2,e2,x2,p0,p1,h2⟩:=dig (es:=e1) 4 [A,B,C,E,Q,.O R,K,X,F,m,l,c] h1 (by decide) (by decide);obtain⟨n2,rfl⟩:=cE p0;obtain⟨G,e3,lts,hts,h3,x3⟩:=many (T:=T) (M:=M) (f:=v.f) (P:=λd=>Tq T M (gk T M dk W V) v.f 2 d) (fe:=vK (wN 3) 1 ny) (a3:=C) (a4:=E) (a5:=Q) (a6:=.O R) (a7:=K) (a8:=X) (a10:=m) (a11:=l) (a12:=c)
  (λd es h=>by
   obtain⟨x,j,e,q,t⟩:=Qt (V:=V) g hf 2 h;exact⟨x,j,(yP (i:=1) (es0:=es) (es:=es) (ds:=[.str v.f,TD T,MD M,.int 2]) (ρ1:=[.z d,.pm es,.z (.str v.f),.z (TD T),.z (MD M)]) O O O e).t O,q,t⟩) (B6 0 n2) e2 h2
 rw[MB]at lts;let TS:Sl:=.z (.bt G);obtain⟨d4,e4,x4,_,_,h4⟩:=dig (es:=e3) 4 [A,B,C,E,Q,.O R,K,X,F,TS,l,c] h3 (by decide) (by decide);let o:Bool:=decide (d4=0);let RF:Sl:=.z (.I o);obtain⟨d5,H,x5,r0,r1,h5⟩:=dig (es:=e4) 4 [A,B,C,E,Q,.O R,K,X,F,TS,RF,c] h4 (by decide) (by decide);obtain⟨n5,rfl⟩:=cE r0;let S:Nat:=if o then 0 else n5
 have l6:S<=3:=by show (if o then 0 else n5)<=3;split<;>omega
 obtain⟨p,I,lds,hds,h6',x6⟩:=many (T:=T) (M:=M) (f:=v.f) (P:=λd=>Dq T M (gk T M dk W V) v.f d) (fe:=vK y7 1 nN) (a3:=C) (a4:=E) (a5:=Q) (a6:=.O R) (a7:=K) (a8:=X) (a10:=TS) (a11:=RF) (a12:=c)
  (λd es h=>by
   obtain⟨x,j,e,q,t⟩:=XI (V:=V) g hf h;exact⟨x,j,(yP (i:=1) (es0:=es) (es:=es) (ds:=[.str v.f,TD T,MD M]) (ρ1:=[.z d,.pm es,.z (.str v.f),.z (TD T),.z (MD M)]) O O O e).t O,q,t⟩) (B6 0 S) H h5
 rw[MB]at lds;let DS:Sl:=.z (.bt p);obtain⟨d7,e7,x7,u0,u1,h7⟩:=dig (es:=I) 9 [A,B,C,E,Q,.O R,K,X,F,TS,RF,DS] h6' (by decide) (by decide);obtain⟨n7,rfl⟩:=cE u0;obtain⟨tx,ta,_,ty,t,w1,w2,w3,_,w4,w5⟩:=ad4 (d:=n7) hk (by omega);have ok:RuQ T M V (gk T M dk W V) (n? v.n G p t o):=⟨XJ h6 nd u (λt h=>(hts t h).1) (by omega) (λt h=>(hds t h).1) (by omega) (λz=>by
  have:S=0:=aj z;rw[this]at lds;exact jt.1 lds) w5,v,u,G,p,t,o,O,by omega,λt h=>(hts t h).2,λt h=>(hds t h).2⟩
 refine⟨n? v.n G p t o,e7,X,F,TS,RF,DS,h7,ok,?_⟩;have rg:∀{e:FE} {ρ ρ1:aS} {n:Nat},e ρ=Z (.int (n:Nat),ρ1)->n<=100->N? e ρ=Z (B6 0 n,ρ1):=λ{e ρ ρ1 n} h hn=>by unfold N?;rw[h];dsimp only;rw[aj (by omega),gQ]
 unfold rB;refine(uM (ρ':=[.pm e1,A,B,C,E,Q,.O R,K,X,F,m,l,c]) ?_).t ?_
 .unfold Kb;rw[x1];rfl
 refine(uM (ρ':=[.pm e3,A,B,C,E,Q,.O R,K,X,F,TS,l,c]) ((uZ (vR ((Fi (ds:=B6 0 n2) (ρ1:=[.pm e2,A,B,C,E,Q,.O R,K,X,F,m,l,c]) (rg x2 (by omega)) (by rw[MB];omega)).t x3))).t O)).t ?_;refine(uM (ρ':=[.pm e4,A,B,C,E,Q,.O R,K,X,F,TS,RF,c]) ((uZ (uY (x:=.int d4) (y:=.int 0) x4 O (yH δ d4 0))).t O)).t ?_;have e56:c2 yA (vK uP 0 dq) (c1 IZ (D9 eX)) [.pm e4,A,B,C,E,Q,.O R,K,X,F,TS,RF,c]=Z (.int (S:Nat),[.pm H,A,B,C,E,Q,.O R,K,X,F,TS,RF,c]):=by
  show _=Z (D.int ((if o then 0 else n5:Nat):Int),_);have ec:c1 IZ (D9 eX) [.pm H,A,B,C,E,Q,.O R,K,X,F,TS,RF,c]=Z (.int (if !o then 1 else 0),[.pm H,A,B,C,E,Q,.O R,K,X,F,TS,RF,c]):=rfl;refine uY x5 ec ((zy (.inr (by cases o<;>decide))).t ?_);cases o with
  |true=>simp
  |false=>simp
 refine(uM (ρ':=[.pm I,A,B,C,E,Q,.O R,K,X,F,TS,RF,DS]) ((uZ (vR ((Fi (ds:=B6 0 S) (ρ1:=[.pm H,A,B,C,E,Q,.O R,K,X,F,TS,RF,c]) (rg e56 (by omega)) (by rw[MB];omega)).t x6))).t O)).t ?_;refine(wm (Dj (es0:=R) (es:=R) (ρ1:=[.pm e7,A,B,C,E,Q,.O R,K,X,F,TS,RF,DS]) (d:=n? v.n G p t o) O (xA (ds:=[.str v.n,.bt G,.bt p,.str t,.I o]) (uL O (uL O (uL O (uL (uY (uY (x:=.str "Text ") (y:=tx) (ρ1:=[.pm I,A,B,C,E,Q,.O R,K,X,F,TS,RF,DS]) (ρ2:=[.pm I,A,B,C,E,Q,.O R,K,X,F,TS,RF,DS]) O (vQ (x:=.int (k:Nat)) O w1) w2) (uY (x:=.str ".") (ρ1:=[.pm I,A,B,C,E,Q,.O R,K,X,F,TS,RF,DS]) O (uY (x:=.int 1) O x7 O) w3) w4) (uL O O))))) (by kernel_rfl)) O (by omega))).t O
end
def ad5(n:Nat):B6 0 n=(aZ n).map λk:Nat=>D.int (k:Nat):=by unfold B6;simp
def Vc(h:e ρ=Z (.int (n:Nat),ρ1))(a:n<=100):N? e ρ=Z ((aZ n).map λk:Nat=>D.int (k:Nat),ρ1):=by unfold N?;rw[h];dsimp only;rw[aj (by omega),gQ,ad5]
section
variable{T:List Th}{M:List Mk}{dk:aE}{W:List Wy}{V:List Vb}{es:List L4.D}
theorem JY(g:ff T M dk W)(B:∀v∈V,v∈v6)(lV:V.length<=6)(G:((V++v9).flatMap Vb.ws).Nodup)(C E:Sl):∀(l:List Nat) (es R:List L4.D) (q d e a b c:Sl),(∀k∈l,k<12)->vV es->R.length+l.length<900->∃o p X u w f i m,vV p/\o.length=l.length/\(∀r∈o,RuQ T M V (gk T M dk W V) r)/\
  fu (gN 7) rB (l.map λk:Nat=>D.int (k:Nat)) [.pm es,.z (TD T),.z (MD M),C,E,.z (.bt ((θ V).map L0)),.O R,q,d,e,a,b,c]=Z (.nx [.pm p,.z (TD T),.z (MD M),C,E,.z (.bt ((θ V).map L0)),.O (R++o),X,u,w,f,i,m])
 |[],es,R,q,d,e,a,b,c,_,h,_=>⟨[],es,q,d,e,a,b,c,h,O,λr U=>(by cases U),by rw[bS];rfl⟩
 |k::l,es,R,q,d,e,a,b,c,F,h,S=>by
  rw[aM]at S;obtain⟨r,H,u,w,f,i,m,N,ok,x1⟩:=R7 g B lV G (F k aX) h R (by omega) C E d e a b c;obtain⟨o,I,Y,u8,u9,x,z,A,P,lR',okR,x2⟩:=JY g B lV G C E l H (R++[r]) (.z (.int (k:Nat))) u w f i m (λj Q=>F j (ba _ Q)) N (by rw[aC,cF];omega);refine⟨r::o,I,Y,u8,u9,x,z,A,P,by rw[aM,aM,lR'],λy t=>?_,?_⟩
  .rcases aO.1 t with rfl|t
   .exact ok
   .exact okR y t
  .rw[aI];unfold fu;rw[show gN 7 (.int (k:Nat)) [.pm es,.z (TD T),.z (MD M),C,E,.z (.bt ((θ V).map L0)),.O R,q,d,e,a,b,c]=Z [.pm es,.z (TD T),.z (MD M),C,E,.z (.bt ((θ V).map L0)),.O R,.z (.int (k:Nat)),d,e,a,b,c] from O];simp only[x1];rw[x2,bX];rfl
def Vd(g:ff T M dk W)(G:∀v∈V,v∈v6)(lV:V.length<=6)(I:((V++v9).flatMap Vb.ws).Nodup)(h:vV es):∃R f,CH es [TD T,MD M,VD V,.int 12]=Z (.bt R,f)/\vV f/\R.length<=12/\∀r∈R,RuQ T M V (gk T M dk W V) r:=by
 let A:Sl:=.z (TD T);let B:Sl:=.z (MD M);let C:Sl:=.z (VD V);let E:Sl:=.z (.int 12);let Q:Sl:=.z (.bt ((θ V).map L0));obtain⟨d,y,S,N,X,z⟩:=K? (i:=0) (b:=13) (a:=c2 wZ aw aL) (λes=>[.pm es,A,B,C,E,Q,.O [],.un,.un,.un,.un,.un,.un]) (λ_=>O) (λ_ _=>O) O h (by decide) (by decide);obtain⟨n,rfl⟩:=cE N;obtain⟨R,o,q,t,u,j,l,m,F,lR,ok,U⟩:=JY g G lV I C E (aZ n) y [] .un .un .un .un .un .un (λk H=>by have:=bN.1 H;omega) z (by simp;omega);rw[cH]at lR;refine⟨R,o,Gk (ρ:=[.pm o,A,B,C,E,Q,.un,q,t,u,j,l,m]) O ?_ O,F,by omega,ok⟩;unfold CG;let w:Sl:=.z (.bt (bsL.map L0));let c:aS:=[.pm es,A,B,C,E,w,.un,.un,.un,.un,.un,.un,.un];refine(uM (ρ':=c) O).t ?_;have x:cL (u5 1 [] (iL ay) (gN 0) vP (vE nh)) c=Z (.bt ((V.map nf).map L0),c):=(vR (xG ki (λv=>L0 (nf v)) V (ρ1:=c) O (by omega) λv _=>⟨[.z (ki v)],[.z (ki v)],O,O,O⟩)).t (by rw[bc];rfl);have P:cL (ψ (cL (u5 1 [] (iL ay) (gN 0) vP (vE nh))) bZ) c=Z (.bt ((V.map nf++V.map nf).map L0),c):=by refine vR ?_;unfold ψ;rw[x];show (if ((V.map nf).map L0).length * 2<=1000/\(-1000:Int)<=2/\(2:Int)<=1000 then Z ((bU 2 ((V.map nf).map L0)).flatten,c)else J)=_;rw[aj ⟨by rw[ag,ag];omega,by decide,by decide⟩,bz];simp[bU]
 refine(uM (ρ':=[.pm es,A,B,C,E,Q,.un,.un,.un,.un,.un,.un,.un]) ((uZ (vR (w9 (xs:=bsL.map L0) (ρ1:=c) O P (by rw[ag,ag,aC,ag];show 6+_<=1000;omega)))).t ?_)).t ?_
 .show Z (tz.nx [.pm es,A,B,C,E,.z (.bt (bsL.map L0++(V.map nf++V.map nf).map L0)),.un,.un,.un,.un,.un,.un,.un])=_;rw[<-bz];rfl
 refine(uM (ρ':=[.pm es,A,B,C,E,Q,.O [],.un,.un,.un,.un,.un,.un]) O).t ?_;refine(uM (ρ':=[.pm o,A,B,C,E,Q,.O R,q,t,u,j,l,m]) ((wF (Vc S (by omega))).t U)).t O
end
def JZ(b:e ρ=Z (.bt ds,ρ1))(c:lo ρ1=Z (l,ρ2))(d:f ρ2=Z (u,a)):EB e lo f ρ=Z (ro ds l u,a):=by unfold EB;rw[b];simp only[c,d]
def O9(h:e ρ=Z (.int i,ρ1)):V' e ρ=Z (Z i,ρ1):=by unfold V';rw[h]
def Ve(h:vV es):∃t n c,t<6/\n<7/\CD es []=Z (VD (vL t n),c)/\vV c:=by
 let Q:Sl:=.z (VD v6);obtain⟨d,f,u,q,z,m⟩:=K? (i:=0) (b:=6) (a:=cC (.int 6)) (λes=>[.pm es,Q,.un]) (λ_=>O) (λ_ _=>O) O h (by decide) (by decide);obtain⟨t,rfl⟩:=cE q;let X:Sl:=.z (.int (t:Nat));obtain⟨x,l,w,r,A,o⟩:=K? (i:=0) (b:=7) (a:=cC (.int 7)) (λes=>[.pm es,Q,X]) (λ_=>O) (λ_ _=>O) O m (by decide) (by decide);obtain⟨n,rfl⟩:=cE r;refine⟨t,n,l,by omega,by omega,Gk (ρ:=[.pm l,Q,X]) O ?_ O,o⟩;unfold CC;refine(uM (ρ':=[.pm es,.z (VD (v6.take 3)),.un]) (by kernel_rfl)).t ((uM (ρ':=[.pm es,Q,.un]) (by kernel_rfl)).t ((uM ((uZ u).t O)).t (xn ?_)));have p:(v6.map ki).length=6:=rfl;have c1:cL (EB ai (V' ak) oNo) [.pm f,Q,X]=Z (.bt ((v6.map ki).drop t),[.pm f,Q,X]):=vR (by
  show Z (ro (v6.map ki) (Z (t:Int)) J,_)=_;rw[UT t (by omega)])
 have c2:cL (EB ai oNo (V' ak)) [.pm f,Q,X]=Z (.bt ((v6.map ki).take t),[.pm f,Q,X]):=vR (by
  show Z (ro (v6.map ki) J (Z (t:Int)),_)=_;rw[JM t (by omega)])
 have y:((v6.map ki).drop t).length+((v6.map ki).take t).length=6:=by rw[fC,bY,p];omega
 refine(JZ (vR (w9 c1 c2 (by omega))) O (O9 w)).t ?_;show Z (ro ((v6.map ki).drop t++(v6.map ki).take t) J (Z (n:Int)),_)=_;have e:(vL t n).map ki=((v6.map ki).drop t++(v6.map ki).take t).take n:=by unfold vL;rw[iR,bz,mi,iR]
 rw[e];rw[JM n (by rw[aC];omega)]
def mB:FS:=(uQ (vd 3 (c2 wZ aL (vK uP 0 gA)))
 (vJ (AV 1 (vG 1 (λa=>Dv (a++[])) r9))))
theorem J0:∀(l:aE) (es:List L4.D) (M:List Mk) (j c:Sl),vV es->M.length+l.length<=900->∃f e r t,vV f/\e.map Mk.n=l/\(∀m∈e,m.ok)/\
  fu (gN 2) mB (l.map D.str) [.pm es,.O (M.map o3),j,c]=Z (.nx [.pm f,.O ((M++e).map o3),r,t])
 |[],es,M,j,c,h,_=>⟨es,[],j,c,h,O,λm F=>(by cases F),by rw[bS];rfl⟩
 |x::l,es,M,j,c,h,E=>by
  rw[aM]at E;obtain⟨d,u,H,T,U,A⟩:=K? (i:=0) (b:=3) (a:=cC (.int 3)) (λes=>[.pm es,.O (M.map o3),.z (.str x),c]) (λ_=>O) (λ_ _=>O) O h (by decide) (by decide);let Y:Sl:=.z (.int (1+d));obtain⟨o,p,I,G,W,B⟩:=K? (i:=0) (b:=1+d+1) (a:=c2 wZ ay aL) (λes=>[.pm es,.O (M.map o3),.z (.str x),Y]) (λ_=>O) (λ_ _=>O) O A (by omega) (by omega);let m:Mk:=⟨x,o,1+d⟩;have ok:m.ok:=⟨by show 1<=1+d;omega,by show 1+d<=3;omega,G,by show o<=1+d;omega⟩;obtain⟨w,e,r,t,C,eM,okM,N⟩:=J0 l p (M++[m]) (.z (.str x)) Y B (by rw[aC,cF];omega);refine⟨w,m::e,r,t,C,by rw[aI,eM],λy q=>?_,?_⟩
  .rcases aO.1 q with rfl|q
   .exact ok
   .exact okM y q
  .rw[aI];unfold fu;rw[show gN 2 (.str x) [.pm es,.O (M.map o3),j,c]=Z [.pm es,.O (M.map o3),.z (.str x),c] from O];have P:mB [.pm es,.O (M.map o3),.z (.str x),c]=Z (.nx [.pm p,.O ((M++[m]).map o3),.z (.str x),Y]):=by unfold mB;refine(uM (ρ':=[.pm u,.O (M.map o3),.z (.str x),Y]) ((uZ (uY (x:=.int 1) O H O)).t O)).t ?_;refine(wm (Dj (es0:=M.map o3) (es:=M.map o3) (ρ1:=[.pm p,.O (M.map o3),.z (.str x),Y]) (d:=o3 m) O (xA (ds:=[.str x,.int o,.int (1+d)]) (uL O (uL I O)) O) O (by rw[ag];omega))).t ?_;rw[bz];rfl
   simp only[P];rw[N,bX];rfl
def Vf(h:vV es):∃M c,CB es []=Z (MD M,c)/\vV c/\(∀m∈M,m.ok)/\∃n,M.map Mk.n=mkL.take n:=by
 obtain⟨d,f,x,w,z,t⟩:=K? (i:=0) (b:=5) (a:=cC (.int 5)) (λes=>[.pm es,.O [],.un,.un]) (λ_=>O) (λ_ _=>O) O h (by decide) (by decide);obtain⟨n,rfl⟩:=cE w;obtain⟨j,M,p,q,u,eM,ok,y⟩:=J0 (mkL.take n) f [] .un .un t (by rw[bY];simp only[fF];omega);refine⟨M,j,Gk (ρ:=[.pm j,.un,p,q]) O ?_ O,u,ok,n,eM⟩;unfold CA;refine(uM (ρ':=[.pm es,.O [],.un,.un]) O).t ((uM (ρ':=[.pm j,.O (M.map o3),p,q]) ((wF (ds:=(mkL.take n).map D.str) (ρ1:=[.pm f,.O [],.un,.un]) ?_).t y)).t O);have e:cL (EB (cL (vx rD)) oNo (V' (vK uP 0 (a1 kc)))) [.pm es,.O [],.un,.un]=Z (.bt ((mkL.take n).map D.str),[.pm f,.O [],.un,.un]):=by refine(vR (JZ (ds:=mkL.map D.str) (ρ1:=[.pm es,.O [],.un,.un]) O O (O9 x))).t ?_;rw[JM n (by rw[ag];show n<=4;omega),iR]
 unfold iL;rw[e]
def Ku(i:Nat):Str×aE:=tf.getD i ("key", ["key"])
def plD(q:Str×aE):L4.D:=.d? [.str q.1,.d? (q.2.map D.str)]
def kL:List Kd:=[.plain,.box,.lamp,.box,.fixed,.plain]
def tB:FS:=(uQ (Kb (c2 f? aw (c2 yB (c2 wZ bR br) jd)) (gT rE 2))
 (uQ (vd 9 (c2 f? (cL (vx rQ)) (vK uP 0 (a1 ie))))
 (uQ (vJ (AV 2 (vG 0 (λa=>yp (a++[])) rN)))
 (fm (cT (c2 (fb δ) du cR)) (vJ (AV 3 bq)) u4))))
def Vg(h:i<7):Ku i∈tf/\A? (tf.map plD) (i:Int)=Z (plD (Ku i)):=by
 have e:tf[i]?=Z (Ku i):=by unfold Ku;rw[cY,bh (show i<tf.length from h)];rfl
 exact⟨cj e,DV (by rw[bB,e];rfl)⟩
theorem HR(a:Sl)(C:Nat)(htn:C<7):∀(l:List Nat) (es:List L4.D) (P:List Th) (c:aE) (M A B o:Sl),vV es->c≠[]->(∀x∈c,∃u∈P,u.n=x/\u.k.hd=γ)->Ord P->P.length+l.length<=900->c.length+l.length<=900->
  ∃(I:List L4.D) (G:List Th) (F:aE) (t6 t7 t8 t9:Sl),vV I/\Ord (P++G)/\G.map Th.nw=l.map (λk=>Ku ((k+C) % 7))/\(∀t∈G,t.k.pl=γ)/\
   fu (gN 6) tB (l.map λk:Nat=>D.int (k:Nat)) [.pm es,a,.O (P.map et),.O (c.map D.str),.z (.bt (tf.map plD)),.z (.int (C:Nat)),M,A,B,o]=Z (.nx [.pm I,a,.O ((P++G).map et),.O (F.map D.str),.z (.bt (tf.map plD)),.z (.int (C:Nat)),t6,t7,t8,t9])
 |[],es,P,c,M,A,B,o,h,_,_,ho,_,_=>⟨es,[],c,M,A,B,o,h,by rw[bS];exact ho,O,λr hr=>(cA hr).elim,by rw[bS];rfl⟩
 |k::l,es,P,c,M,A,B,o,h,h0,hH,ho,hl,W=>by
  rw[aM]at hl W;let Q:Sl:=.z (.bt (tf.map plD));let N:Sl:=.z (.int (C:Nat));let K:Sl:=.z (.int (k:Nat));let i:Nat:=(k+C) % 7;have hi:i<7:=gq _ (by decide);obtain⟨pm,ea⟩:=Vg hi;let q:=Ku i;let X:Sl:=.z (.str q.1);let Y:Sl:=.z (.d? (q.2.map D.str));obtain⟨d,e1,x1,p0,p1,h1⟩:=K? (i:=0) (b:=6) (a:=cC (.int 6)) (λes=>[.pm es,a,.O (P.map et),.O (c.map D.str),Q,N,K,X,Y,o]) (λ_=>O) (λ_ _=>O) O h (by decide) (by decide);obtain⟨j,rfl⟩:=cE p0;have hj:j<kL.length:=by show j<6;omega
  let m:Kd:=kL[j];have hpl:m.pl=γ:=(show ∀k∈kL,Kd.pl k=γ by decide) _ (fA hj);have ek:f? (.bt (kL.map λk=>D.str k.s)) (.int (j:Nat))=Z (.str m.s):=DV (by rw[bB,bh hj];rfl);let AT:Sl:=.z (.str m.s);let z:aS:=[.pm e1,a,.O (P.map et),.O (c.map D.str),Q,N,K,X,Y,AT];obtain⟨dd,hdd,H,h2,x2⟩:=ixs (ρ:=z) (i:=0) (j:=3) h1 (by simpa using h0) (by rw[ag];omega) O O O (λ_=>O);obtain⟨p,hp,rfl⟩:=au.1 hdd;let t:Th:=⟨q.1,q.2,m,Z p⟩;obtain⟨u,hu,hun,huk⟩:=hH p hp;have ok:Mr P t:=.inr (.inr ⟨hpl,u,hu,by rw[hun],huk⟩);let e:aE:=if m=.box then c++[q.1]else c
  have xb:tB [.pm es,a,.O (P.map et),.O (c.map D.str),Q,N,K,A,B,o]=Z (.nx [.pm H,a,.O ((P++[t]).map et),.O (e.map D.str),Q,N,K,X,Y,AT]):=by
   unfold tB;refine(uM (ρ':=[.pm es,a,.O (P.map et),.O (c.map D.str),Q,N,K,X,Y,o]) ?_).t ?_
   .have em:c2 yB (c2 wZ bR br) jd [.pm es,a,.O (P.map et),.O (c.map D.str),Q,N,K,A,B,o]=Z (.int (i:Nat),[.pm es,a,.O (P.map et),.O (c.map D.str),Q,N,K,A,B,o]):=(uY (x:=.int ((k:Int)+(C:Int))) O O (DX (by decide))).t (by
     rw[show ((k:Int)+(C:Int)) % 7=((i:Nat):Int) by show _=(((k+C) % 7:Nat):Int);omega])
    unfold Kb;rw[uY (x:=.bt (tf.map plD)) (ρ1:=[.pm es,a,.O (P.map et),.O (c.map D.str),Q,N,K,A,B,o]) O em ea];rfl
   refine(uM (ρ':=z) ((uZ (uY (x:=.bt (kL.map λk=>D.str k.s)) O x1 ek)).t O)).t ?_;let E:aS:=[.pm H,a,.O ((P++[t]).map et),.O (c.map D.str),Q,N,K,X,Y,AT];refine(uM (ρ':=E) ((wm (Dj (es0:=P.map et) (es:=P.map et) (ρ1:=[.pm H,a,.O (P.map et),.O (c.map D.str),Q,N,K,X,Y,AT]) (d:=et t) O (xA (ds:=[.str q.1,.d? (q.2.map D.str),.str m.s,.str p]) (uL O (uL O (uL O (uL x2 O)))) O) O (by rw[ag];omega))).t ?_)).t ?_
   .show Z (tz.nx [.pm H,a,.O (P.map et++[et t]),.O (c.map D.str),Q,N,K,X,Y,AT])=_;rw[show P.map et++[et t]=(P++[t]).map et by rw[bz];rfl]
   .have S:cT (c2 (fb δ) du cR) E=Z (decide (m=.box),E):=v5 (uY O O (HP m .box));by_cases f:m=.box
    .rw[aU f]at S;refine(vb S).t ((wm (Dj (es0:=c.map D.str) (es:=c.map D.str) (ρ1:=E) (d:=.str q.1) O O O (by rw[ag];omega))).t ?_);show Z (tz.nx [.pm H,a,.O ((P++[t]).map et),.O (c.map D.str++[.str q.1]),Q,N,K,X,Y,AT])=_;rw[show e.map D.str=c.map D.str++[.str q.1] by rw[show e=c++[q.1] from aj f,bz];rfl]
    .rw[aT f]at S;refine(vI S).t ?_;rw[show e=c from ao f];rfl
  have hH1:∀y∈e,∃u∈P++[t],u.n=y/\u.k.hd=γ:=λy w=>by
   have old:y∈c->∃u∈P++[t],u.n=y/\u.k.hd=γ:=λw=>by obtain⟨v,hv,h⟩:=hH y w;exact⟨v,bJ _ hv,h⟩
   by_cases f:m=.box
   .rw[show e=c++[q.1] from aj f]at w;rcases aV.1 w with w|w
    .exact old w
    .rw[bp]at w;refine⟨t,by simp,w.symm,?_⟩;show m.hd=γ;rw[f];rfl
   .rw[show e=c from ao f]at w;exact old w
  have U:e≠[]:=by
   by_cases f:m=.box
   .rw[show e=c++[q.1] from aj f];simp
   .rw[show e=c from ao f];exact h0
  have hl1:e.length<=c.length+1:=by
   by_cases f:m=.box
   .rw[show e=c++[q.1] from aj f];simp
   .rw[show e=c from ao f];omega
  obtain⟨e3,G,F,t6,t7,t8,t9,g1,g2,g3,g4,g5⟩:=HR a C htn l H (P++[t]) e K X Y AT h2 U hH1 (ho.snoc ok) (by rw[aC,cF];omega) (by omega);refine⟨e3,t::G,F,t6,t7,t8,t9,g1,by rw[bX]at g2;exact g2,by rw[aI,aI,g3];rfl,λr hr=>?_,?_⟩
  .rcases aO.1 hr with rfl|hr
   .exact hpl
   .exact g4 r hr
  .rw[aI];unfold fu;rw[show gN 6 (.int (k:Nat)) [.pm es,a,.O (P.map et),.O (c.map D.str),Q,N,M,A,B,o]=Z [.pm es,a,.O (P.map et),.O (c.map D.str),Q,N,K,A,B,o] from O];simp only[xb];rw[g5,bX];rfl
def Z'(x:Str):Th:=⟨x,[x,"place"],.room,J⟩
structure Pa(T:List Th):Prop where
 kx:Ord T
 ex:∃(r tn n:Nat) (y:Str) (P:List Th),1<=r/\r<=5/\tn<7/\n<8/\T=(X1.take r).map Z'++⟨"me", ["me", "self"],.you,Z y⟩::P/\P.map Th.nw=(aZ n).map (λk=>Ku ((k+tn) % 7))/\∀t∈P,t.k.pl=γ
theorem Lp:∀(l:aE) (B:List Th),Ord B->Ord (B++l.map Z')
 |[],B,h=>by rw[fK,bS];exact h
 |x::l,B,h=>by rw[aI,List.append_cons];exact Lp l _ (h.snoc (.inl ⟨O,O⟩))
def R8(h:vV es):∃(T:List Th) (j:Nat) (G:List L4.D),Pa T/\j<T.length/\BB es []=Z (TD (T.drop j++T.take j),G)/\vV G:=by
 let U:Sl:=.un;obtain⟨d,I,x1,p0,p1,h1⟩:=K? (i:=0) (b:=5) (a:=cC (.int 5)) (λes=>[.pm es,U,U,U,U,U,U,U,U,U]) (λ_=>O) (λ_ _=>O) O h (by decide) (by decide);obtain⟨r,rfl⟩:=cE p0;let R:aE:=X1.take (1+r);have lR:R.length=1+r:=by show (X1.take (1+r)).length=_;rw[bY];show min (1+r) 5=_;omega
 let RS:Sl:=.z (.bt (R.map D.str));let T0:List Th:=R.map Z';obtain⟨dd,hdd,E,x2,h2⟩:=pk (i:=0) (e:=cV 1) (a:=c1 wY ai) (L:=R.map D.str) (λes=>[.pm es,RS,.O (T0.map et),U,U,U,U,U,U,U]) (λ_=>O) (λ_ _=>O) O O h1 (by intro z;have:=bH dh z;rw[ag,lR]at this;simp at this) (by rw[ag];omega);obtain⟨y,hy,rfl⟩:=au.1 hdd;let B:Th:=⟨"me", ["me", "self"],.you,Z y⟩;let c:List Th:=T0++[B];have o0:Ord T0:=by have:=Lp R [] .nil;rw[cw]at this;exact this
 have o1:Ord c:=o0.snoc (.inr (.inl ⟨O,Z' y,cG hy,O,O⟩));let o:aE:=R++(["me"]:aE);have hH:∀x∈o,∃u∈c,u.n=x/\u.k.hd=γ:=λx H=>by
  rcases aV.1 H with H|H
  .exact⟨Z' x,bJ _ (cG H),O,O⟩
  .exact⟨B,bA _ (bp.2 O),(bp.1 H).symm,O⟩
 have lP:c.length=2+r:=by show (R.map Z'++[B]).length=_;rw[aC,ag,lR];show 1+r+1=_;omega
 have lH:o.length=2+r:=by show (R++_).length=_;rw[aC,lR];show 1+r+1=_;omega
 let Q:Sl:=.z (.bt (tf.map plD));obtain⟨d3,e3,x3,q0,q1,h3⟩:=K? (i:=0) (b:=7) (a:=cC (.int 7)) (λes=>[.pm es,RS,.O (c.map et),.O (o.map D.str),Q,U,U,U,U,U]) (λ_=>O) (λ_ _=>O) O h2 (by decide) (by decide);obtain⟨S,rfl⟩:=cE q0;let N:Sl:=.z (.int (S:Nat));obtain⟨d4,W,x4,u0,u1,h4⟩:=K? (i:=0) (b:=8) (a:=cC (.int 8)) (λes=>[.pm es,RS,.O (c.map et),.O (o.map D.str),Q,N,U,U,U,U]) (λ_=>O) (λ_ _=>O) O h3 (by decide) (by decide);obtain⟨n,rfl⟩:=cE u0;obtain⟨e5,F,M,p,q,t,w,h5,o5,X,g4,x5⟩:=HR RS S (by omega) (aZ n) W c o U U U U h4 (by show R++(["me"]:aE)≠[];simp) hH o1 (by rw[cH];omega) (by rw[cH];omega);let T:List Th:=c++F;have lP':F.length=n:=by have:=bH dh X;rw[ag,ag,cH]at this;exact this
 have lT:T.length=2+r+n:=by show (c++F).length=_;rw[aC,lP,lP']
 let HS:Sl:=.O (M.map D.str);obtain⟨d6,A,x6,v0,v1,h6⟩:=K? (i:=0) (b:=T.length) (a:=AW (c1 wY ak)) (λes=>[.pm es,RS,.O (T.map et),HS,Q,N,p,q,t,w]) (λ_=>O) (λ_ _=>O) (Jb (vQ O (by show Z (D.int _)=_;rw[ag])) O) h5 (by omega) (by omega);obtain⟨j,rfl⟩:=cE v0;have hj:j<T.length:=by omega
 have Y:Pa T:=⟨o5,1+r,S,n,y,F,by omega,by omega,by omega,by omega,by show (R.map Z'++[B])++F=_;rw[bX];rfl,X,g4⟩;let C:Sl:=.z (.int (j:Nat));let TL:Sl:=.z (TD T);refine⟨T,j,A,Y,hj,?_,h6⟩;refine Gk (ρ:=[.pm A,RS,TL,HS,Q,C,p,q,t,w]) O ?_ O;unfold BA;refine(uM (ρ':=[.pm I,RS,U,U,U,U,U,U,U,U]) ((uZ (vR (JZ (ds:=X1.map D.str) (ρ1:=[.pm es,U,U,U,U,U,U,U,U,U]) O O (O9 (uY (x:=.int 1) O x1 O))))).t ?_)).t ?_
 .show Z (tz.nx [.pm I,.z (.bt (ro (X1.map D.str) J (Z (1+(r:Int))))),U,U,U,U,U,U,U,U])=_;rw[show (1+(r:Int))=((1+r:Nat):Int) by omega,JM (1+r) (by rw[ag];show 1+r<=5;omega),<- iR]
 refine(uM (ρ':=[.pm I,RS,.O (T0.map et),U,U,U,U,U,U,U]) ((Im (xG D.str (λx=>et (Z' x)) R (ρ1:=[.pm I,RS,U,U,U,U,U,U,U,U]) O (by omega) λx _=>⟨[.z (.str x)],[.z (.str x)],O,O,O⟩)).t ?_)).t ?_
 .rw[show T0.map et=R.map λx=>et (Z' x) by show (R.map Z').map et=_;rw[bc];rfl];rfl
 refine(uM (ρ':=[.pm E,RS,.O (c.map et),U,U,U,U,U,U,U]) ((wm (Dj (es0:=T0.map et) (es:=T0.map et) (ρ1:=[.pm E,RS,.O (T0.map et),U,U,U,U,U,U,U]) (d:=et B) O (xA (ds:=[.str "me", .d? [.str "me", .str "self"],.str "you", .str y]) (uL O (uL O (uL O (uL x2 O)))) O) O (by show ((R.map Z').map et).length<1000;rw[ag,ag];omega))).t ?_)).t ?_
 .rw[show c.map et=T0.map et++[et B] by show (T0++[B]).map et=_;rw[bz];rfl];rfl
 refine(uM (ρ':=[.pm E,RS,.O (c.map et),.O (o.map D.str),U,U,U,U,U,U]) ((Im (w9 (xs:=R.map D.str) (ys:=[.str "me"]) (ρ1:=[.pm E,RS,.O (c.map et),U,U,U,U,U,U,U]) O O (by rw[ag];show R.length+1<=1000;omega))).t ?_)).t ?_
 .rw[show o.map D.str=R.map D.str++[.str "me"] by show (R++(["me"]:aE)).map D.str=_;rw[bz];rfl];rfl
 refine(uM (ρ':=[.pm E,RS,.O (c.map et),.O (o.map D.str),.z (.bt ((tf.take 4).map plD)),U,U,U,U,U]) O).t ?_;refine(uM (ρ':=[.pm E,RS,.O (c.map et),.O (o.map D.str),Q,U,U,U,U,U]) O).t ?_;refine(uM ((uZ x3).t O)).t ?_;refine(uM (ρ':=[.pm e5,RS,.O (T.map et),HS,Q,N,p,q,t,w]) ((wF (Vc (ρ1:=[.pm W,RS,.O (c.map et),.O (o.map D.str),Q,N,U,U,U,U]) x4 (by omega))).t x5)).t ?_;refine(uM (ρ':=[.pm A,RS,.O (T.map et),HS,Q,C,p,q,t,w]) ((uZ x6).t O)).t (xn ?_);refine(w9 (xs:=(T.map et).drop j) (ys:=(T.map et).take j) (ρ1:=[.pm A,RS,TL,HS,Q,C,p,q,t,w]) (ρ2:=[.pm A,RS,TL,HS,Q,C,p,q,t,w]) ?_ ?_ (by rw[fC,bY,ag];omega)).t ?_
 .refine(vR (JZ (ds:=T.map et) (ρ1:=[.pm A,RS,TL,HS,Q,C,p,q,t,w]) (l:=Z (j:Int)) (u:=J) O O O)).t ?_;rw[UT j (by rw[ag];omega)]
 .refine(vR (JZ (ds:=T.map et) (ρ1:=[.pm A,RS,TL,HS,Q,C,p,q,t,w]) (l:=J) (u:=Z (j:Int)) O O O)).t ?_;rw[JM j (by rw[ag];omega)]
 .rw[<-mi,<- iR,<- bz]
def rwD(w:Wy):L4.D:=.d? [.str w.r,.str w.w]
theorem Qv:∀W:List Wy,zx (W.map rwD)=Z (W.map λw=>L3.Dq.d? [.str w.r,.str w.w])
 |[]=>rfl
 |w::W=>by rw[aI];unfold zx;rw[Qv W];rfl
def ad6(r x:Str)(W:List Wy):Kx (.d? [.str r,.str x]) (.bt (W.map rwD))=Z (.I (!decide ([r,x]∈W.map λw=>[w.r,w.w]))):=by
 unfold Kx;dsimp only;rw[show rl (.d? [.str r,.str x])=Z (.d? [.str r,.str x]) from O,Qv];dsimp only;rw[aj]
 .congr 3;rw[c9,fE,bT,au];constructor
  .rintro⟨e,b,h⟩;obtain⟨w,a,rfl⟩:=au.1 b;have h:((w.r==r)&&((w.w==x)&&γ))=γ:=h;rw[aY,aY,beq_iff_eq,beq_iff_eq]at h;exact⟨w,a,by rw[h.1,h.2.1]⟩
  .rintro⟨w,a,h⟩;refine⟨_,au.2 ⟨w,a,O⟩,?_⟩;have c:w.r=r/\w.w=x:=by simpa using h
   show ((w.r==r)&&((w.w==x)&&γ))=γ;rw[c.1,c.2];simp
 .rw[aY];refine⟨O,aQ.2 λe b=>?_⟩;obtain⟨w,a,rfl⟩:=au.1 b;rfl
def wB:FS:=(uQ (vd 7 (c2 f? ay (vK uP 0 gz)))
 (uQ (vd 8 (c2 f? (cL (vx m7)) (vK uP 0 dq)))
 (uQ (vd 9 (c2 f? ay (vK uP 0 gz)))
 (uQ (vd 10 (c2 f? aw (vK uP 0 (a1 (c1 wY aw)))))
 (fm (Ad (cT (c2 Kx (vE kq) (cL (u5 1 [] (iL br) (gN 0) vP (Km aa J (Z 2))))))) (vJ (AV 5 (vE nv))) u4)))))
section
variable{T:List Th}{M:List Mk}{es:List L4.D}
def P'(T:List Th)(M:List Mk):List (Option Str):=J::J::(M.map Mk.n++(T.filter λt=>t.k.mk).map Th.n).map Z
def acf(h:m∈P' T M)(e:m=Z x):x∈vo T M:=by
 subst e;have h:Z x∈(M.map Mk.n++(T.filter λt=>t.k.mk).map Th.n).map Z:=by simpa [P']using h
 obtain⟨y,a,e⟩:=au.1 h;cases e;rcases aV.1 a with a|a
 .exact bA _ a
 .exact bJ _ a
def Vh(R:k? T≠[])(lr:(k? T).length<=13)(ld:(P' T M).length<=20)(h:vV es)(W:List Wy)(lW:W.length<=900)(ok:∀w∈W,Ks T M w)(U:(W.map λw=>[w.r,w.w]).Nodup)(a b j N E t f:Sl):
  ∃(q:List L4.D) (A:List Wy) (t7 t8 t9 P:Sl),vV q/\A.length<=W.length+1/\(∀w∈A,Ks T M w)/\(A.map λw=>[w.r,w.w]).Nodup/\
   wB [.pm es,a,b,.z (.bt ((k? T).map D.str)),.z (.bt ((P' T M).map oS)),.O (W.map n9),j,N,E,t,f]=Z (.nx [.pm q,a,b,.z (.bt ((k? T).map D.str)),.z (.bt ((P' T M).map oS)),.O (A.map n9),j,t7,t8,t9,P]):=by
 let RM:Sl:=.z (.bt ((k? T).map D.str));let DR:Sl:=.z (.bt ((P' T M).map oS));let WS:Sl:=.O (W.map n9);obtain⟨d1,F,e1,x1,h1⟩:=pk (i:=0) (e:=cV 3) (a:=c1 wY ay) (L:=(k? T).map D.str) (λes=>[.pm es,a,b,RM,DR,WS,j,N,E,t,f]) (λ_=>O) (λ_ _=>O) O O h (by simpa using R) (by rw[ag];omega);obtain⟨r,I,rfl⟩:=au.1 F;let X:Sl:=.z (.str r);obtain⟨x,hx,e2,x2,h2⟩:=O7 (i:=0) (c:=4) (e:=cL (vx m7)) ["north", "up", "outside", "north"] (λes=>[.pm es,a,b,RM,DR,WS,j,X,E,t,f]) (λ_=>O) (λ_ _=>O) O h1 O (by decide) (by decide);let Y:Sl:=.z (.str x);obtain⟨d3,G,e3,x3,h3⟩:=pk (i:=0) (e:=cV 3) (a:=c1 wY ay) (L:=(k? T).map D.str) (λes=>[.pm es,a,b,RM,DR,WS,j,X,Y,t,f]) (λ_=>O) (λ_ _=>O) O O h2 (by simpa using R) (by rw[ag];omega);obtain⟨g,hg,rfl⟩:=au.1 G;let AT:Sl:=.z (.str g);obtain⟨d4,H,B,x4,Q⟩:=pk (i:=0) (e:=cV 4) (a:=c1 wY aw) (L:=(P' T M).map oS) (λes=>[.pm es,a,b,RM,DR,WS,j,X,Y,AT,f]) (λ_=>O) (λ_ _=>O) O O h3 (by simp[P']) (by rw[ag];omega);obtain⟨m,hm,rfl⟩:=au.1 H;let u:Sl:=.z (oS m);let w:Wy:=⟨r,x,g,m⟩;have wok:Ks T M w:=⟨I,(show ∀x∈(["north", "up", "outside", "north"]:aE),x∈(["north", "up", "outside"]:aE) by decide) x hx,hg,λy e=>acf hm e⟩;let o:aS:=[.pm B,a,b,RM,DR,WS,j,X,Y,AT,u];have C:Ad (cT (c2 Kx (vE kq) (cL (u5 1 [] (iL br) (gN 0) vP (Km aa J (Z 2)))))) o=Z (!decide ([r,x]∈W.map λw=>[w.r,w.w]),o):=by refine PV (ρ1:=o.map Sl.T?) (v5 (uY (x:=.d? [.str r,.str x]) (y:=.bt (W.map rwD)) (ρ1:=o.map Sl.T?) O (vR (xG n9 rwD W (ρ1:=o.map Sl.T?) O (by omega) λw _=>⟨[.z (n9 w)],[.z (n9 w)],O,O,O⟩)) (ad6 r x W)))
 have pre:wB [.pm es,a,b,RM,DR,WS,j,N,E,t,f]=fm (Ad (cT (c2 Kx (vE kq) (cL (u5 1 [] (iL br) (gN 0) vP (Km aa J (Z 2))))))) (vJ (AV 5 (vE nv))) u4 o:=by unfold wB;exact(uM ((uZ x1).t O)).t ((uM ((uZ x2).t O)).t ((uM ((uZ x3).t O)).t (uM ((uZ x4).t O))))
 by_cases c:[r,x]∈W.map λw=>[w.r,w.w]
 .rw[aU c]at C;exact⟨B,W,X,Y,AT,u,Q,by omega,ok,U,pre.t ((vI C).t O)⟩
 .rw[aT c]at C;refine⟨B,W++[w],X,Y,AT,u,Q,by rw[aC];exact aN _,λy l=>?_,?_,pre.t ((vb C).t ((wm (Dj (es0:=W.map n9) (es:=W.map n9) (ρ1:=o) (d:=n9 w) O O O (by rw[ag];omega))).t ?_))⟩
  .rcases aV.1 l with l|l
   .exact ok y l
   .rw[bp.1 l];exact wok
  .rw[bz,cn];refine⟨U,by simp,λy l z S e=>c ?_⟩;rw[aI,fK,bp]at S;rw[e,S]at l;exact l
  .show Z (tz.nx [.pm B,a,b,RM,DR,.O (W.map n9++[n9 w]),j,X,Y,AT,u])=_;rw[show (W++[w]).map n9=W.map n9++[n9 w] by rw[bz];rfl]
theorem Lq(E:k? T≠[])(F:(k? T).length<=13)(ld:(P' T M).length<=20)(a b:Sl):∀(l es:List L4.D) (W:List Wy) (o e f i c:Sl),vV es->W.length+l.length<=900->(∀w∈W,Ks T M w)->(W.map λw=>[w.r,w.w]).Nodup->
  ∃(m:List L4.D) (p:List Wy) (S z A B j:Sl),vV m/\p.length<=W.length+l.length/\(∀w∈p,Ks T M w)/\(p.map λw=>[w.r,w.w]).Nodup/\
   fu (gN 6) wB l [.pm es,a,b,.z (.bt ((k? T).map D.str)),.z (.bt ((P' T M).map oS)),.O (W.map n9),o,e,f,i,c]=Z (.nx [.pm m,a,b,.z (.bt ((k? T).map D.str)),.z (.bt ((P' T M).map oS)),.O (p.map n9),S,z,A,B,j])
 |[],es,W,o,e,f,i,c,h,_,ok,q=>⟨es,W,o,e,f,i,c,h,aN _,ok,q,O⟩
 |d::l,es,W,o,e,f,i,c,h,R,ok,q=>by rw[aM]at R;obtain⟨I,G,z,A,B,j,P,l1,x,t,x1⟩:=Vh E F ld h W (by omega) ok q a b (.z d) e f i c;obtain⟨N,H,U,X,Y,u9,C,Q,l2,y,u,x2⟩:=Lq E F ld a b l I G (.z d) z A B j P (by omega) x t;refine⟨N,H,U,X,Y,u9,C,Q,by rw[aM];omega,y,u,?_⟩;unfold fu;rw[show gN 6 d [.pm es,a,b,.z (.bt ((k? T).map D.str)),.z (.bt ((P' T M).map oS)),.O (W.map n9),o,e,f,i,c]=Z [.pm es,a,b,.z (.bt ((k? T).map D.str)),.z (.bt ((P' T M).map oS)),.O (W.map n9),.z d,e,f,i,c] from O];simp only[x1];exact x2
def ad7(M:List Mk)(K:aE):([D.E,.E]++M.map λm=>D.str m.n)++K.map D.str=.E::.E::((M.map Mk.n++K).map Z).map oS:=by simp[oS,Function.comp_def]
def XM(hT:T.length<=13)(hM:M.length<=4)(F:k? T≠[])(h:vV es):∃W j,DQ es [TD T,MD M]=Z (WD W,j)/\vV j/\W.length<=8/\(∀w∈W,Ks T M w)/\(W.map λw=>[w.r,w.w]).Nodup:=by
 let A:Sl:=.z (TD T);let B:Sl:=.z (MD M);let U:Sl:=.un;let RM:Sl:=.z (.bt ((k? T).map D.str));let DR:Sl:=.z (.bt ((P' T M).map oS));let K:=(T.filter λt=>t.k.mk).map Th.n;have lK:K.length<=13:=by show (dH Th.n _).length<=13;rw[ag];exact bG (cu _ _) hT
 have H:(k? T).length<=13:=by unfold k?;rw[ag];exact bG (cu _ _) hT
 have ld:(P' T M).length<=20:=by unfold P';rw[aM,aM,ag,aC,ag];show M.length+K.length+1+1<=20;omega
 obtain⟨d,p,P,N,X,C⟩:=K? (i:=0) (b:=9) (a:=cC (.int 9)) (λes=>[.pm es,A,B,RM,DR,.O [],U,U,U,U,U]) (λ_=>O) (λ_ _=>O) O h (by decide) (by decide);obtain⟨n,rfl⟩:=cE N;obtain⟨o,W,q,u,x,y,l,E,lW,ok,I,Q⟩:=Lq F H ld A B ((aZ n).map λk:Nat=>D.int (k:Nat)) p [] U U U U U C (by simp;omega) (λw G=>(by cases G)) .nil;rw[ag,cH]at lW;simp only[fF]at lW;refine⟨W,o,Gk (ρ:=[.pm o,A,B,RM,DR,.un,q,u,x,y,l]) O ?_ O,E,by omega,ok,I⟩;unfold DP;refine(uM (ρ':=[.pm es,A,B,RM,U,U,U,U,U,U,U]) ((uZ (vR (uN (g:=vz) (ds:=[TD T,.bt ((["room"]:aE).map D.str)]) (ρ1:=[.pm es,A,B,U,U,U,U,U,U,U,U]) O (zU T (by omega) ["room"] (λk=>decide (k=.room)) O6)))).t O)).t ?_;let f:aS:=[.pm es,A,B,RM,U,U,U,U,U,U,U];refine(uM (ρ':=[.pm es,A,B,RM,DR,U,U,U,U,U,U]) ((uZ (vR (w9 (xs:=[.E,.E]++M.map λm=>D.str m.n) (ys:=K.map D.str) (ρ1:=f) (ρ2:=f) ?_ ?_ ?_))).t ?_)).t ?_
 .exact vR (w9 (xs:=[.E,.E]) (ρ1:=f) O (vR (xG o3 (λm=>D.str m.n) M (ρ1:=f) O (by omega) λm _=>⟨[.z (o3 m)],[.z (o3 m)],O,O,O⟩)) (by rw[ag];show 2+M.length<=1000;omega))
 .exact vR (uN (g:=vz) (ds:=[TD T,.bt ((["box", "lamp"]:aE).map D.str)]) (ρ1:=f) O (zU T (by omega) ["box", "lamp"] Kd.mk U4))
 .rw[aC,ag,ag];show 2+M.length+K.length<=1000;omega
 .show Z (tz.nx [.pm es,A,B,RM,.z (.bt (([.E,.E]++M.map λm=>D.str m.n)++K.map D.str)),U,U,U,U,U,U])=_;rw[show ([.E,.E]++M.map λm=>D.str m.n)++K.map D.str=(P' T M).map oS from ad7 M K]
 refine(uM (ρ':=[.pm es,A,B,RM,DR,.O [],U,U,U,U,U]) O).t ?_;exact(uM (ρ':=[.pm o,A,B,RM,DR,.O (W.map n9),q,u,x,y,l]) ((wF (Vc (ρ1:=[.pm p,A,B,RM,DR,.O [],U,U,U,U,U]) P (by omega))).t Q)).t O
end
def acg:((aZ 7).all λa=>(aZ 8).all λn=>decide (X1++("me" : Str)::((aZ n).map λk=>(Ku ((k+a) % 7)).1)++mkL).Nodup)=γ:=by kernel_rfl
def R9{a:Type}(l:List a)(j:Nat):(l.drop j++l.take j).Perm l:=(List.perm_append_comm).t (by rw[List.take_append_drop])
def Vi{T:List Th}(p:T.Perm T0)(h:Mr T0 t):D7 T t:=by
 have i:∀u∈T0,u.k=.room->u.n∈k? T:=λu a f=>cG (aW.2 ⟨p.mem_iff.2 a,aU f⟩);have e:∀u∈T0,u.k.hd=γ->u.n∈qs T:=λu a f=>cG (aW.2 ⟨p.mem_iff.2 a,f⟩);obtain⟨n,w,k,s⟩:=t;rcases h with ⟨b,c⟩|⟨b,u,a,c,d⟩|⟨b,u,a,c,d⟩
 .simp only at b c;subst b c;exact trivial
 .simp only at b c;subst b c;exact i u a d
 .simp only at b c;subst c;cases k with
  |room=>cases b
  |you=>cases b
  |plain=>exact e u a d
  |fixed=>exact e u a d
  |box=>exact e u a d
  |lamp=>exact e u a d
structure Base(T:List Th):Prop where
 len:T.length<=13
 r1:1<=(T.filter λt=>decide (t.k=.room)).length
 r5:(T.filter λt=>decide (t.k=.room)).length<=5
 y1:(T.filter λt=>decide (t.k=.you)).map Th.n=(["me"]:aE)
 p7:(T.filter λt=>t.k.pl).length<=7
 nd:∀m,(T.map Th.n++mkL.take m).Nodup
 nm:∀x∈T.map Th.n,Nm x
 st:∀t∈T,D7 T t
 rk:∃r,Mq T r
 wd:∀t∈T,D8 t
def XN(d:Pa T0)(j:Nat):Base (T0.drop j++T0.take j):=by
 have p:=R9 T0 j;obtain⟨r,w,n,y,P,N,Q,b,H,l,eP,hP⟩:=d.ex;let R:=(X1.take r).map Z';let c:Th:=⟨"me", ["me", "self"],.you,Z y⟩;have lR:R.length=r:=by show ((X1.take r).map Z').length=r;rw[ag,bY];show min r 5=r;omega
 have lP:P.length=n:=by have:=bH dh eP;rw[ag,ag,cH]at this;exact this
 have i:∀t∈R,t.k=.room:=λt h=>by obtain⟨x,_,rfl⟩:=au.1 h;rfl
 have spl:∀p:Th->Bool,T0.filter p=R.filter p++((if p c=γ then [c]else [])++P.filter p):=λp=>by rw[l,List.filter_append,fY];show R.filter p++(if p c=γ then c::P.filter p else P.filter p)=_;split<;>rfl
 have all_:∀(p:Kd->Bool) (L:List Th),(∀t∈L,p t.k=γ)->L.filter (λt=>p t.k)=L:=λp L h=>oU.2 h;have non_:∀(p:Kd->Bool) (L:List Th),(∀t∈L,p t.k=δ)->L.filter (λt=>p t.k)=[]:=λp L h=>oq.2 λt b z=>by rw[h t b]at z;cases z
 have plk:∀k:Kd,k.pl=γ->decide (k=.room)=δ/\decide (k=.you)=δ:=JW (λz=>by cases z) (λz=>by cases z) (λ_=>⟨O,O⟩) (λ_=>⟨O,O⟩) (λ_=>⟨O,O⟩) (λ_=>⟨O,O⟩);have fr:T0.filter (λt=>decide (t.k=.room))=R:=by rw[spl,all_ (λk=>decide (k=.room)) R λt h=>by rw[i t h];rfl,non_ (λk=>decide (k=.room)) P λt h=>(plk t.k (hP t h)).1];exact bS R
 have E:T0.filter (λt=>decide (t.k=.you))=[c]:=by rw[spl,non_ (λk=>decide (k=.you)) R λt h=>by rw[i t h];rfl,non_ (λk=>decide (k=.you)) P λt h=>(plk t.k (hP t h)).2];rfl
 have C:T0.filter (λt=>t.k.pl)=P:=by rw[spl,non_ Kd.pl R λt h=>by rw[i t h];rfl,all_ Kd.pl P hP];rfl
 have eN:T0.map Th.n=X1.take r++("me" : Str)::(aZ n).map λk=>(Ku ((k+w) % 7)).1:=by
  rw[l,bz,aI];have A:((X1.take r).map Z').map Th.n=X1.take r:=by rw[bc];exact hJ _
  have B:P.map Th.n=(aZ n).map λk=>(Ku ((k+w) % 7)).1:=by have:=bH (dH cQ) eP;rw[bc,bc]at this;exact this
  rw[A,B]
 have big:=bF (aQ.1 (aQ.1 acg w (bN.2 b)) n (bN.2 H));have wP:∀t∈P,t.nw∈tf:=λt h=>by have o:t.nw∈P.map Th.nw:=cG h;rw[eP]at o;obtain⟨k,_,e⟩:=au.1 o;rw[<-e];exact(Vg (gq _ (by decide))).1
 have S:∀t∈T0,D8 t:=λt h=>by
  rw[l]at h;rcases aV.1 h with h|h
  .obtain⟨x,a,rfl⟩:=au.1 h;exact⟨bJ _ (au.2 ⟨x,iC a,O⟩),λz=>by cases z⟩
  .rcases aO.1 h with rfl|h
   .exact⟨bA _ aX,λz=>by cases z⟩
   .exact⟨bA _ (ba _ (wP t h)),λ_=>wP t h⟩
 have f:∀m,(T0.map Th.n++mkL.take m).Nodup:=λm=>by rw[eN];exact big.sublist (((iI r X1).append (uH _)).append (iI m mkL))
 constructor
 .rw[p.length_eq,l,aC,aM,ag,bY,lP];show min r 5+(n+1)<=13;omega
 .rw[(p.filter _).length_eq,fr,lR];exact N
 .rw[(p.filter _).length_eq,fr,lR];exact Q
 .have:=p.filter λt=>decide (t.k=.you);rw[E]at this;rw[List.perm_singleton.1 this];rfl
 .rw[(p.filter _).length_eq,C,lP];omega
 .intro m;exact((p.map _).append_right _).nodup_iff.2 (f m)
 .intro x a;have a:=(p.map Th.n).mem_iff.1 a;rw[eN]at a;rcases aV.1 a with a|a
  .exact bJ _ (bJ _ (iC a))
  .refine bJ _ (bA _ ?_);rcases aO.1 a with rfl|a
   .exact aX
   .obtain⟨k,_,rfl⟩:=au.1 a;exact ba _ (cG (Vg (gq _ (by decide))).1)
 .intro t b;exact Vi p (d.kx.all t (p.mem_iff.1 b))
 .obtain⟨i,h⟩:=d.kx.rank (cn.1 (f 0)).1;refine⟨i,λt b=>?_⟩;obtain⟨o,F⟩:=h t (p.mem_iff.1 b);refine⟨by rw[p.length_eq];exact o,λq I=>?_⟩;obtain⟨G,u,M,e⟩:=F q I;exact⟨G,u,p.mem_iff.2 M,e⟩
 .exact λt b=>S t (p.mem_iff.1 b)
theorem Lr(ey:aS):∀(l:aE) (es:List L4.D),vV es->∃(f:aE) (j:List L4.D),f.Sublist l/\vV j/\
  Av 1 [0] (gN 0) (cT (c2 (fb δ) (vK uP 1 gA) aP)) aa (l.map D.str) (.pm es::ey)=Z (f.map D.str,.pm j::ey)
 |[],es,h=>⟨[],es,.slnil,h,O⟩
 |x::l,es,h=>by
  obtain⟨d,e,u,w,z,t⟩:=K? (i:=1) (b:=3) (a:=cC (.int 3)) (λes=>[.z (.str x),.pm es]) (λ_=>O) (λ_ _=>O) O h (by decide) (by decide);obtain⟨f,o,q,p,r⟩:=Lr ey l e t;have m:cT (c2 (fb δ) (vK uP 1 gA) aP) [.z (.str x),.pm es]=Z (decide (d=0),[.z (.str x),.pm e]):=v5 (uY (x:=.int d) (y:=.int 0) u O (yH δ d 0));rw[aI];unfold Av;rw[show gN 0 (.str x) (Fb 1 [0] (.pm es::ey))=Z [.z (.str x),.pm es] from O];by_cases c:d=0
  .rw[aU c]at m;refine⟨x::f,o,q.cons_cons x,p,?_⟩;simp only[m,show cV 0 [.z (.str x),.pm e]=Z (.str x,[.z (.str x),.pm e]) from O];rw[show yD [0] (([.z (.str x),.pm e]:aS).drop 1) (.pm es::ey)=Z (.pm e::ey) from O];simp only[r];rfl
  .rw[aT c]at m;refine⟨f,o,q.cons x,p,?_⟩;simp only[m];rw[show yD [0] (([.z (.str x),.pm e]:aS).drop 1) (.pm es::ey)=Z (.pm e::ey) from O];exact r
def XO(h:vV es):∃(T:List Th) (M:List Mk) (dk:aE) (W:List Wy) (t n:Nat) (R p:List L4.D),ff T M dk W/\t<6/\n<7/\R.length<=12/\(∀r∈R,RuQ T M (vL t n) (gk T M dk W (vL t n)) r)/\Bh es [.int 12]=Z (.bt [TD T,MD M,.bt (dk.map D.str),WD W,VD (vL t n),.bt R],p):=by
 obtain⟨T0,j,e,d0,X,H,w⟩:=R8 h;let T:=T0.drop j++T0.take j;have b:Base T:=XN d0 j;obtain⟨M,f,I,y,mo,m,eM⟩:=Vf w;have lM:M.length<=4:=by have:=bH dh eM;rw[ag,bY]at this;rw[this];exact pS _ _
 let A:Sl:=.z (TD T);let B:Sl:=.z (MD M);let AT:Sl:=.z (.int 12);obtain⟨dk,i,sl,C,N⟩:=Lr [AT,A,B,.un,.un,.un] (k? T) f y;let DK:Sl:=.z (.bt (dk.map D.str));have rne:k? T≠[]:=λz=>by have:=b.r1;unfold k? at z;rw[kU]at z;rw[z]at this;exact aq this (by decide)
 obtain⟨W,l,P,E,lW,okW,ndW⟩:=XM b.len lM rne C;obtain⟨t,n,o,u,hn,Q,F⟩:=Ve E;have rmnd:(k? T).Nodup:=(kT.map Th.n).nodup (cn.1 (b.nd 0)).1;have g:ff T M dk W:={
  len:=b.len,r1:=b.r1,r5:=b.r5,y1:=b.y1,p7:=b.p7,m4:=lM,mo:=mo
  nm:=λx d=>by
   rcases aV.1 d with d|d
   .exact b.nm x d
   .rw[eM]at d;exact bA _ (iC d)
  nd:=by rw[eM];exact b.nd m
  st:=b.st,rk:=b.rk,wd:=b.wd
  d0:=bG sl.length_le (by unfold k?;rw[ag];exact b.r5)
  d1:=rmnd.sublist sl
  d2:=λx d=>sl.subset d
  w8:=lW,wo:=okW,wn:=ndW }
 obtain⟨R,q,S,U,lR,ok⟩:=Vd (V:=vL t n) g (λv G=>Mx G) (JP t n) (Qn u hn) F;refine⟨T,M,dk,W,t,n,R,q,g,u,hn,lR,ok,?_⟩;let WS:Sl:=.z (WD W);let VS:Sl:=.z (VD (vL t n));have Y:T.length<=13:=b.len;refine Gk (ρ:=[.pm q,AT,A,B,DK,WS,VS]) O ?_ O;unfold DT;refine(uM (ρ':=[.pm e,AT,A,.un,.un,.un,.un]) ((uZ (yP (es0:=es) (es:=es) (ds:=[]) (ρ1:=[.pm es,AT,.un,.un,.un,.un,.un]) O O O H)).t O)).t ?_;refine(uM (ρ':=[.pm f,AT,A,B,.un,.un,.un]) ((uZ (yP (es0:=e) (es:=e) (ds:=[]) (ρ1:=[.pm e,AT,A,.un,.un,.un,.un]) O O O I)).t O)).t ?_;refine(uM (ρ':=[.pm i,AT,A,B,DK,.un,.un]) ((uZ (vR ((Fi (ds:=(k? T).map D.str) (ρ1:=[.pm f,AT,A,B,.un,.un,.un]) ?_ (by rw[ag];unfold k?;rw[ag];have:=b.r5;omega)).t N))).t O)).t ?_
 .unfold iL;rw[vR (uN (g:=vz) (ds:=[TD T,.bt ((["room"]:aE).map D.str)]) (ρ1:=[.pm f,AT,A,B,.un,.un,.un]) O (zU T (by omega) ["room"] (λk=>decide (k=.room)) O6))];rfl
 refine(uM (ρ':=[.pm l,AT,A,B,DK,WS,.un]) ((uZ (yP (es0:=i) (es:=i) (ds:=[TD T,MD M]) (ρ1:=[.pm i,AT,A,B,DK,.un,.un]) O O O P)).t O)).t ?_;refine(uM (ρ':=[.pm o,AT,A,B,DK,WS,VS]) ((uZ (yP (es0:=l) (es:=l) (ds:=[]) (ρ1:=[.pm l,AT,A,B,DK,WS,.un]) O O O Q)).t O)).t ?_;exact xn (TN (uL O (uL O (uL O (uL O (uL O (uL ((yP (es0:=o) (es:=o) (ds:=[TD T,MD M,VD (vL t n),.int 12]) (ρ1:=[.pm o,AT,A,B,DK,WS,VS]) O O O S).t O) O)))))) (by show 6<=1000;decide))
def wtL(w:Wy):List L4.D:=[atO "me" w.r,woO w.w]++match w.m with|none=>[]|some m=>[noO (mkO m 0)]
def goO(w:Wy):L4.D:=n? "go" (wtL w) [M? "me" w.g] "You go." δ
def A21:List L4.D:=(Cq [.str "me"]).getD []++(DB []).getD []++(DC []).getD []++(Bu []).getD []
def SH(W:List Wy):List L4.D:=A21++(W.map goO++[n? "go" [] [] "No way there." γ])++[n? "wait" [] [] "Time goes by." δ]
def ad8(w:Wy):DD [.str "me", n9 w]=Z (wtL w):=by obtain⟨r,x,g,m⟩:=w;cases m<;>kernel_rfl
def XQ(w:Wy):AJ [.str "go", .bt (wtL w),.bt [M? "me" w.g],.str "You go."]=Z (goO w):=by kernel_rfl
def ad9(W:List Wy)(f:W.length<=8):EJ [.str "me", WD W]=Z (W.map goO++[n? "go" [] [] "No way there." γ]):=by
 let c:aS:=[.z (.str "me"),.z (WD W),.un];let b:aS:=[.z (.str "me"),.z (WD W),.z (.bt (W.map goO))];refine zZ (ρ:=b) O ?_;unfold EI;refine(uM (ρ':=b) ((uZ (vR (xG n9 goO W (ρ1:=c) O (by omega) λw _=>⟨[.z (n9 w),.z (.str "me")],[.z (n9 w),.z (.str "me")],O,?_,O⟩))).t O)).t ?_
 .exact uN (ds:=[.str "go", .bt (wtL w),.bt [M? "me" w.g],.str "You go."]) (uL O (uL (vR (uN (ds:=[.str "me", n9 w]) O (ad8 w))) (uL O (uL O O)))) (XQ w)
 .exact xn (w9 (xs:=W.map goO) (ys:=[n? "go" [] [] "No way there." γ]) (ρ1:=b) O (by kernel_rfl) (by rw[ag];show W.length+1<=1000;omega))
def Qw:A21.length<=50:=iA (by kernel_rfl)
def Vj{W:List Wy}(a:W.length<=8):(SH W).length<=100:=by have:=Qw;unfold SH;rw[aC,aC,aC,ag];show A21.length+(W.length+1)+1<=100;omega
def Ls(W:List Wy)(c:W.length<=8):zh [.str "me", WD W]=Z (SH W):=by
 have:=Qw;let a:aS:=[.z (.str "me"),.z (WD W)];refine zZ (ρ:=a) O (xn (w9 (xs:=A21++(W.map goO++[n? "go" [] [] "No way there." γ])) (ys:=[n? "wait" [] [] "Time goes by." δ]) (ρ1:=a) (vR (w9 (xs:=A21) (ρ1:=a) (by kernel_rfl) (vR (uN (ds:=[.str "me", WD W]) O (ad9 W c))) ?_)) (by kernel_rfl) ?_))
 .rw[aC,ag];show A21.length+(W.length+1)<=1000;omega
 .rw[aC,aC,ag];show A21.length+(W.length+1)+1<=1000;omega
def YA(W:List Wy):∀d∈SH W,gK d=γ:=λd hd=>by
 unfold SH at hd;rcases aV.1 hd with hd|hd
 .rcases aV.1 hd with hd|hd
  .exact aQ.1 (show A21.all gK=γ by kernel_rfl) d hd
  .rcases aV.1 hd with hd|hd
   .obtain⟨w,_,rfl⟩:=au.1 hd;obtain⟨r,x,g,m⟩:=w;cases m<;>kernel_rfl
   .rw[bp.1 hd];kernel_rfl
 .rw[bp.1 hd];kernel_rfl
def ach(h:gK d=γ):w? 16 14 d=γ:=by unfold gK at h;rw[aY]at h;exact h.2
section
variable{T:List Th}{M:List Mk}{dk:aE}{W:List Wy}{V:List Vb}{R:List L4.D}
def wA(T:List Th)(M:List Mk)(dk:aE)(W:List Wy)(V:List Vb)(R:List L4.D)(c:L4.D):List L4.D:=[TD T,MD M,.bt (dk.map D.str),WD W,VD V,VD v9,.str "me", .Q (nK T) (T.map et),mD T M,vwD (V++v9),.bt R,.bt (SH W),.bt R,c]
def wS(T:List Th)(M:List Mk)(dk:aE)(W:List Wy)(V:List Vb)(R:List L4.D)(c:L4.D)(q:Sl)(k:Nat):aS:=[.ob 14 (t?.take k) ((wA T M dk W V R c).take k),.z (TD T),.z (MD M),.z (.bt (dk.map D.str)),.z (WD W),.z (VD V),.z (.bt R),q]
def N0{r:aS}(b:e (.z (.obj 14 a ds)::r.map Bk)=Z (d,r'))(c:w? 16 14 d=γ):Ef 16 e (.ob 14 a ds::r)=Z (d,.ob 14 a ds::r):=by unfold Ef;simp only[b,c];rfl
def J1(c:e (.ob 14 a ds::r)=Z (d,.ob 14 a ds::r))(f:a.contains b=δ)(h:ds.length=a.length)(i:a.length<900):vX 14 0 b e (.ob 14 a ds::r)=Z (.nx (.ob 14 (a++[b]) (ds++[d])::r)):=by unfold vX;rw[c];show (if 14=14 then if a.contains b=γ then J else if ds.length=a.length then if a.length<900 then Z (tz.nx (.ob 14 (a++[b]) (ds++[d])::r))else J else J else J)=_;rw[aj O,f,ao bu,aj h,aj i]
def F9(V:List Vb)(lV:V.length<=6)(a b c d:L4.D)(e:aE)(ds:List L4.D):ya [.obj 14 ("kept_things" ::"kept_marks" ::"kept_dark" ::"kept_ways" ::"kept_verbs" ::"shared_verbs" ::e) (a::b::c::d::VD V::VD v9::ds)]=Z (VD (V++v9)):=by refine(Gr (ρ:=[.z (.obj 14 ("kept_things" ::"kept_marks" ::"kept_dark" ::"kept_ways" ::"kept_verbs" ::"shared_verbs" ::e) (a::b::c::d::VD V::VD v9::ds))]) O (xn (w9 (xs:=V.map ki) (ys:=v9.map ki) O O (by rw[ag];show V.length+9<=1000;omega)))).t ?_;rw[<-bz]
def aci(b:∀v∈V,v∈v6):w? 16 14 (vwD (V++v9))=γ:=by
 show z4 16 14 _=γ;refine BX _ λd hd=>?_;obtain⟨v,a,hd⟩:=dP.1 hd;obtain⟨x,_,rfl⟩:=au.1 hd;refine aQ.1 (show ((v6++v9).all λv=>w? 16 14 (ki v))=γ by kernel_rfl) v ?_;rcases aV.1 a with a|a
 .exact bJ _ (b v a)
 .exact bA _ a
def Vk(g:ff T M dk W)(p:t<6)(o:n<7)(hR:∀r∈R,RuOk (gk T M dk W (vL t n)) r)(lR:R.length<=12):∃f dss,zm [TD T,MD M,.bt (dk.map D.str),WD W,VD (vL t n),.bt R]=Z (t?,wA T M dk W (vL t n) R (.Q f (dss.map .bt)))/\∀j,gl f dss j=(R++SH W).filter λd=>decide (kv d=j):=by
 have I:=Vj g.w8;have H:=g.len;let V:=vL t n;have lV:V.length<=6:=JP t n;have C:∀d∈R++SH W,gK d=γ:=λd hd=>by
  rcases aV.1 hd with hd|hd
  .exact(hR d hd).g
  .exact YA W d hd
 obtain⟨f,dss,y,z,A⟩:=Va (R++SH W) [] [] C O (by rw[aC];simp only[fF];omega) λb h=>(by cases h);let c:L4.D:=.Q f (dss.map .bt);refine⟨f,dss,?_,λj=>(z j).t (cw _)⟩;let B:Sl:=.z (.I γ);have G:w? 16 14 c=γ:=by show z4 16 14 (dss.map .bt)=γ;exact BX _ λd hd=>by obtain⟨b,h,rfl⟩:=au.1 hd;exact A b h
 let S:=wS T M dk W V R c;have e:zl (S .un 0)=Z (.nx (S B 14)):=by
  unfold zl;refine(uM (ρ':=S .un 0) (wm (uN (ds:=[TD T,MD M,.bt (dk.map D.str),WD W,VD V,VD v9]) (uL O (uL O (uL O (uL O (uL O (uL (vR (uN (ds:=[]) O UU)) O)))))) (JT g p o)))).t ?_;refine(uM (ρ':=S .un 1) (by kernel_rfl)).t ((uM (ρ':=S .un 2) (by kernel_rfl)).t ((uM (ρ':=S .un 3) (by kernel_rfl)).t ((uM (ρ':=S .un 4) (by kernel_rfl)).t ((uM (ρ':=S .un 5) (by kernel_rfl)).t ((uM (ρ':=S .un 6) (by kernel_rfl)).t ?_)))));have eY:((T.filter λt=>decide (t.k=.you)).map λt=>D.str t.n)=[.str "me"]:=by rw[show (λt:Th=>D.str t.n)=D.str∘Th.n from O,<- bc,g.y1];rfl
  refine(uM (ρ':=S .un 7) (J1 (r:=(S .un 6).tail) (N0 (d:=.str "me") (r':=(.z (.obj 14 (t?.take 6) ((wA T M dk W V R c).take 6)))::((S .un 6).tail).map Bk) (uY (x:=.bt [.str "me"]) (vB (xs:=(wA T M dk W V R c).take 6) (ys:=[.str Kd.you.s]) (hh:=Aa) O O O O ((JU T (by omega) _ _ .you).t (by rw[eY]))) O O) O) O O (by decide))).t ?_;refine(uM (ρ':=S .un 8) (J1 (r:=(S .un 7).tail) (uN (ds:=[TD T]) O (O4 T (by omega) g.B')) O O (by decide))).t ?_;refine(uM (ρ':=S .un 9) (J1 (r:=(S .un 8).tail) (uN (ds:=[TD T,MD M]) O (UV g)) O O (by decide))).t ?_;refine(uM (ρ':=S .un 10) (J1 (r:=(S .un 9).tail) (N0 (r':=(.z (.obj 14 (t?.take 9) ((wA T M dk W V R c).take 9)))::((S .un 9).tail).map Bk) (uN (ds:=[VD (V++v9)]) (uL (vB (xs:=(wA T M dk W V R c).take 9) (ys:=[]) (hh:=ya) O O O O (F9 V lV _ _ _ _ _ _)) O) (adV p o)) (aci λv F=>Mx F)) O O (by decide))).t ?_;refine(uM (ρ':=S B 10) ((uZ (i:=7) (ρ':=S .un 10) (N0 (d:=.I γ) (r:=(S .un 10).tail) ((vn (ρ1:=.z (gk T M dk W V)::(S .un 10).tail) (uN (uL O (uL O O)) (Qo _ _ (by omega)))).t (zI id R (by rw[hJ];rfl) (by omega) λr l=>?_)) O)).t O)).t ?_
  .exact⟨[.z r,.z (gk T M dk W V)],[.z r,.z (gk T M dk W V)],O,uN (ds:=[gk T M dk W V,r]) O (hR r l).r,O⟩
  refine(uM (ρ':=S B 10) (by kernel_rfl)).t ((uM (ρ':=S B 11) (by kernel_rfl)).t ?_);refine(uM (ρ':=S B 12) (J1 (r:=(S B 11).tail) (N0 (d:=.bt (SH W)) (r':=(.z (.obj 14 (t?.take 11) ((wA T M dk W V R c).take 11)))::((S B 11).tail).map Bk) (vR (uN (ds:=[.str "me", WD W]) O (Ls W g.w8))) (BX _ λd hd=>ach (YA W d hd))) O O (by decide))).t ?_;refine(uM (ρ':=S B 13) (J1 (r:=(S B 12).tail) ((vR (xG (ρ1:=S B 12) id id R (by rw[hJ];rfl) (by omega) λr l=>⟨[.z r],[.z r],O,uN (ds:=[r]) O (hR r l).c,O⟩)).t (by rw[hJ];rfl)) O O (by decide))).t ?_;refine J1 (r:=(S B 13).tail) (N0 (uN (ds:=[.bt (R++SH W)]) (uL (vR (w9 (xs:=R) (ys:=SH W) O O (by omega))) O) (r:=c) ?_) G) O O (by decide);refine uR (ρ:=[.z (.bt (R++SH W)),.un,.un]) O ?_;show (match Dm (uU xV "verb") (R++SH W) [] []with
   |some (f,dss)=>Z (tz.rt (.Q f (dss.map .bt)) [.z (.bt (R++SH W)),.un,.un])
   |none=>J)=_
  rw[y]
 unfold zm xo;rw[aj (show [TD T,MD M,.bt (dk.map D.str),WD W,VD V,.bt R].length=6 from O)];rw[show zl (stI 14 8 [TD T,MD M,.bt (dk.map D.str),WD W,VD V,.bt R])=Z (.nx (S B 14)) from e];rfl
end
theorem GR:∀l:aE,Eg (l.map D.str)=Z l
 |[]=>rfl
 |x::l=>by rw[aI];unfold Eg;rw[GR l]
def w3:aE:=["north", "outside", "up"]
def S?(W:List Wy):aE:=w3.filter λx=>decide (x∈W.map Wy.w)
def XR(h:∀x∈l,x∈w3):zt (y' l)=w3.filter λx=>decide (x∈l):=by
 have d:w3.Nodup:=by decide
 have p3:w3.Pairwise λa b=>J? a b=γ:=by decide
 refine kH (λa b _ _=>Jk a b) (ju Jj Ip _) (p3.filter _) ((gO _ J?).t ((List.perm_ext_iff_of_nodup (OW l) (kT.nodup d)).2 λx=>?_));rw[Ml,aW,bT];exact⟨λc=>⟨h x c,c⟩,λc=>c.2⟩
section
variable{T:List Th}{M:List Mk}{dk:aE}{W:List Wy}{V:List Vb}{R:List L4.D}{c:L4.D}
def wO(T:List Th)(M:List Mk)(dk:aE)(W:List Wy)(V:List Vb)(R:List L4.D)(c:L4.D):L4.D:=.obj 14 t? (wA T M dk W V R c)
def N1(i:W.length<=8)(b:∀w∈W,w.w∈(["north", "up", "outside"]:aE)):zp [wO T M dk W V R c]=Z (.bt ((S? W).map D.str)):=by
 let a:aS:=[.z (wO T M dk W V R c)];refine Gr (ρ:=a) O (xn ?_);have e:cL (u5 1 [] (iL (c1 (uU Bm "kept_ways") aa)) (gN 0) vP (c2 f? aa aL)) a=Z (.bt ((W.map Wy.w).map D.str),a):=(vR (xG n9 (λw=>.str w.w) W (ρ1:=a) O (by omega) λw _=>⟨[.z (n9 w)],[.z (n9 w)],O,O,O⟩)).t (by rw[bc];rfl);show u? _ a=_;unfold u?;rw[e];dsimp only;rw[GR];dsimp only;rw[aj (by rw[ag];omega),XR λx d=>?_]
 .rfl
 .obtain⟨w,h,rfl⟩:=au.1 d;exact(show ∀x∈(["north", "up", "outside"]:aE),x∈w3 by decide) _ (b w h)
def rh(T:List Th):aE:=(T.filter λt=>t.k.pl).map Th.n
def N2(T:List Th)(d:T.length<=13):Bv [wO T M dk W V R c]=Z (.bt (T.map λt=>.str t.n)):=by let a:aS:=[.z (wO T M dk W V R c)];exact Gr (ρ:=a) O (xn (xG et (λt=>.str t.n) T (ρ1:=a) O (by omega) λt _=>⟨[.z (et t)],[.z (et t)],O,O,O⟩))
def GT(e:f ρ=Z (.X ds ρ')):uQ f h ρ=Z (.X ds ρ'):=by unfold uQ;rw[e]
def obF(N d:aE)(f:Str):List (L4.D×L4.D):=if f="alone" then [(.E,.E)]else if f="way" then d.map λx=>(.str x,.E)else if f="one" then N.map λx=>(.str x,.E)else N.flatMap λa=>N.map λb=>(.str a,.str b)
def p2(q:L4.D×L4.D):L4.D:=.d? [q.1,q.2]
def p3(v:Str)(q:L4.D×L4.D):L4.D:=.d? [.str v,q.1,q.2]
theorem Qx(N:aE)(hN:N.length<=7):∀l:aE,(l.flatMap λa=>N.map λb=>(D.str a,D.str b)).length<=7 * l.length
 |[]=>aN _
 |a::l=>by rw[fz,aC,ag,aM];have:=Qx N hN l;omega
def Pb(W:List Wy):(S? W).length<=3:=bG (cu _ _) (aN 3)
def Vl{N a:aE}(hN:N.length<=7)(hD:a.length<=3)(f:Str):(obF N a f).length<=49:=by
 unfold obF;split
 .decide
 .split
  .rw[ag];omega
  .split
   .rw[ag];omega
   .have:=Qx N hN N;omega
theorem N3{x:Sl}(N:aE)(hN:N.length<=7):∀(l:aE) (acc:List (L4.D×L4.D)) (s:Sl),acc.length+7 * l.length<=900->∃f,fu (gN 4) (vJ (HX 3 (u5 1 [4] (iL ak) (gN 0) vP (vE eZ)))) (l.map D.str) [a,b,.z (.bt (N.map D.str)),.O (acc.map p2),s]=Z (.nx [a,b,.z (.bt (N.map D.str)),.O ((acc++l.flatMap λa=>N.map λb=>(D.str a,D.str b)).map p2),f])
 |[],acc,s,_=>⟨s,by rw[List.flatMap_nil,bS];rfl⟩
 |y::l,acc,s,p=>by rw[aM]at p;let Q:Sl:=.z (.bt (N.map D.str));let Y:Sl:=.z (.str y);let nw:List (L4.D×L4.D):=N.map λb=>(D.str y,D.str b);obtain⟨f,e⟩:=N3 (a:=a) (b:=b) (x:=x) N hN l (acc++nw) Y (by rw[aC];show acc.length+(N.map _).length+7 * l.length<=900;rw[ag];omega);refine⟨f,?_⟩;rw[aI];unfold fu;let d:aS:=[a,b,Q,.O (acc.map p2),Y];rw[show gN 4 (.str y) [a,b,Q,.O (acc.map p2),s]=Z d from O];have m:u5 1 [4] (iL ak) (gN 0) vP (vE eZ) d=Z (nw.map p2,d):=(xG D.str (λz=>.d? [.str y,.str z]) N (ρ1:=d) O (by omega) λz _=>⟨[.z (.str z),Y],[.z (.str z),Y],O,O,O⟩).t (by show _=Z ((N.map _).map p2,d);rw[bc];rfl);have j:vJ (HX 3 (u5 1 [4] (iL ak) (gN 0) vP (vE eZ))) d=Z (.nx [a,b,Q,.O ((acc++nw).map p2),Y]):=(wm (TQ (i:=3) (es0:=acc.map p2) (es:=acc.map p2) (ρ1:=d) O m O (by rw[ag,ag];show acc.length+(N.map _).length<=1000;rw[ag];omega))).t (by rw[bz];rfl);simp only[j];rw[e,fz,bX]
def Pc(g:ff T M dk W)(q:f∈p?):xS [wO T M dk W V R c,.str f]=Z ((obF (rh T) (S? W) f).map p2):=by
 have u:=g.len;let w:=wO T M dk W V R c;have lN:(rh T).length<=7:=by unfold rh;rw[ag];exact g.p7
 have ld:=Pb W;have nms:∀F:Sl,u5 1 [0] (iL (vg xJ "names" aa vC)) (gN 0) (cT (vg v8 "is_plainly" (vg vv "thing_of" ai bK) vC)) aa [.z w,F,.un,.un,.un]=Z ((rh T).map D.str,[.z w,F,.un,.un,.un]):=λF=>by
  let d:aS:=[.z w,F,.un,.un,.un];refine(zq (λt:Th=>D.str t.n) (λt=>.str t.n) (λt=>t.k.pl) T (ρ1:=d) ?_ (by omega) λt y=>⟨[.z (.str t.n),.z w],[.z (.str t.n),.z w],O,?_,λ_=>⟨_,O,O⟩,λ_=>O⟩).t (by unfold rh;rw[bc];rfl)
  .unfold iL;rw[vB (g:=xJ) (m:="names") (e:=cV 0) (a:=vC) (ρ:=d) (hh:=Bv) (xs:=wA T M dk W V R c) (ys:=[]) (ρ1:=d) (ρ2:=d) O O O O (N2 T u)]
  .have p:wI [w,.str t.n]=Z ((xu (nK T) (T.map et) (kS t.n)).getD .E):=by kernel_rfl
   rw[F5 g.B' et y]at p;refine v5 (vB (hh:=yT) (xs:=[.str t.n,.d? (t.w.map D.str),.str t.k.s,oS t.s]) (ys:=[]) (ρ1:=[.z (.str t.n),.z w]) (ρ2:=[.z (.str t.n),.z w]) ?_ O O O (F4 t));exact vB (hh:=wI) (xs:=wA T M dk W V R c) (ys:=[.str t.n]) (ρ1:=[.z (.str t.n),.z w]) (ρ2:=[.z (.str t.n),.z w]) O O O O p
 let NL:Sl:=.z (.bt ((rh T).map D.str));have r:∀F:Sl,vd 2 (cL (u5 1 [0] (iL (vg xJ "names" aa vC)) (gN 0) (cT (vg v8 "is_plainly" (vg vv "thing_of" ai bK) vC)) aa)) [.z w,F,.un,.un,.un]=Z (.nx [.z w,F,NL,.un,.un]):=λF=>(uZ (vR (nms F))).t O;simp only[p?,aO,cA,or_false]at q;rcases q with rfl|rfl|rfl|rfl
 .let d:aS:=[.z w,.z (.str "one"),NL,.un,.un];refine zZ (ρ:=d) O ?_;unfold yy;refine(vp O).t ((vp O).t ((uM (r _)).t (GT ((vb O).t (xn ((xG D.str (λx=>.d? [.str x,.E]) (rh T) (ρ1:=d) O (by omega) λx _=>⟨[.z (.str x)],[.z (.str x)],O,O,O⟩).t ?_))))));show _=Z (((rh T).map λx=>(D.str x,D.E)).map p2,d);rw[bc];rfl
 .obtain⟨A,e⟩:=N3 (a:=.z w) (b:=.z (.str "two")) (x:=.un) (rh T) lN (rh T) [] .un (by simp;omega);refine zZ (ρ:=[.z w,.z (.str "two"),NL,.un,A]) O ?_;unfold yy;refine(vp O).t ((vp O).t ((uM (r _)).t ((vp O).t ((uM (ρ':=[.z w,.z (.str "two"),NL,.O [],.un]) O).t ((uM ((wF (ds:=(rh T).map D.str) (ρ1:=[.z w,.z (.str "two"),NL,.O [],.un]) O).t e)).t ?_)))));rfl
 .refine zZ (ρ:=[.z w,.z (.str "alone"),.un,.un,.un]) O ?_;unfold yy;exact GT ((vb O).t O)
 .let d:aS:=[.z w,.z (.str "way"),.un,.un,.un];refine zZ (ρ:=d) O ?_;unfold yy;refine(vp O).t (GT ((vb O).t (xn ((xG D.str (λx=>.d? [.str x,.E]) (S? W) (ρ1:=d) ?_ (by omega) λx _=>⟨[.z (.str x)],[.z (.str x)],O,O,O⟩).t ?_))))
  .show iL _ d=_;unfold iL;rw[vB (g:=xX) (m:="way_words") (e:=cV 0) (a:=vC) (ρ:=d) (hh:=zp) (xs:=wA T M dk W V R c) (ys:=[]) (ρ1:=d) (ρ2:=d) O O O O (N1 g.w8 λw z=>(g.wo w z).hw)]
  .show _=Z (((S? W).map λx=>(D.str x,D.E)).map p2,d);rw[bc];rfl
end
def cmV(N a:aE)(v:Str×Str):List L4.D:=(obF N a v.2).map (p3 v.1)
def cmA(N a:aE)(Q:List (Str×Str)):List L4.D:=Q.flatMap (cmV N a)
theorem Vm{N a:aE}(hN:N.length<=7)(hD:a.length<=3):∀Q:List (Str×Str),(cmA N a Q).length<=49 * Q.length
 |[]=>aN _
 |q::Q=>by unfold cmA;rw[fz,aC,aM];have b:=Vm hN hD Q;have c:=Vl hN hD q.2;unfold cmA at b;unfold cmV at b ⊢;rw[ag];omega
section
variable{T:List Th}{M:List Mk}{dk:aE}{W:List Wy}{V:List Vb}{R:List L4.D}{c:L4.D}
theorem Qy(g:ff T M dk W):∀(L:List Vb) (acc:List L4.D) (s:Sl),(∀v∈L,v.f∈p?)->acc.length+49 * L.length<=900->∃d,fu (gN 2) (vJ (HX 1 (u5 2 [2] (iL (cL (vM xS km))) (gT j4 2) vP (vE ku)))) (L.map ki) [.z (wO T M dk W V R c),.O acc,s]=Z (.nx [.z (wO T M dk W V R c),.O (acc++cmA (rh T) (S? W) (L.map nf)),d])
 |[],acc,s,_,_=>⟨s,by show _=Z (tz.nx [_,.O (acc++[]),s]);rw[bS];rfl⟩
 |v::L,acc,s,h,o=>by
  rw[aM]at o;have lN:(rh T).length<=7:=by unfold rh;rw[ag];exact g.p7
  have lo:=Vl lN (Pb W) v.f;let w:=wO T M dk W V R c;let nw:List L4.D:=cmV (rh T) (S? W) (nf v);have x:nw.length<=49:=by show (dH _ _).length<=49;rw[ag];exact lo
  obtain⟨d,e⟩:=Qy g L (acc++nw) (.z (ki v)) (λu p=>h u (ba _ p)) (by rw[aC];omega);refine⟨d,?_⟩;rw[aI];unfold fu;let a:aS:=[.z w,.O acc,.z (ki v)];rw[show gN 2 (ki v) [.z (wO T M dk W V R c),.O acc,s]=Z a from O];have l:u5 2 [2] (iL (cL (vM xS km))) (gT j4 2) vP (vE ku) a=Z (nw,a):=by refine xG p2 (p3 v.n) (obF (rh T) (S? W) v.f) (ρ1:=a) ?_ (by omega) λq _=>⟨[.z q.1,.z q.2,.z (ki v)],[.z q.1,.z q.2,.z (ki v)],O,O,O⟩;unfold iL;rw[vR (uN (g:=xS) (ds:=[w,.str v.f]) (ρ1:=a) O (Pc g (h v aX)))]
  have j:vJ (HX 1 (u5 2 [2] (iL (cL (vM xS km))) (gT j4 2) vP (vE ku))) a=Z (.nx [.z w,.O (acc++nw),.z (ki v)]):=(wm (TQ (i:=1) (es0:=acc) (es:=acc) (ρ1:=a) O l O (by omega))).t O;simp only[j];rw[e,bX];rfl
def Vn(b:∀v∈V,v∈v6):∀v∈V++v9,v.f∈p?:=λv a=>v_fm (by
 rcases aV.1 a with a|a
 .exact bJ _ (b v a)
 .exact bA _ a)
def N4(g:ff T M dk W)(d:∀v∈V,v∈v6)(lV:V.length<=6):Cy [wO T M dk W V R c]=Z (cmA (rh T) (S? W) ((V++v9).map nf)):=by
 let w:=wO T M dk W V R c;have f:(V++v9).length<=15:=by rw[aC];show V.length+9<=15;omega
 obtain⟨h,e⟩:=Qy g (V:=V) (R:=R) (c:=c) (V++v9) [] .un (Vn d) (by simp only[fF];omega);refine zZ (ρ:=[.z w,.un,h]) O ?_;unfold EU;refine(uM (ρ':=[.z w,.O [],.un]) O).t ((uM ((wF (ds:=(V++v9).map ki) (ρ1:=[.z w,.O [],.un]) ?_).t e)).t O);unfold iL;rw[vB (g:=xW) (m:="all_verbs") (e:=cV 0) (a:=vC) (ρ:=[.z w,.O [],.un]) (hh:=ya) (xs:=wA T M dk W V R c) (ys:=[]) (ρ1:=[.z w,.O [],.un]) (ρ2:=[.z w,.O [],.un]) O O O O (F9 V lV _ _ _ _ _ _)]
end
def HU(h:e ρ=Z (.bt ds,ρ1)):iL e ρ=Z (ds,ρ1):=by unfold iL;rw[h]
abbrev Ky:=Str×Str
def kD(k:Ky):L4.D:=.d? [.str k.1,.str k.2]
def sD(P:List Ky)(v:Ky->L4.D):L4.D:=.d? (P.map λk=>.d? [kD k,v k])
def Qz(k j:Ky):fb δ (kD k) (kD j)=Z (.I (decide (k=j))):=by obtain⟨a,b⟩:=k;obtain⟨c,d⟩:=j;have e:Kg δ (.d? [.str a,.str b]) (.d? [.str c,.str d])=J:=rfl;have f:OD δ (.d? [.str a,.str b]) (.d? [.str c,.str d])=Z (.I (L3.nj (.d? [.str a,.str b]) (.d? [.str c,.str d]))):=rfl;unfold fb kD;rw[e];simp only;rw[f];congr 2;rw[c9];simp[L3.nj,L3.BG]
theorem J2(p:Sl)(k:Ky)(v:Ky->L4.D):∀(P:List Ky) (s:Sl),∃c,fu (gN 2) (fm (cT (c2 (fb δ) (c2 f? ak aP) ai)) (uV (c2 f? ak aL)) u4) (P.map λk=>.d? [kD k,v k]) [p,.z (kD k),s]=Z (if k∈P then .rt (v k) [p,.z (kD k),c]else .nx [p,.z (kD k),c])
 |[],s=>⟨s,by rw[ao cA];rfl⟩
 |q::P,s=>by
  let Q:Sl:=.z (.d? [kD q,v q]);have a:cT (c2 (fb δ) (c2 f? ak aP) ai) [p,.z (kD k),Q]=Z (decide (q=k),[p,.z (kD k),Q]):=v5 (uY (x:=kD q) (y:=kD k) O O (Qz _ _));rw[aI];unfold fu;rw[show gN 2 (.d? [kD q,v q]) [p,.z (kD k),s]=Z [p,.z (kD k),Q] from O];by_cases h:q=k
  .rw[aU h]at a;refine⟨Q,?_⟩;simp only[vb a];rw[aj (by rw[h];exact aX),<- h];rfl
  .rw[aT h]at a;obtain⟨c,d⟩:=J2 p k v P Q;refine⟨c,?_⟩;simp only[vI a,u4];rw[d];by_cases b:k∈P
   .rw[aj b,aj (ba _ b)]
   .rw[ao b,ao λz=>by rcases aO.1 z with z|z;exact h z.symm;exact b z]
def N5(P:List Ky)(v:Ky->L4.D)(k:Ky):Ct [sD P v,kD k]=Z (if k∈P then v k else .E):=by
 obtain⟨b,h⟩:=J2 (.z (sD P v)) k v P .un;by_cases a:k∈P
 .rw[aj a]at h ⊢;exact uR (ρ:=[.z (sD P v),.z (kD k),b]) O (uW ((wF O).t h))
 .rw[ao a]at h ⊢;exact uR (ρ:=[.z (sD P v),.z (kD k),b]) O ((uM ((wF O).t h)).t O)
def up(v:Ky->L4.D)(k:Ky)(d:L4.D):Ky->L4.D:=λq=>if q=k then d else v q
def QA(P:List Ky)(hP:P.length<=900)(v:Ky->L4.D)(k:Ky)(d:L4.D):Be [sD P v,kD k,d]=Z (sD P (up v k d)):=by
 let a:aS:=[.z (sD P v),.z (kD k),.z d];refine uR (ρ:=a) O (uT ?_);have e:cL (u5 1 [1,2] (iT aa) (gN 0) vP (y? (cT (c2 (fb δ) (c2 f? aa aP) ai)) (vE cB) aa)) a=Z (.bt (P.map λq=>.d? [kD q,up v k d q]),a):=by
  refine vR (xG (λq:Ky=>.d? [kD q,v q]) (λq=>.d? [kD q,up v k d q]) P (ρ1:=a) O (by omega) λq _=>⟨[.z (.d? [kD q,v q]),.z (kD k),.z d],[.z (.d? [kD q,v q]),.z (kD k),.z d],O,?_,O⟩);have b:cT (c2 (fb δ) (c2 f? aa aP) ai) [.z (.d? [kD q,v q]),.z (kD k),.z d]=Z (decide (q=k),[.z (.d? [kD q,v q]),.z (kD k),.z d]):=v5 (uY (x:=kD q) (y:=kD k) O O (Qz _ _));unfold y? up;rw[b];by_cases h:q=k
  .rw[aU h,aj h,h];rfl
  .rw[aT h,ao h];rfl
 show Fh _ a=_;unfold Fh;rw[e];rfl
def va(i?:Str->Str)(mk:Str->Int):Ky->L4.D:=λk=>if k.1="at" then .str (i? k.2)else .int (mk k.2)
def U?{a:Type}(f:Str->a)(x:Str)(d:a):Str->a:=λy=>if y=x then d else f y
def aea(i?:Str->Str)(mk:Str->Int)(x d:Str)(P:List Ky):sD P (up (va i? mk) ("at", x) (.str d))=sD P (va (U? i? x d) mk):=by
 unfold sD;congr 1;refine kW λk _=>?_;obtain⟨a,y⟩:=k;unfold up va U?;by_cases h:a="at"
 .subst h;by_cases b:y=x
  .subst b;simp
  .simp[b]
 .simp[h]
def aeb(i?:Str->Str)(mk:Str->Int)(x:Str)(d:Int)(P:List Ky)(hP:∀k∈P,k.1="at" \/ k.1="mark"):sD P (up (va i? mk) ("mark", x) (.int d))=sD P (va i? (U? mk x d)):=by
 unfold sD;congr 1;refine kW λk b=>?_;have b:=hP k b;obtain⟨a,y⟩:=k;unfold up va U?;rcases b with h|h
 .have h:a="at" := h;subst h;have:¬("at" : Str)="mark" := by decide
  simp[this]
 .have h:a="mark" := h;subst h;have:¬("mark" : Str)="at" := by decide
  by_cases c:y=x
  .subst c;simp[this]
  .simp[c,this]
def getD_map{c d:Type}(f:c->d)(a:c)(b:d)(l:List c){i:Nat}(h:i<l.length):(l.map f).getD i b=f (l.getD i a):=by rw[cY,cY,bB,bh h];rfl
def Pd{a:Type}(d:a):∀l:List a,(aZ l.length).map (λi=>l.getD i d)=l:=λl=>by
 apply List.ext_getElem
 .rw[ag,cH]
 .intro i c b;rw[List.getElem_map,List.getElem_range,cY,bh b];rfl
def kL2(k:Ky):aE:=[k.1,k.2]
theorem N6:∀P:List Ky,zu (P.map kD)=Z (P.map kL2)
 |[]=>rfl
 |q::P=>by rw[aI];unfold zu;rw[N6 P];rfl
def Vo(P:List Ky)(a:0<P.length)(d:P.length<64):∃b:List Ky,b.Perm P/\Jm (P.map kD)=Z (b.map kD):=by
 let c:Nat->Nat->Bool:=λi j=>Ki ((P.map kL2).getD i []) ((P.map kL2).getD j []);refine⟨(OR c P.length).map λi=>P.getD i ("", ""),?_,?_⟩
 .have:=(Gq c a).map λi=>P.getD i ("", "");rw[Pd]at this;exact this
 .unfold Jm;rw[N6];simp only[ag];rw[aj ⟨a,d⟩,bc];congr 1;exact kW λi e=>getD_map kD ("", "") .E P (L9 c a i e)
def B?(T:List Th):aE:=(T.filter λt=>!decide (t.k=.room)).map Th.n
def PT(T:List Th)(M:List Mk):List Ky:=((B? T).map λx=>(("at", x):Ky))++(vo T M).map λx=>(("mark", x):Ky)
def acj(t:Th):fb γ (.str t.k.s) (.str "room")=Z (.I (!decide (t.k=.room))):=by cases t.k<;>kernel_rfl
section
variable{T:List Th}{M:List Mk}{dk:aE}{W:List Wy}{V:List Vb}{R:List L4.D}{c:L4.D}{P:List Ky}
def Vp(T:List Th):(B? T).length<=T.length:=by unfold B?;rw[ag];exact cu _ _
def Vq(T:List Th)(M:List Mk):(vo T M).length<=T.length+M.length:=by unfold vo;rw[aC,ag,ag];have:=cu (λt:Th=>t.k.mk) T;omega
def N7(g:ff T M dk W):∃t∈T,t.n="me" /\ t.k=.you:=by
 have h:("me" : Str)∈(T.filter λt=>decide (t.k=.you)).map Th.n:=by rw[g.y1];exact bp.2 O
 obtain⟨t,a,e⟩:=au.1 h;rw[aW]at a;exact⟨t,a.1,e,bF a.2⟩
def MC{T:List Th}(f:(T.map Th.n).Nodup)(h:t∈T)(i:u∈T)(e:t.n=u.n):t=u:=by
 induction T with
 |nil=>cases h
 |cons a T j=>
  rw[aI,dA]at f;rcases aO.1 h with b|b<;>rcases aO.1 i with d|d
  .rw[b,d]
  .exact aq (show a.n∈T.map Th.n from by rw[<-b,e];exact au.2 ⟨_,d,O⟩) f.1
  .exact aq (show a.n∈T.map Th.n from by rw[<-d,<- e];exact au.2 ⟨_,b,O⟩) f.1
  .exact j f.2 b d
def ME(d:(T.map Th.n).Nodup)(p:Th->Bool)(b:t∈T):t.n∈(T.filter p).map Th.n ↔ p t=γ:=by
 constructor
 .intro h;obtain⟨u,a,e⟩:=au.1 h;rw[aW]at a;rw[<-MC d a.1 b e];exact a.2
 .exact λh=>au.2 ⟨t,aW.2 ⟨b,h⟩,O⟩
def YB(g:ff T M dk W):("me" : Str)∈B? T:=by obtain⟨t,a,e,k⟩:=N7 g;rw[<-e];exact(ME g.B' _ a).2 (by rw[k];rfl)
def Pe(g:ff T M dk W):0<(PT T M).length/\(PT T M).length<64:=by have a:=Vp T;have b:=Vq T M;have d:=jx (YB g);have e:=g.len;have f:=g.m4;unfold PT;rw[aC,ag,ag];omega
def Vr(h:P.Perm (PT T M))(x:Str):(("at", x):Ky)∈P ↔ x∈B? T:=by
 rw[h.mem_iff];unfold PT;rw[aV,au,au];constructor
 .rintro(⟨y,a,e⟩|⟨y,a,e⟩)
  .injection e with _ e;rw[<-e];exact a
  .injection e with e _;exact aq e (by decide)
 .exact λh=>.inl ⟨x,h,O⟩
def YC(h:P.Perm (PT T M))(x:Str):(("mark", x):Ky)∈P ↔ x∈vo T M:=by
 rw[h.mem_iff];unfold PT;rw[aV,au,au];constructor
 .rintro(⟨y,a,e⟩|⟨y,a,e⟩)
  .injection e with e _;exact aq e (by decide)
  .injection e with _ e;rw[<-e];exact a
 .exact λh=>.inr ⟨x,h,O⟩
def YD(h:P.Perm (PT T M)):∀k∈P,k.1="at" \/ k.1="mark" := λk a=>by
 have a:=h.mem_iff.1 a;unfold PT at a;rw[aV,au,au]at a;rcases a with ⟨y,_,rfl⟩|⟨y,_,rfl⟩
 .exact .inl O
 .exact .inr O
def Vs(g:ff T M dk W):∃f:List Ky,f.Perm (PT T M)/\Ep [wO T M dk W V R c]=Z (.bt (f.map kD)):=by
 have hT:=g.len;have hM:=g.m4;obtain⟨o,r⟩:=Pe g;obtain⟨f,pR,e⟩:=Vo (PT T M) o r;refine⟨f,pR,?_⟩;let w:=wO T M dk W V R c;let a:L4.D:=.bt ((B? T).map λx=>kD ("at", x));let d:L4.D:=.bt ((vo T M).map λx=>kD ("mark", x));let b:Sl->Sl->aS:=λp q=>[.z w,p,q];have u:=Vp T;have y:=Vq T M;have j:u5 1 [] (iL (c1 (uU xg "kept_things") aa)) (gN 0) (cT (c2 (fb γ) (c1 (uU vO "kind") aa) dt)) (vE (ax jg nF)) (b .un .un)=Z ((T.filter λt=>!decide (t.k=.room)).map λt=>kD ("at", t.n),b .un .un):=
  zq et (λt=>kD ("at", t.n)) (λt=>!decide (t.k=.room)) T (ρ1:=b .un .un) O (by omega) λt _=>⟨[.z (et t)],[.z (et t)],O,v5 (uY (vQ O (AR t)) O (acj t)),λ_=>⟨_,O,O⟩,λ_=>O⟩
 have l:u5 1 [] (iL (cL (vM yu rO))) (gN 0) vP (vE (ax ka bK)) (b (.z a) .un)=Z ((vo T M).map λx=>kD ("mark", x),b (.z a) .un):=
  xG D.str (λx=>kD ("mark", x)) (vo T M) (ρ1:=b (.z a) .un) (HU (vR (uN (uL O (uL O O)) (Et T M (by omega) hM)))) (by omega) λx _=>⟨[.z (.str x)],[.z (.str x)],O,O,O⟩
 have m:Gv (cL (xx ai ak)) (b (.z a) (.z d))=Z (f.map kD,b (.z a) (.z d)):=by
  have q:cL (xx ai ak) (b (.z a) (.z d))=Z (.bt ((PT T M).map kD),b (.z a) (.z d)):=by refine(vR (w9 (xs:=(B? T).map λx=>kD ("at", x)) (ys:=(vo T M).map λx=>kD ("mark", x)) O O (by rw[ag,ag];omega))).t ?_;unfold PT;rw[bz,bc,bc];rfl
  unfold Gv;rw[q];simp only[e]
 refine Gr (ρ:=b (.z a) (.z d)) O ?_;refine(uM (ρ':=b (.z a) .un) ((uZ (vR j)).t ?_)).t ((uM (ρ':=b (.z a) (.z d)) ((uZ (vR l)).t O)).t (xn m));show Z (tz.nx [Sl.z w,.z (.bt ((T.filter λt=>!decide (t.k=.room)).map λt=>kD ("at", t.n))),.un])=Z (tz.nx [Sl.z w,.z (.bt (((T.filter λt=>!decide (t.k=.room)).map Th.n).map λx=>kD ("at", x))),.un]);rw[bc];rfl
def AS(b:(T.map Th.n).Nodup)(a:t∈T):wI [wO T M dk W V R c,.str t.n]=Z (et t):=by refine uR (ρ:=[.z (wO T M dk W V R c),.z (.str t.n)]) O (uT (uY (x:=.Q (nK T) (T.map et)) (y:=.str t.n) O O ?_));show Z ((xu (nK T) (T.map et) (kS t.n)).getD .E)=_;rw[F5 b et a];rfl
def Sa(g:ff T M dk W):Cs [wO T M dk W V R c]=Z (.Q (M.map λm=>kS m.n) (M.map λm=>D.int m.st)):=by
 let w:=wO T M dk W V R c;have j:((M.map λm=>kS m.n)).Nodup:=by have:=(cn.1 g.nd).2.1;rw[show (λm:Mk=>kS m.n)=kS∘Mk.n from O,<- bc];exact pB.2 (this.imp λh e=>h (O2 e))
 have t:=g.m4;obtain⟨l,e⟩:=BW (g:=gN 2) (i:=1) (fk:=c1 (uU vh "name") ak) (fv:=c1 (uU wH "start") ak) o3 Mk.n (λm=>D.int m.st) (λb a s=>[.z w,.dk b a,s])
  (λm b a s=>⟨[.z w,.dk b a,.z (o3 m)],O,O,O,O,λf d=>⟨_,O⟩⟩) M [] [] .un (by rw[cw];exact j) (by simp;omega) O
 rw[cw,cw]at e;refine uR (ρ:=[.z w,.z (.Q (M.map λm=>kS m.n) (M.map λm=>D.int m.st)),l]) O ?_;refine(uM (ρ':=[.z w,.dk [] [],.un]) O).t ?_;refine(uM ((wF (ds:=M.map o3) (ρ1:=[.z w,.dk [] [],.un]) ?_).t e)).t O;exact HU (vB (m:="own_marks") (ns:=t?) (xs:=wA T M dk W V R c) (ys:=[]) O O O O O)
def Vt(g:ff T M dk W)(b:t∈T)(st:L4.D):yG [wO T M dk W V R c,st,kD ("at", t.n)]=Z (oS t.s):=by let a:aS:=[.z (wO T M dk W V R c),.z st,.z (kD ("at", t.n))];refine uR (ρ:=a) O (uW ((vb (ρ':=a) (v5 (uY (x:=.str "at") (y:=.str "at") O O (by rw[xN];rfl)))).t (uT (vQ (vB (m:="thing_of") (ns:=t?) (xs:=wA T M dk W V R c) (ys:=[.str t.n]) O O O O (AS g.B' b)) (Iu t)))))
def Pf(x:Str)(d:List fh)(b:List L4.D):yG [wO T M dk W V R c,.Q d b,kD ("mark", x)]=Z ((xu d b (kS x)).getD (.int 0)):=by let a:aS:=[.z (wO T M dk W V R c),.z (.Q d b),.z (kD ("mark", x))];refine uR (ρ:=a) O ((uM (ρ':=a) ((vI (ρ':=a) (v5 (uY (x:=.str "mark") (y:=.str "at") O O (by rw[xN];rfl)))).t O)).t O)
theorem N8{d:Type}(kf:d->fh)(b:d->Int)(k:fh):∀l:List d,∃z,(xu (l.map kf) (l.map λa=>D.int (b a)) k).getD (.int 0)=.int z
 |[]=>⟨0,O⟩
 |a::l=>by
  rw[aI,aI];unfold xu;split
  .exact⟨b a,O⟩
  .exact N8 kf b k l
def at0(T:List Th)(x:Str):Str:=((T.find? λt=>decide (t.n=x)).bind Th.s).getD ""
def MF(b:(T.map Th.n).Nodup)(a:t∈T):at0 T t.n=t.s.getD "" := by
 unfold at0;cases h:T.find? λu=>decide (u.n=t.n)with
 |none=>exact aq (pe.1 h t a) (by simp)
 |some u=>rw[MC b (List.mem_of_find?_eq_some h) a (bF (qc (p:=λu:Th=>decide (u.n=t.n)) h))];rfl
def QB(g:ff T M dk W)(j:t∈T)(h:t.k≠.room):∃p,t.s=Z p/\p∈qs T/\(t.k=.you->p∈k? T):=by
 have a:=g.st t j;unfold D7 at a;have l:∀p,p∈k? T->p∈qs T:=λp i=>by obtain⟨u,d,e⟩:=au.1 i;rw[aW]at d;exact au.2 ⟨u,aW.2 ⟨d.1,by rw[bF d.2];rfl⟩,e⟩
 cases f:t.s with
 |none=>rw[f]at a;cases b:t.k<;>rw[b]at a h<;>first|exact aq O h|exact a.elim
 |some p=>rw[f]at a;refine⟨p,O,?_⟩;cases b:t.k<;>rw[b]at a h<;>first|exact aq O h|exact⟨l p a,λ_=>a⟩|exact⟨a,λz=>by cases z⟩
def Vu(g:ff T M dk W):∃(P:List Ky) (m:Str->Int),P.Perm (PT T M)/\Bw [wO T M dk W V R c]=Z (sD P (va (at0 T) m)):=by
 obtain⟨f,pR,eR⟩:=Vs (c:=c) g;have j:∀x,∃z,(xu (M.map λm=>kS m.n) (M.map λm=>D.int m.st) (kS x)).getD (.int 0)=.int z:=λx=>N8 (λm:Mk=>kS m.n) Mk.st (kS x) M;refine⟨f,λx=>(j x).choose,pR,?_⟩;let w:=wO T M dk W V R c;let st:L4.D:=.Q (M.map λm=>kS m.n) (M.map λm=>D.int m.st);have hR:f.length<64:=by rw[pR.length_eq];exact(Pe g).2
 have val:∀k∈f,yG [w,st,kD k]=Z (va (at0 T) (λx=>(j x).choose) k):=λk i=>by
  obtain⟨a,x⟩:=k;rcases YD pR _ i with h|h
  .have h:a="at" := h;subst h;have o:=(Vr pR x).1 i;obtain⟨t,d,rfl⟩:=au.1 o;rw[aW]at d;obtain⟨p,l,_⟩:=QB g d.1 (λz=>by rw[z]at d;exact aq d.2 (by decide));rw[Vt g d.1];unfold va;rw[aj O,MF g.B' d.1,l];rfl
  .have h:a="mark" := h;subst h;rw[Pf,(j x).choose_spec];unfold va;rw[ao (show ¬("mark" : Str)="at" by decide)]
 let b:aS:=[.z w,.z st];refine uR (ρ:=b) O ((uM (ρ':=b) ((uZ (uN (uL O O) (Sa g))).t O)).t (uT ?_));have e:=xG (k:=1) (e?:=[0,1]) (g:=gN 0) (fe:=vE sC) (s:=iL (vg Bd "parts" aa vC)) (ρ:=b) (ρ1:=b) kD (λk=>.d? [kD k,va (at0 T) (λx=>(j x).choose) k]) f
  (HU (vB (m:="parts") (ns:=t?) (xs:=wA T M dk W V R c) (ys:=[]) O O O O eR)) (by omega) λk i=>⟨[.z (kD k),.z w,.z st],[.z (kD k),.z w,.z st],O,aal (uL O (uL (uN (uL O (uL O (uL O O))) (val k i)) O)) (show 2<=1000 by decide),O⟩
 show Fh _ b=_;unfold Fh;rw[vR e];rfl
end
inductive Ch(T:List Th) (a:Str->Str):Str->aE->Prop
 |nil {x:Str} (h:x∉B? T):Ch T a x []
 |cons {x:Str} {l:aE} (h:x∈B? T) (c:Ch T a (a x) l):Ch T a x (a x::l)
structure c3(T:List Th)(a:Str->Str):Prop where
 me:a "me" ∈ k? T
 hd:∀x∈B? T,a x∈qs T
 ch:∀x,∃l,Ch T a x l
section
variable{T:List Th}{M:List Mk}{dk:aE}{W:List Wy}{V:List Vb}{R:List L4.D}{c:L4.D}{P:List Ky}{a:Str->Str}{m:Str->Int}
def ack(h:Ch T a x l):Ch T a x e->l=e:=by
 induction h generalizing e with
 |nil h=>intro b;cases b with
  |nil _=>rfl
  |cons b _=>exact aq b h
 |cons h _ f=>intro b;cases b with
  |nil b=>exact aq h b
  |cons _ d=>rw[f d]
def acm(h:Ch T a x l):∀y∈l,∃f,Ch T a y f/\f.length<l.length:=by
 induction h with
 |nil _=>intro y b;cases b
 |@cons x l h d j=>
  intro y b;rcases aO.1 b with e|b
  .rw[e];exact⟨l,d,by rw[aM];omega⟩
  .obtain⟨f,i,o⟩:=j y b;exact⟨f,i,by rw[aM];omega⟩
def XS(h:Ch T a x l):x∉l:=λe=>by obtain⟨f,d,b⟩:=acm h x e;rw[ack h d]at b;exact eK _ b
def aec(h:Ch T a x l):l.Nodup:=by
 induction h with
 |nil _=>exact l5
 |@cons x l h d b=>exact dA.2 ⟨XS d,b⟩
def YE(i:c3 T a)(h:Ch T a x l):∀y∈l,y∈qs T:=by
 induction h with
 |nil _=>intro y b;cases b
 |@cons x l h d f=>
  intro y b;rcases aO.1 b with e|b
  .rw[e];exact i.hd x h
  .exact f y b
theorem Vv:∀{l L:aE},l.Nodup->(∀x∈l,x∈L)->l.length<=L.length
 |[],L,_,_=>cp _
 |a::l,L,b,e=>by rw[dA]at b;have d:=e a aX;have:=Vv (L:=L.erase a) b.2 λz f=>(oK (show z≠a from λw=>b.1 (w▸f))).2 (e z (ba _ f));rw[nZ d]at this;have:=jx d;rw[aM];omega
def Pg(g:ff T M dk W)(i:c3 T a)(h:Ch T a x l):l.length<=13:=by
 have b:=Vv (aec h) (YE i h);have d:(qs T).length<=T.length:=by unfold qs;rw[ag];exact cu _ _
 have:=g.len;omega
def XT(h:Ch T a w l):w≠x->x∉l->Ch T (U? a x b) w l:=by
 induction h with
 |nil h=>intro _ _;exact .nil h
 |@cons w l h d o=>intro j i;have e:U? a x b w=a w:=ao j;have f:=o (λz=>i (by rw[z];exact aX)) λz=>i (ba _ z);rw[<-e]at f ⊢;exact .cons h f
def c3.mv(g:ff T M dk W)(i:c3 T a)(t:x∈B? T)(hb:b∈qs T)(hm:x="me" -> b∈k? T)(q:b≠x)(o:Ch T a b j)(r:x∉j):c3 T (U? a x b) where
 me:=by
  unfold U?;by_cases e:("me" : Str)=x
  .rw[aj e];exact hm e.symm
  .rw[ao e];exact i.me
 hd:=λy u=>by
  unfold U?;by_cases e:y=x
  .rw[aj e];exact hb
  .rw[ao e];exact i.hd y u
 ch:=λw=>by
  have cx:Ch T (U? a x b) x (U? a x b x::j):=.cons t (by rw[show U? a x b x=b from aj O];exact XT o q r);obtain⟨l,h⟩:=i.ch w
  induction h with
  |nil h=>exact⟨_,.nil h⟩
  |@cons w l h d z=>
   by_cases e:w=x
   .rw[e];exact⟨_,cx⟩
   .obtain⟨A,f⟩:=z;have p:U? a x b w=a w:=ao e;rw[<-p]at f;exact⟨_,.cons h f⟩
def N9(p:P.Perm (PT T M))(x:Str):zL [sD P (va a m),.str x]=Z (if x∈B? T then .str (a x)else .E):=by
 refine uR (ρ:=[.z (sD P (va a m)),.z (.str x)]) O (uT (uN (ds:=[sD P (va a m),kD ("at", x)]) (uL O (uL O O)) ((N5 P (va a m) ("at", x)).t ?_)));congr 1;by_cases h:x∈B? T
 .rw[aj h,aj ((Vr p x).2 h)];unfold va;rw[aj O]
 .rw[ao h,ao λz=>h ((Vr p x).1 z)]
def Iv(p:P.Perm (PT T M))(x:Str):y4 [sD P (va a m),.str x]=Z (if x∈vo T M then .int (m x)else .E):=by
 refine uR (ρ:=[.z (sD P (va a m)),.z (.str x)]) O (uT (uN (ds:=[sD P (va a m),kD ("mark", x)]) (uL O (uL O O)) ((N5 P (va a m) ("mark", x)).t ?_)));congr 1;by_cases h:x∈vo T M
 .rw[aj h,aj ((YC p x).2 h)];unfold va;rw[ao (show ¬("mark" : Str)="at" by decide)]
 .rw[ao h,ao λz=>h ((YC p x).1 z)]
def aD(T:List Th)(a:Str->Str)(x:Str):L4.D:=if x∈B? T then .str (a x)else .E
def Sb(p:P.Perm (PT T M))(w e:Sl)(h:Ch T a x l):∀(n:Nat) (b:List L4.D),l.length<n->b.length+l.length<=1000->
  whL (cT (c2 w6 aw aF)) (uQ (vJ (AV 3 aw)) (vd 4 (uO zL kz))) n [w,.z (sD P (va a m)),e,.O b,.z (aD T a x)]=Z (.nx [w,.z (sD P (va a m)),e,.O (b++l.map D.str),.z .E]):=by
 let S:=sD P (va a m)
 induction h with
 |@nil x h=>
  intro n b f _;rw[show aD T a x=.E from ao h];cases n with
  |zero=>cases f
  |succ n=>rw[fK,bS];rfl
 |@cons x l h d o=>
  intro n b f j;rw[show aD T a x=.str (a x) from aj h];rw[aM]at f j;cases n with
  |zero=>cases f
  |succ n=>
   have i:uQ (vJ (AV 3 aw)) (vd 4 (uO zL kz)) [w,.z S,e,.O b,.z (.str (a x))]=Z (.nx [w,.z S,e,.O (b++[.str (a x)]),.z (aD T a (a x))]):=by refine(uM (ρ':=[w,.z S,e,.O (b++[.str (a x)]),.z (.str (a x))]) (wm ((Dj (es:=b) O O O (by omega)).t O))).t ?_;exact(uZ (uN (uL O (uL O O)) (N9 p (a x)))).t O
   rw[aI];unfold whL;rw[show cT (c2 w6 aw aF) [w,.z (sD P (va a m)),e,.O b,.z (.str (a x))]=Z (γ,[w,.z S,e,.O b,.z (.str (a x))]) from O];simp only[i];refine(o n (b++[.str (a x)]) (by omega) (by rw[aC,cF];omega)).t ?_;rw[bX];rfl
def MG(p:P.Perm (PT T M))(w:L4.D)(h:Ch T a x l)(d:l.length<=13):yw [w,sD P (va a m),.str x]=Z (l.map D.str):=by let S:=sD P (va a m);refine zZ (ρ:=[.z w,.z S,.z (.str x),.un,.z .E]) O ?_;refine(uM (ρ':=[.z w,.z S,.z (.str x),.O [],.un]) O).t ?_;refine(uM (ρ':=[.z w,.z S,.z (.str x),.O [],.z (aD T a x)]) ((uZ (uN (uL O (uL O O)) (N9 p x))).t O)).t ?_;exact(uM (Sb p (.z w) (.z (.str x)) h 50 [] (by omega) (by simp;omega))).t O
def acn(p:P.Perm (PT T M))(h:Ch T a x l)(d:l.length<=13):UM [wO T M dk W V R c,sD P (va a m),.str x]=Z (.I (decide (("me" : Str)∈l))):=by let b:aS:=[.z (wO T M dk W V R c),.z (sD P (va a m)),.z (.str x)];refine uR (ρ:=b) O (uT (uY (x:=.str "me") (y:=.bt (l.map D.str)) (vB (m:="you") (ns:=t?) (xs:=wA T M dk W V R c) (ys:=[]) O O O O O) (vR (uN (uL O (uL O (uL O O))) (MG p _ h d))) (xU δ _ _)))
def inv0(g:ff T M dk W):c3 T (at0 T) where
 me:=by obtain⟨t,b,e,k⟩:=N7 g;obtain⟨q,f,_,j⟩:=QB g b (by rw[k];exact λz=>by cases z);rw[<-e,MF g.B' b,f];exact j k
 hd:=λx i=>by obtain⟨t,b,rfl⟩:=au.1 i;rw[aW]at b;obtain⟨q,f,j,_⟩:=QB g b.1 (λz=>by rw[z]at b;exact aq b.2 (by decide));rw[MF g.B' b.1,f];exact j
 ch:=λx=>by
  obtain⟨r,hr⟩:=g.rk;have:∀(n:Nat) (x:Str),r x<n->∃l,Ch T (at0 T) x l:=by
   intro n
   induction n with
   |zero=>intro x h;cases h
   |succ n o=>
    intro x h;by_cases i:x∈B? T
    .obtain⟨t,b,rfl⟩:=au.1 i;rw[aW]at b;obtain⟨q,f,_,_⟩:=QB g b.1 (λz=>by rw[z]at b;exact aq b.2 (by decide));have e:at0 T t.n=q:=by rw[MF g.B' b.1,f];rfl
     have j:=((hr t b.1).2 q f).1;obtain⟨l,d⟩:=o q (by omega);rw[<-e]at d;exact⟨_,.cons i d⟩
    .exact⟨_,.nil i⟩
  exact this (r x+1) x (by omega)
end
def zV(a:e ρ=Z (.I δ,ρ1)):wa e b ρ=Z (.I δ,ρ1):=by unfold wa;rw[a]
section
variable{T:List Th}{M:List Mk}{dk:aE}{W:List Wy}{V:List Vb}{R:List L4.D}{c:L4.D}{P:List Ky}{a:Str->Str}{m:Str->Int}
structure wh(T:List Th)(M:List Mk)(dk:aE)(W:List Wy)(P:List Ky)(a:Str->Str):Prop where
 g:ff T M dk W
 p:P.Perm (PT T M)
 i:c3 T a
def aed(h:x∈qs T):∃t∈T,t.n=x/\t.k.hd=γ:=by obtain⟨t,b,e⟩:=au.1 h;rw[aW]at b;exact⟨t,b.1,e,b.2⟩
def YF(g:ff T M dk W)(b:t∈T):t.n∈vo T M ↔ t.k.mk=γ:=by
 unfold vo;rw[aV,ME g.B' _ b];constructor
 .rintro(h|h)
  .exact h
  .exact aq O ((cn.1 g.nd).2.2 _ (au.2 ⟨t,b,O⟩) _ h)
 .exact .inl
def QC(t:Th)(k:Kd):fb δ (.str t.k.s) (.str k.s)=Z (.I (decide (t.k=k))):=HP t.k k
def XU(s:wh T M dk W P a)(i:x∈qs T):∃b,zF [wO T M dk W V R c,sD P (va a m),.str x]=Z (.I b):=by
 obtain⟨t,f,rfl,_⟩:=aed i;let d:aS:=[.z (wO T M dk W V R c),.z (sD P (va a m)),.z (.str t.n)];have e:c2 (fb δ) (c1 (uU vO "kind") (vg vv "thing_of" aa cq)) cR d=Z (.I (decide (t.k=.box)),d):=
  uY (vQ (vB (m:="thing_of") (ns:=t?) (xs:=wA T M dk W V R c) (ys:=[.str t.n]) O O O O (AS s.g.B' f)) (AR t)) O (QC t .box)
 by_cases h:t.k=.box
 .rw[aU h]at e;refine⟨decide (m t.n=0),uR (ρ:=d) O (uT ((vn e).t (uY (uN (uL O (uL O O)) ((Iv s.p t.n).t (by rw[aj ((YF s.g f).2 (by rw[h];rfl))]))) O ?_)))⟩;rw[yH];rfl
 .rw[aT h]at e;exact⟨δ,uR (ρ:=d) O (uT (zV e))⟩
def opn(sh:Str->Bool)(h:Str):aE->Bool
 |[]=>δ
 |a::l=>if a=h then γ else if sh a then δ else opn sh h l
def Vw{sh:Str->Bool}{h a:Str}{l:aE}:opn sh h (a::l)=if a=h then γ else if sh a then δ else opn sh h l:=rfl
def oB:FS:=(uQ (fm (cT (c2 (fb δ) aw ay)) (uV df) u4)
 (fm (cT (uO zF nP)) (uV bO) u4))
theorem Lu{w st x:L4.D}{sh:Str->Bool}(h:Str):∀(l:aE) (s:Sl),(∀a∈l,zF [w,st,.str a]=Z (.I (sh a)))->∃j,fu (gN 4) oB (l.map D.str) [.z w,.z st,.z x,.z (.str h),s]=Z (.rt (.I (opn sh h l)) [.z w,.z st,.z x,.z (.str h),j])\/(opn sh h l=δ/\fu (gN 4) oB (l.map D.str) [.z w,.z st,.z x,.z (.str h),s]=Z (.nx [.z w,.z st,.z x,.z (.str h),j]))
 |[],s,_=>⟨s,.inr ⟨O,O⟩⟩
 |a::l,s,p=>by
  let d:aS:=[.z w,.z st,.z x,.z (.str h),.z (.str a)];have e:cT (c2 (fb δ) aw ay) d=Z (decide (a=h),d):=v5 (uY (x:=.str a) (y:=.str h) O O (xN δ a h));have f:cT (uO zF nP) d=Z (sh a,d):=v5 (uN (uL O (uL O (uL O O))) (p a aX));rw[aI];unfold fu;rw[show gN 4 (.str a) [.z w,.z st,.z x,.z (.str h),s]=Z d from O];rw[Vw];by_cases i:a=h
  .rw[aU i]at e;rw[aj i];refine⟨.z (.str a),.inl ?_⟩;have o:oB d=Z (.rt (.I γ) d):=uW ((vb e).t O);simp only[o];rfl
  .rw[aT i]at e;rw[ao i];have o:oB d=_:=uM ((vI e).t O);simp only[o];cases q:sh a with
   |true=>rw[q]at f;refine⟨.z (.str a),.inl ?_⟩;simp only[(vb f).t (O:uV bO d=Z (.rt (.I δ) d)),if_true];rfl
   |false=>rw[q]at f;obtain⟨j,g⟩:=Lu (w:=w) (st:=st) (x:=x) (sh:=sh) h l (.z (.str a)) λb r=>p b (ba _ r);refine⟨j,?_⟩;simp only[(vI f).t (O:u4 d=Z (.nx d)),eG,if_false];exact g
def MH(s:wh T M dk W P a)(x h:Str):∃b,zG [wO T M dk W V R c,sD P (va a m),.str x,.str h]=Z (.I b):=by
 obtain⟨l,d⟩:=s.i.ch x;have j:∀y:Str,∃b:Bool,y∈qs T->zF [wO T M dk W V R c,sD P (va a m),.str y]=Z (.I b):=λy=>by
  by_cases f:y∈qs T
  .obtain⟨b,e⟩:=XU (c:=c) (m:=m) s f;exact⟨b,λ_=>e⟩
  .exact⟨δ,λz=>aq z f⟩
 refine⟨opn (λy=>(j y).choose) h l,?_⟩;obtain⟨t,q⟩:=Lu (w:=wO T M dk W V R c) (st:=sD P (va a m)) (x:=.str x) (sh:=λy=>(j y).choose) h l .un λy f=>(j y).choose_spec (YE s.i d y f);have o:=vR (uN (a:=ax aa cB) (ρ:=[.z (wO T M dk W V R c),.z (sD P (va a m)),.z (.str x),.z (.str h),.un]) (uL O (uL O (uL O O))) (MG (m:=m) s.p _ d (Pg s.g s.i d)));rcases q with q|⟨r,q⟩
 .exact uR O (uW ((wF (HU o)).t q))
 .rw[r];exact uR O ((uM ((wF (HU o)).t q)).t O)
def MI(s:wh T M dk W P a):Aq [wO T M dk W V R c,sD P (va a m)]=Z (.str (a "me")):=
 uR (ρ:=[.z (wO T M dk W V R c),.z (sD P (va a m))]) O (uT (uN (uL O (uL (vB (m:="you") (ns:=t?) (xs:=wA T M dk W V R c) (ys:=[]) O O O O O) O)) ((N9 s.p "me").t (by rw[aj (YB s.g)]))))
def Vx(s:wh T M dk W P a)(i:t∈T)(h:t.k=.lamp)(r:Str):∃b,AL [wO T M dk W V R c,sD P (va a m),.str t.n,.str r]=Z (.I b):=by
 let d:aS:=[.z (wO T M dk W V R c),.z (sD P (va a m)),.z (.str t.n),.z (.str r)];have e:c2 (fb δ) (uO y4 cB) aL d=Z (.I (decide (m t.n=1)),d):=uY (uN (uL O (uL O O)) ((Iv s.p t.n).t (by rw[aj ((YF s.g i).2 (by rw[h];rfl))]))) O (by rw[yH];rfl);obtain⟨b,f⟩:=MH (c:=c) (m:=m) s t.n r;cases q:decide (m t.n=1)with
 |true=>rw[q]at e;exact⟨b,uR (ρ:=d) O (uT ((vn e).t (uN (uL O (uL O (uL O (uL O O)))) f)))⟩
 |false=>rw[q]at e;exact⟨δ,uR (ρ:=d) O (uT (zV e))⟩
def Vy(s:wh T M dk W P a):∃b,FR [wO T M dk W V R c,sD P (va a m)]=Z (.I b):=by
 let w:=wO T M dk W V R c;let r:=a "me";let S:=sD P (va a m);let d:aS:=[.z w,.z S,.z (.str r)];have o:vd 2 (uO Aq cz) [.z w,.z S,.un]=Z (.nx d):=(uZ (uN (uL O (uL O O)) (MI s))).t O;have i:wt (cT (vg zK "is_dark" aa cq)) d=Z (!decide (r∈dk),d):=yi (v5 (vB (m:="is_dark") (ns:=t?) (xs:=wA T M dk W V R c) (ys:=[.str r]) O O O O (uR (ρ:=[.z w,.z (.str r)]) O (uT (uY (x:=.str r) (y:=.bt (dk.map D.str)) O O (xU δ r dk))))));cases q:decide (r∈dk)with
 |false=>rw[q]at i;exact⟨γ,uR O ((uM o).t (uW ((vb i).t O)))⟩
 |true=>
  rw[q]at i;have E:=s.g.len;let L:=T.filter λt=>decide (t.k=.lamp);have l:∀t:Th,∃b:Bool,t∈L->AL [w,S,.str t.n,.str r]=Z (.I b):=λt=>by
   by_cases j:t∈L
   .have h:=aW.1 j;obtain⟨b,e⟩:=Vx (c:=c) (m:=m) s h.1 (bF h.2) r;exact⟨b,λ_=>e⟩
   .exact⟨δ,λz=>aq z j⟩
  have p:u5 1 [0,1,2] (iL (vg yF "of_kind" aa ir)) (gN 0) vP (uO AL sE) d=Z (L.map λt=>D.I (l t).choose,d):=by have f:L.length<=1000:=bG (cu _ _) (by omega);exact xG (λt:Th=>D.str t.n) (λt=>D.I (l t).choose) L (ρ1:=d) (HU (vB (m:="of_kind") (ns:=t?) (xs:=wA T M dk W V R c) (ys:=[.str Kd.lamp.s]) O O O O (JU T (by omega) _ _ .lamp))) f λt j=>⟨[.z (.str t.n),.z w,.z S,.z (.str r)],[.z (.str t.n),.z w,.z S,.z (.str r)],O,uN (uL O (uL O (uL O (uL O O)))) ((l t).choose_spec j),O⟩
  exact⟨_,uR O ((uM o).t ((uM ((vI i).t O)).t (uT (vQ (vR p) (P8 _ _)))))⟩
def QD(s:wh T M dk W P a)(z:t∈T):∃b,wQ [wO T M dk W V R c,sD P (va a m),.str t.n]=Z (.I b):=by
 let w:=wO T M dk W V R c;let S:=sD P (va a m);let d:aS:=[.z w,.z S,.z (.str t.n),.z (et t)];have f:vd 3 (vg vv "thing_of" aa cq) [.z w,.z S,.z (.str t.n),.un]=Z (.nx d):=(uZ (vB (m:="thing_of") (ns:=t?) (xs:=wA T M dk W V R c) (ys:=[.str t.n]) O O O O (AS s.g.B' z))).t O;have e:xM (cT (c2 zw ay aF)) (wt (cT (vg v8 "is_plainly" ay vC))) d=Z (!t.k.pl,d):=yO O (yi (v5 (vB (m:="is_plainly") (ns:=["name", "words", "kind", "start"]) (xs:=[.str t.n,.d? (t.w.map D.str),.str t.k.s,oS t.s]) (ys:=[]) O O O O (F4 t))));obtain⟨i,u⟩:=MH (c:=c) (m:=m) s t.n "me";obtain⟨j,x⟩:=MH (c:=c) (m:=m) s t.n (a "me");obtain⟨A,y⟩:=Vy (c:=c) (m:=m) s;have h:cT (uO zG rR) d=Z (i,d):=v5 (uN (uL O (uL O (uL O (uL (vB (m:="you") (ns:=t?) (xs:=wA T M dk W V R c) (ys:=[]) O O O O O) O)))) u);have l:uO zG sd d=Z (.I j,d):=uN (uL O (uL O (uL O (uL (uN (uL O (uL O O)) (MI s)) O)))) x;cases p:t.k.pl with
 |false=>rw[p]at e;exact⟨_,uR O ((uM f).t (uW ((vb e).t O)))⟩
 |true=>
  rw[p]at e;cases i with
  |true=>exact⟨_,uR O ((uM f).t ((uM ((vI e).t O)).t (uW ((vb h).t O))))⟩
  |false=>
   cases j with
   |true=>exact⟨_,uR (ρ:=d) O ((uM f).t ((uM ((vI e).t O)).t ((uM ((vI h).t O)).t (uT ((vn l).t (uN (uL O (uL O O)) y))))))⟩
   |false=>exact⟨_,uR (ρ:=d) O ((uM f).t ((uM ((vI e).t O)).t ((uM ((vI h).t O)).t (uT (zV l)))))⟩
def XW(S:L4.D):wQ [wO T M dk W V R c,S,.E]=Z (.I δ):=by let w:=wO T M dk W V R c;let b:aS:=[.z w,.z S,.z .E,.z .E];have d:vd 3 (vg vv "thing_of" aa cq) [.z w,.z S,.z .E,.un]=Z (.nx b):=(uZ (vB (m:="thing_of") (ns:=t?) (xs:=wA T M dk W V R c) (ys:=[.E]) O O O O (by rfl))).t O;exact uR (ρ:=b) O ((uM d).t (uW ((vb O).t O)))
end
def q3(v:Str)(x y:Option Str):L4.D:=.d? [.str v,oS x,oS y]
def Cm(T:List Th)(W:List Wy)(v:Vb)(x y:Option Str):Prop:=(v.f="one" /\ ∃n∈rh T,x=Z n/\y=J)\/(v.f="two" /\ ∃n∈rh T,∃k∈rh T,x=Z n/\y=Z k)\/(v.f="alone" /\ x=J/\y=J)\/(v.f="way" /\ ∃d∈S? W,x=Z d/\y=J)
def Z?(v:Vb)(x y:Option Str):List (Option Str):=if v.f="way" then [J,J]else [x,y]
section
variable{T:List Th}{M:List Mk}{dk:aE}{W:List Wy}{V:List Vb}{R:List L4.D}{c:L4.D}{P:List Ky}{a:Str->Str}{m:Str->Int}{v:Vb}{x y:Option Str}
def QE(d:((V++v9).flatMap Vb.ws).Nodup)(b:v∈V++v9):xi [wO T M dk W V R c,.str v.n]=Z (ki v):=
 uR (ρ:=[.z (wO T M dk W V R c),.z (.str v.n)]) O (uT (uY (x:=vwD (V++v9)) (y:=.str v.n) O O (Mz d b)))
def Vz(i:((V++v9).flatMap Vb.ws).Nodup)(h:v∈V++v9)(x y:Option Str):zR [wO T M dk W V R c,q3 v.n x y]=Z (.I (decide (v.f="way"))):=by
 let w:=wO T M dk W V R c;let b:aS:=[.z w,.z (q3 v.n x y),.z (ki v)];have e:vd 2 (y? (cT (c2 zw ai aF)) aF (vg we "verb_of" aa il)) [.z w,.z (q3 v.n x y),.un]=Z (.nx b):=by refine(uZ (d:=ki v) (ρ':=[.z w,.z (q3 v.n x y),.un]) ?_).t O;show vg we "verb_of" aa il [.z w,.z (q3 v.n x y),.un]=_;exact vB (m:="verb_of") (ns:=t?) (xs:=wA T M dk W V R c) (ys:=[.str v.n]) O O O O (QE i h)
 exact uR (ρ:=b) O ((uM e).t (uT ((vn O).t (uY (x:=.str v.f) (y:=.str "way") O O (by rw[xN];rfl)))))
def Lv(i:((V++v9).flatMap Vb.ws).Nodup)(d:v∈V++v9)(x y:Option Str):wz [wO T M dk W V R c,q3 v.n x y]=Z (.d? ((Z? v x y).map oS)):=by
 let b:aS:=[.z (wO T M dk W V R c),.z (q3 v.n x y)];have e:cT (uO zR cz) b=Z (decide (v.f="way"),b):=v5 (uN (uL O (uL O O)) (Vz i d x y));unfold Z?;by_cases h:v.f="way"
 .rw[aU h]at e;rw[aj h];exact uR (ρ:=b) O (uW ((vb (yO O e)).t O))
 .rw[aT h]at e;rw[ao h];exact uR (ρ:=b) O ((vp (yO O e)).t O)
def m_it(h:wz [w,q]=Z (.d? [oS x,oS y])):wC [w,S,q,.str "it"]=Z (oS x):=by let b:aS:=[.z w,.z S,.z q,.z (.str "it")];exact uR (ρ:=b) O ((vp O).t (uW ((vb O).t (uT (uY (uN (uL O (uL O O)) h) O O)))))
def XX(h:wz [w,q]=Z (.d? [oS x,oS y])):wC [w,S,q,.str "other"]=Z (oS y):=by let b:aS:=[.z w,.z S,.z q,.z (.str "other")];exact uR (ρ:=b) O ((vp O).t ((vp O).t (uW ((vb O).t (uT (uY (uN (uL O (uL O O)) h) O O))))))
def aco(s:wh T M dk W P a)(q:L4.D):wC [wO T M dk W V R c,sD P (va a m),q,.str "here"]=Z (.str (a "me")):=by let b:aS:=[.z (wO T M dk W V R c),.z (sD P (va a m)),.z q,.z (.str "here")];exact uR (ρ:=b) O (uW ((vb O).t (uT (uN (uL O (uL O O)) (MI s)))))
def J3(w S q:L4.D){x:Str}(h:Nm x):wC [w,S,q,.str x]=Z (.str x):=by let b:aS:=[.z w,.z S,.z q,.z (.str x)];have all:=aQ.1 (show (nmL.all λx=>!decide (x="here")&&!decide (x="it")&&!decide (x="other"))=γ by kernel_rfl) x h;simp only[aY,fw,decide_eq_false_iff_not]at all;have e:∀t:Str,¬x=t->cT (c2 (fb δ) ay (cC (.str t))) b=Z (δ,b):=λt d=>v5 (uY (x:=.str x) (y:=.str t) O O (by rw[xN];show Z (D.I (decide (x=t)))=_;rw[aT d]));exact uR (ρ:=b) O ((vp (e _ all.1.1)).t ((vp (e _ all.1.2)).t ((vp (e _ all.2)).t O)))
def XY(p:((V++v9).flatMap Vb.ws).Nodup)(o:v∈V++v9)(i:Cm T W v x y)(S:L4.D)(h:By v.f t):∃z∈rh T,wC [wO T M dk W V R c,S,q3 v.n x y,.str t]=Z (.str z):=by
 have b:=Lv (T:=T) (M:=M) (dk:=dk) (W:=W) (R:=R) (c:=c) p o x y;have nw:∀f:Str,f∈(["one", "two"]:aE)->v.f=f->wz [wO T M dk W V R c,q3 v.n x y]=Z (.d? [oS x,oS y]):=λf j e=>by unfold Z? at b;rw[ao (show ¬v.f="way" from by rw[e];intro z;rw[z]at j;exact aq j (by decide))]at b;exact b
 rcases h with ⟨rfl,h⟩|⟨rfl,h⟩
 .have b:=nw _ h O;rcases i with ⟨_,n,d,rfl,rfl⟩|⟨_,n,d,k,l,rfl,rfl⟩|⟨e,_⟩|⟨e,_⟩
  .exact⟨n,d,m_it b⟩
  .exact⟨n,d,m_it b⟩
  .rw[e]at h;exact aq h (by decide)
  .rw[e]at h;exact aq h (by decide)
 .have b:=nw "two" (by decide) h;rcases i with ⟨e,_⟩|⟨_,n,d,k,l,rfl,rfl⟩|⟨e,_⟩|⟨e,_⟩
  .rw[e]at h;exact aq h (by decide)
  .exact⟨k,l,XX b⟩
  .rw[e]at h;exact aq h (by decide)
  .rw[e]at h;exact aq h (by decide)
def QF(g:ff T M dk W)(h:z∈T.map Th.n):Nm z:=g.nm _ (bJ _ h)
def pl_T(h:z∈rh T):z∈T.map Th.n:=by obtain⟨t,b,rfl⟩:=au.1 h;exact au.2 ⟨t,(aW.1 b).1,O⟩
def Oa(h:z∈qs T):z∈T.map Th.n:=by obtain⟨t,b,rfl⟩:=au.1 h;exact au.2 ⟨t,(aW.1 b).1,O⟩
def VA(h:z∈k? T):z∈T.map Th.n:=by obtain⟨t,b,rfl⟩:=au.1 h;exact au.2 ⟨t,(aW.1 b).1,O⟩
def Sd(s:wh T M dk W P a)(l:((V++v9).flatMap Vb.ws).Nodup)(d:v∈V++v9)(b:Cm T W v x y)(hN:∀z∈N,z∈T.map Th.n)(h:Tm v.f N t):∃z∈T.map Th.n,wC [wO T M dk W V R c,sD P (va a m),q3 v.n x y,.str t]=Z (.str z):=by
 rcases h with h|rfl|h
 .exact⟨t,hN t h,J3 _ _ _ (QF s.g (hN t h))⟩
 .exact⟨_,VA s.i.me,aco s _⟩
 .obtain⟨z,j,e⟩:=XY (M:=M) (dk:=dk) (R:=R) (c:=c) l d b (sD P (va a m)) h;exact⟨z,pl_T j,e⟩
def Ob(k:Nat)(w S q t:L4.D)(b:Bool):Prop:=∃j e f d,t=.obj j e f/\vq k j=Z d/\e.contains "holds" = δ/\d [t,w,S,q]=Z (.I b)
def Lw(s:wh T M dk W P a)(U:((V++v9).flatMap Vb.ws).Nodup)(Q:v∈V++v9)(I:Cm T W v x y)(h:Ts T M v.f n t):∀k,n<=k->∃b,Ob k (wO T M dk W V R c) (sD P (va a m)) (q3 v.n x y) t b:=by
 let w:=wO T M dk W V R c;let S:=sD P (va a m);let q:=q3 v.n x y
 induction h with
 |@ats n B t2 H hb=>
  intro k _;obtain⟨z,hz,E⟩:=Sd (R:=R) (c:=c) (m:=m) s U Q I (λ_ h=>h) H;obtain⟨u,hu,eu⟩:=Sd (R:=R) (c:=c) (m:=m) s U Q I (λ_ h=>Oa h) hb;let A:aS:=[.z (atO B t2),.z w,.z S,.z q,.z (.str z),.un];let o:L4.D->aS:=λd=>[.z (atO B t2),.z w,.z S,.z q,.z (.str z),.z d];have e0:∀(d:L4.D),zL [S,.str z]=Z d->∀f:FS,uQ (vd 4 (uO wC fP)) (uQ (vd 5 (uO zL (ax ak eA))) f) [.z (atO B t2),.z w,.z S,.z q,.un,.un]=f (o d):=λd hd f=>(uM (ρ':=A) ((uZ (uN (uL O (uL O (uL O (uL O O)))) E)).t O)).t (uM (ρ':=o d) ((uZ (uN (uL O (uL O O)) hd)).t O))
  by_cases hn:z∈B? T
  .exact⟨_,3,_,_,ER,O,by cases k<;>rfl,O,uR (ρ:=o (.str (a z))) O ((e0 _ ((N9 s.p z).t (by rw[aj hn])) _).t (uT ((vn O).t (uY (x:=.str (a z)) (y:=.str u) O (uN (uL O (uL O (uL O (uL O O)))) eu) (by rw[xN])))))⟩
  .exact⟨δ,3,_,_,ER,O,by cases k<;>rfl,O,uR (ρ:=o .E) O ((e0 _ ((N9 s.p z).t (by rw[ao hn])) _).t (uT (zV O)))⟩
 |@has n B H=>intro k _;obtain⟨z,hz,E⟩:=Sd (R:=R) (c:=c) (m:=m) s U Q I (λ_ h=>h) H;obtain⟨l,ch⟩:=s.i.ch z;let o:aS:=[.z (hsO B),.z w,.z S,.z q];exact⟨_,4,_,_,HI,O,by cases k<;>rfl,O,uR (ρ:=o) O (uT (uN (uL O (uL O (uL (uN (uL O (uL O (uL O (uL O O)))) E) O))) (acn s.p ch (Pg s.g s.i ch))))⟩
 |@seen n B H=>intro k _;obtain⟨z,hz,E⟩:=Sd (R:=R) (c:=c) (m:=m) s U Q I (λ_ h=>h) H;obtain⟨u,hu,rfl⟩:=au.1 hz;obtain⟨b,eb⟩:=QD (V:=V) (R:=R) (c:=c) (m:=m) s hu;let o:aS:=[.z (seO B),.z w,.z S,.z q];exact⟨b,5,_,_,FX,O,by cases k<;>rfl,O,uR (ρ:=o) O (uT (uN (uL O (uL O (uL (uN (uL O (uL O (uL O (uL O O)))) E) O))) eb))⟩
 |@mark n p val hq=>
  intro k _;obtain⟨z,E⟩:∃z,wC [w,S,q,.str p.1]=Z (.str z):=by
   rcases hq with hq|⟨hq,_⟩
   .exact⟨_,J3 _ _ _ (UZ s.g hq)⟩
   .obtain⟨z,_,e⟩:=XY (M:=M) (dk:=dk) (R:=R) (c:=c) U Q I S hq;exact⟨z,e⟩
  let o:L4.D->aS:=λd=>[.z (mkO p.1 val),.z w,.z S,.z q,.z d];have e0:∀(d:L4.D),y4 [S,.str z]=Z d->vd 4 (uO y4 ky) [.z (mkO p.1 val),.z w,.z S,.z q,.un]=Z (.nx (o d)):=λd hd=>(uZ (uN (uL O (uL (uN (uL O (uL O (uL O (uL O O)))) E) O)) hd)).t O;by_cases hn:z∈vo T M
  .exact⟨_,6,_,_,AM,O,by cases k<;>rfl,O,uR (ρ:=o (.int (m z))) O ((uM (e0 _ ((Iv s.p z).t (by rw[aj hn])))).t (uT ((vn O).t (uY (x:=.int (m z)) (y:=.int val) O O (yH _ _ _)))))⟩
  .exact⟨δ,6,_,_,AM,O,by cases k<;>rfl,O,uR (ρ:=o .E) O ((uM (e0 _ ((Iv s.p z).t (by rw[ao hn])))).t (uT (zV O)))⟩
 |@kind n B kk H=>intro k _;obtain⟨z,hz,E⟩:=Sd (R:=R) (c:=c) (m:=m) s U Q I (λ_ h=>h) H;obtain⟨u,hu,rfl⟩:=au.1 hz;let o:aS:=[.z (kiO B kk),.z w,.z S,.z q,.z (et u)];exact⟨_,7,_,_,FZ,O,by cases k<;>rfl,O,uR (ρ:=o) O ((uM (ρ':=o) ((uZ (vB (m:="thing_of") (ns:=t?) (xs:=wA T M dk W V R c) (ys:=[.str u.n]) (ρ2:=[.z (kiO B kk),.z w,.z S,.z q,.un]) O O O (uL (uN (uL O (uL O (uL O (uL O O)))) E) O) (AS s.g.B' hu))).t O)).t (uT ((vn O).t (uY (x:=.str u.k.s) (y:=.str kk) (vQ O (AR u)) O (xN _ _ _)))))⟩
 |@word n d N=>
  intro k _;obtain⟨z,rfl⟩:∃z,x=Z z:=by
   rcases I with ⟨e,_⟩|⟨e,_⟩|⟨e,_⟩|⟨_,d,_,rfl,_⟩
   .rw[e]at N;exact aq N (by decide)
   .rw[e]at N;exact aq N (by decide)
   .rw[e]at N;exact aq N (by decide)
   .exact⟨d,O⟩
  let o:aS:=[.z (woO d),.z w,.z S,.z (q3 v.n (Z z) y)];exact⟨_,8,_,_,F1,O,by cases k<;>rfl,O,uR (ρ:=o) O (uT ((vn (ρ1:=o) (uN (uL O (uL O O)) ((Vz U Q (Z z) y).t (by rw[aU N])))).t (uY (x:=.str z) (y:=.str d) O O (xN _ _ _))))⟩
 |@lit n=>intro k _;obtain⟨b,eb⟩:=Vy (V:=V) (R:=R) (c:=c) (m:=m) s;let o:aS:=[.z liO,.z w,.z S,.z q];exact⟨b,15,_,_,HK,O,by cases k<;>rfl,O,uR (ρ:=o) O (uT (uN (uL O (uL O O)) eb))⟩
 |@no n d h ih=>intro k hk;obtain⟨k,rfl⟩:∃j,k=j+1:=⟨k - 1,by omega⟩;obtain⟨b,j,r,G,Y,rfl,h2,h3,h4⟩:=ih k (by omega);let o:aS:=[.z (noO (.obj j r G)),.z w,.z S,.z q];exact⟨!b,9,["inner"],[.obj j r G],fc 4 4 (zS (vq k)),O,O,O,uR (ρ:=o) O (uT (Mu (vB (g:=vq k) (m:="holds") (c:=j) (ns:=r) (hh:=Y) (xs:=G) (ys:=[w,S,q]) (ρ1:=o) (ρ2:=o) O h2 h3 O h4)))⟩
 |@bo n d e h h' ih ih'=>
  intro k hk;obtain⟨k,rfl⟩:∃j,k=j+1:=⟨k - 1,by omega⟩;obtain⟨b,j,r,G,Y,rfl,h2,h3,h4⟩:=ih k (by omega);obtain⟨b',j',F,C,hh',rfl,h2',h3',h4'⟩:=ih' k (by omega);let D2:L4.D:=boO (.obj j r G) (.obj j' F C);let o:aS:=[.z D2,.z w,.z S,.z q];have e1:vg (vq k) "holds" (c1 (uU Ir "one") aa) cW o=Z (.I b,o):=vB (g:=vq k) (m:="holds") (c:=j) (ns:=r) (hh:=Y) (xs:=G) (ys:=[w,S,q]) (ρ1:=o) (ρ2:=o) O h2 h3 O h4;have e2:vg (vq k) "holds" (c1 (uU D1 "other") aa) cW o=Z (.I b',o):=vB (g:=vq k) (m:="holds") (c:=j') (ns:=F) (hh:=hh') (xs:=C) (ys:=[w,S,q]) (ρ1:=o) (ρ2:=o) O h2' h3' rfl h4';cases b with
  |true=>exact⟨b',10,["one", "other"],[.obj j r G,.obj j' F C],fc 4 4 (yx (vq k)),O,O,O,uR (ρ:=o) O (uT ((vn e1).t e2))⟩
  |false=>exact⟨δ,10,["one", "other"],[.obj j r G,.obj j' F C],fc 4 4 (yx (vq k)),O,O,O,uR (ρ:=o) O (uT (zV e1))⟩
end
section
variable{T:List Th}{M:List Mk}{dk:aE}{W:List Wy}{V:List Vb}{R:List L4.D}{c:L4.D}{P:List Ky}{a:Str->Str}{m:Str->Int}{v:Vb}{x y:Option Str}
def wh.len(s:wh T M dk W P a):P.length<=900:=by have:=(Pe s.g).2;rw[s.p.length_eq];omega
def aef{x:Str}(h:x∈B? T):∃t∈T,t.n=x/\¬t.k=.room:=by obtain⟨t,b,e⟩:=au.1 h;rw[aW]at b;exact⟨t,b.1,e,λz=>by rw[z]at b;exact aq b.2 (by decide)⟩
def VB(s:Str)(x:Str):fb γ (.bt [kD (s,x)]) (.bt [])=Z (.I γ):=by rfl
def Oc(g:ff T M dk W){x:Str}(h:x∈B? T):EN [wO T M dk W V R c,.str x]=Z (.bt [kD ("at", x)]):=by obtain⟨t,j,rfl,i⟩:=aef h;let w:=wO T M dk W V R c;let b:aS:=[.z w,.z (.str t.n),.z (et t)];have d:vd 2 (vg vv "thing_of" aa bE) [.z w,.z (.str t.n),.un]=Z (.nx b):=(uZ (vB (m:="thing_of") (ns:=t?) (xs:=wA T M dk W V R c) (ys:=[.str t.n]) O O O O (AS g.B' j))).t O;have e:cT (c2 (fb δ) (c1 (uU vO "kind") ak) dt) b=Z (δ,b):=v5 (uY (vQ O (AR t)) O ((QC t .room).t (by rw[aT i])));have f:xM (cT (c2 zw ak aF)) (cT (c2 (fb δ) (c1 (uU vO "kind") ak) dt)) b=Z (δ,b):=yO O e;refine uR (ρ:=b) O ((uM d).t (uT ?_));unfold y?;rw[f];rfl
def Se(g:ff T M dk W){x:Str}{t:Th}(j:x∈B? T)(i:t∈T):FV [wO T M dk W V R c,.str x,.str t.n]=Z (.I (t.k.hd&&!decide (t.n=x))):=by
 let w:=wO T M dk W V R c;let b:aS:=[.z w,.z (.str x),.z (.str t.n),.z (et t)];have h:vd 3 (vg vv "thing_of" aa cq) [.z w,.z (.str x),.z (.str t.n),.un]=Z (.nx b):=(uZ (vB (m:="thing_of") (ns:=t?) (xs:=wA T M dk W V R c) (ys:=[.str t.n]) O O O O (AS g.B' i))).t O;have d:vg wc "can_hold" ay vC b=Z (.I t.k.hd,b):=vB (m:="can_hold") (ns:=["name", "words", "kind", "start"]) (xs:=[.str t.n,.d? (t.w.map D.str),.str t.k.s,oS t.s]) (ys:=[]) O O O O (Mo t);refine uR (ρ:=b) O ((uM h).t (uT ((vn (ρ1:=b) (uY (uN (uL O (uL O O)) (Oc g j)) O (VB _ _))).t ((vn (ρ1:=b) O).t ?_))));cases f:t.k.hd with
 |true=>rw[f]at d;exact(vn d).t (uY (x:=.str t.n) (y:=.str x) O O (by rw[xN];rfl))
 |false=>rw[f]at d;exact zV d
def Done(w S q d:L4.D)(o:L4.D):Prop:=∃k e f b,d=.obj k e f/\yV k=Z b/\e.contains "done" = δ/\b [d,w,S,q]=Z o
def stO(P:List Ky):Option ((Str->Str)×(Str->Int))->L4.D
 |none=>.E
 |some q=>sD P (va q.1 q.2)
def QG(s:wh T M dk W P a){q:L4.D}{t d x:Str}{u:Th}(E:x∈B? T)(A:u∈T)(I:x="me" -> u.k=.room)(G:wC [wO T M dk W V R c,sD P (va a m),q,.str t]=Z (.str x))(H:wC [wO T M dk W V R c,sD P (va a m),q,.str d]=Z (.str u.n)):
  ∃o,Done (wO T M dk W V R c) (sD P (va a m)) q (M? t d) (stO P o)/\∀p,o=Z p->c3 T p.1:=by
 let w:=wO T M dk W V R c;let S:=sD P (va a m);obtain⟨l,h⟩:=s.i.ch u.n;let b:aS:=[.z (M? t d),.z w,.z S,.z q,.z (.str x),.z (.str u.n)];have e:cT (uO FV sv) b=Z (u.k.hd&&!decide (u.n=x),b):=v5 (uN (uL O (uL O (uL O O))) (Se s.g E A));have F:cT (c2 (m? δ) aw (cL (vM yw kh))) b=Z (decide (x∈l),b):=v5 (uY (x:=.str x) (y:=.bt (l.map D.str)) O (vR (uN (uL O (uL O (uL O O))) (MG s.p _ h (Pg s.g s.i h)))) (xU δ _ _));have r:∀f:FS,uQ (vd 4 (uO wC fP)) (uQ (vd 5 (uO wC m9)) f) [.z (M? t d),.z w,.z S,.z q,.un,.un]=f b:=λf=>(uM (ρ':=[.z (M? t d),.z w,.z S,.z q,.z (.str x),.un]) ((uZ (uN (uL O (uL O (uL O (uL O O)))) G)).t O)).t (uM (ρ':=b) ((uZ (uN (uL O (uL O (uL O (uL O O)))) H)).t O))
 cases k:u.k.hd&&!decide (u.n=x)with
 |false=>rw[k]at e;exact⟨J,⟨11,_,_,Bf,O,O,O,uR (ρ:=b) O ((r _).t (uW ((vb (F7 (yi e))).t O)))⟩,λp z=>by cases z⟩
 |true=>
  rw[k]at e;rw[aY,fw,decide_eq_false_iff_not]at k;have j:=yO (yi e) F;cases B:decide (x∈l)with
  |true=>rw[B]at j;exact⟨J,⟨11,_,_,Bf,O,O,O,uR (ρ:=b) O ((r _).t (uW ((vb j).t O)))⟩,λp z=>by cases z⟩
  |false=>rw[B]at j;refine⟨Z (U? a x u.n,m),⟨11,_,_,Bf,O,O,O,uR (ρ:=b) O ((r _).t ((vp j).t (uT (uN (ds:=[S,kD ("at", x),.str u.n]) (uL O (uL O (uL O O))) ((QA P s.len (va a m) ("at", x) (.str u.n)).t (by rw[aea];rfl))))))⟩,λp z=>?_⟩;cases z;exact s.i.mv s.g E (au.2 ⟨u,aW.2 ⟨A,k.1⟩,O⟩) (λz=>au.2 ⟨u,aW.2 ⟨A,aU (I z)⟩,O⟩) k.2 h (of_decide_eq_false B)
theorem VC{d:Type}(kf:d->fh)(b:d->Int)(k:fh):∀l:List d,(xu (l.map kf) (l.map λa=>D.int (b a)) k).getD .E=.E\/∃z,(xu (l.map kf) (l.map λa=>D.int (b a)) k).getD .E=.int z
 |[]=>.inl O
 |a::l=>by
  rw[aI,aI];unfold xu;split
  .exact .inr ⟨b a,O⟩
  .exact VC kf b k l
def VE(s:wh T M dk W P a)(B:wC [wO T M dk W V R c,sD P (va a m),q,.str t]=Z (.str z))(n:Int):
  ∃o,Done (wO T M dk W V R c) (sD P (va a m)) q (puO t n) (stO P o)/\∀p,o=Z p->c3 T p.1:=by
 let w:=wO T M dk W V R c;let S:=sD P (va a m);let j:aS:=[.z (puO t n),.z w,.z S,.z q,.z (.str z)];have F:xh [w,.str z]=Z ((xu ((mP T M).map λq=>kS q.1) ((mP T M).map λq=>D.int q.2) (kS z)).getD .E):=uR (ρ:=[.z w,.z (.str z)]) O (uT (uY (x:=mD T M) (y:=.str z) O O O));have H:vd 4 (uO wC fP) [.z (puO t n),.z w,.z S,.z q,.un]=Z (.nx j):=(uZ (uN (uL O (uL O (uL O (uL O O)))) B)).t O;have C:∀(d:L4.D),xh [w,.str z]=Z d->∀f:aS,cV 0 f=Z (w,f)->cV 1 f=Z (.str z,f)->vg wW "most_of" aa bE f=Z (d,f):=λd hd f I B=>vB (m:="most_of") (ns:=t?) (xs:=wA T M dk W V R c) (ys:=[.str z]) I O O (uL B O) hd;have fin:∀b,EO [w,.str z,.int n]=Z (.I b)->∃o,Done w S q (puO t n) (stO P o)/\∀p,o=Z p->c3 T p.1:=λb N=>by
  have G:=yi (v5 (uN (a:=ax ai (ax aw nE)) (ρ:=j) (uL O (uL O (uL O O))) N));cases b with
  |false=>exact⟨J,⟨12,_,_,ES,O,O,O,uR (ρ:=j) O ((uM H).t (uW ((vb G).t O)))⟩,λp z=>by cases z⟩
  |true=>exact⟨Z (a,U? m z n),⟨12,_,_,ES,O,O,O,uR (ρ:=j) O ((uM H).t ((vp G).t (uT (uN (ds:=[S,kD ("mark", z),.int n]) (uL O (uL O (uL O O))) ((QA P s.len (va a m) ("mark", z) (.int n)).t (by rw[aeb _ _ _ _ _ (YD s.p)];rfl))))))⟩,λp z=>by cases z;exact s.i⟩
 let l:aS:=[.z w,.z (.str z)];let r:aS:=[.z w,.z (.str z),.z (.int n)];rcases VC (λq:Str×Int=>kS q.1) bI (kS z) (mP T M)with h|⟨k,h⟩
 .have A:=F.t (bH Z h);have E:Aj [w,.str z]=Z (.bt []):=by refine uR (ρ:=l) O (uT ((JV (ρ1:=l) (v5 (uY (C _ A l O O) O O))).t O))
  exact fin δ (uR (ρ:=r) O (uT (zV (ρ1:=r) (uY (uN (uL O (uL O O)) E) O O))))
 .have A:=F.t (bH Z h);have E:Aj [w,.str z]=Z (.bt [kD ("mark", z)]):=by refine uR (ρ:=l) O (uT ?_);have e:cT (c2 zw (vg wW "most_of" aa bE) aF) l=Z (δ,l):=v5 (uY (C _ A l O O) O O);show y? _ _ _ l=_;unfold y?;rw[e];rfl
  exact fin (decide (n<=k)) (uR (ρ:=r) O (uT ((vn (ρ1:=r) (uY (uN (uL O (uL O O)) E) O (VB _ _))).t (uY (x:=.int n) (y:=.int k) O (C _ A r O O) O))))
def aeg(g:ff T M dk W)(h:z∈rh T):z∈B? T/\¬z="me" := by obtain⟨t,d,rfl⟩:=au.1 h;rw[aW]at d;have b:=d.2;refine⟨(ME g.B' _ d.1).2 (by cases e:t.k<;>rw[e]at b<;>first|rfl|cases b),λz=>?_⟩;obtain⟨u,f,e,k⟩:=N7 g;rw[MC g.B' d.1 f (z.t e.symm),k]at b;cases b
def VF(s:wh T M dk W P a)(C:((V++v9).flatMap Vb.ws).Nodup)(B:v∈V++v9)(l:Cm T W v x y){d:L4.D}(h:Ds T M v.f d):∃o,Done (wO T M dk W V R c) (sD P (va a m)) (q3 v.n x y) d (stO P o)/\∀p,o=Z p->c3 T p.1:=by
 cases h with
 |@put q n h=>
  rcases h with h|⟨h,_⟩
  .exact VE s (J3 _ _ _ (UZ s.g h)) n
  .obtain⟨z,_,e⟩:=XY (M:=M) (dk:=dk) (R:=R) (c:=c) C B l (sD P (va a m)) h;exact VE s e n
 |@W? t b S U Y=>
  obtain⟨z,hz,i⟩:=Sd (R:=R) (c:=c) (m:=m) s C B l (λ_ h=>Oa h) U;obtain⟨u,A,rfl⟩:=au.1 hz;rcases S with ⟨w,j,rfl,X⟩|h
  .have F:=J3 (wO T M dk W V R c) (sD P (va a m)) (q3 v.n x y) (QF s.g (au.2 ⟨w,j,O⟩));refine QG s ((ME s.g.B' _ j).2 (by rw[aT X];rfl)) A (λz=>?_) F i;obtain⟨r,E,e,kr⟩:=Y z;have G:=J3 (wO T M dk W V R c) (sD P (va a m)) (q3 v.n x y) (QF s.g (au.2 ⟨r,E,e⟩));rw[G]at i;have H:b=u.n:=by injection i with i;injection i
   rw[<-MC s.g.B' E A (e.t H)];exact kr
  .obtain⟨w,j,I⟩:=XY (M:=M) (dk:=dk) (R:=R) (c:=c) C B l (sD P (va a m)) h;obtain⟨N,Q⟩:=aeg s.g j;exact QG s N A (λz=>aq z Q) I i
end
section
variable{T:List Th}{M:List Mk}{dk:aE}{W:List Wy}{V:List Vb}{R:List L4.D}{c:L4.D}{P:List Ky}{a:Str->Str}{m:Str->Int}{v:Vb}{x y:Option Str}
def XZ(h:Ob 3 w S q t b)(r:Sl):vg (vq 3) "holds" aw fQ [.z w,.z S,.z q,r,.z t]=Z (.I b,[.z w,.z S,.z q,r,.z t]):=by obtain⟨k,e,f,d,rfl,i,j,l⟩:=h;exact vB (g:=vq 3) (m:="holds") (c:=k) (ns:=e) (hh:=d) (xs:=f) (ys:=[w,S,q]) O i j O l
def fB:FS:=(fm (wt (cT (vg (vq 3) "holds" aw fQ))) (uV bO) u4)
def VG(o:Option L4.D)(ρ:aS):Option tz:=Z (match o with|some d=>.rt d ρ|none=>.nx ρ)
theorem Lx(r:Sl):∀(b:List L4.D) (s:Sl),(∀t∈b,Ob 3 w S q t (f t))->∃l,fu (gN 4) fB b [.z w,.z S,.z q,r,s]=VG (if b.all f then J else Z (.I δ)) [.z w,.z S,.z q,r,l]
 |[],s,_=>⟨s,O⟩
 |t::b,s,h=>by
  unfold fu;rw[show gN 4 t [.z w,.z S,.z q,r,s]=Z [.z w,.z S,.z q,r,.z t] from O,f9];have e:=yi (v5 (XZ (h t aX) r));cases i:f t with
  |true=>rw[i]at e;have d:fB [.z w,.z S,.z q,r,.z t]=Z (.nx [.z w,.z S,.z q,r,.z t]):=(vI e).t O;simp only[d];exact Lx r b (.z t) λu j=>h u (ba _ j)
  |false=>rw[i]at e;have d:fB [.z w,.z S,.z q,r,.z t]=Z (.rt (.I δ) [.z w,.z S,.z q,r,.z t]):=(vb e).t O;simp only[d];exact⟨.z t,O⟩
def Od(n:Str)(d ds:List L4.D)(B:Str)(u:Bool)(h:∀t∈d,∃b,Ob 3 w S q t b):∃f:L4.D->Bool,(∀t∈d,Ob 3 w S q t (f t))/\DN [w,S,q,n? n d ds B u]=Z (.I (d.all f)):=by
 have l:∀t,∃b,t∈d->Ob 3 w S q t b:=λt=>by
  by_cases j:t∈d
  .obtain⟨b,e⟩:=h t j;exact⟨b,λ_=>e⟩
  .exact⟨γ,λz=>aq z j⟩
 let f:L4.D->Bool:=λt=>(l t).choose;have p:∀t∈d,Ob 3 w S q t (f t):=λt j=>(l t).choose_spec j;let r:Sl:=.z (n? n d ds B u);obtain⟨A,e⟩:=Lx r d .un p;refine⟨f,p,?_⟩;have i:=(wF (s:=iL (c1 (uU zB "tests") ay)) (ρ:=[.z w,.z S,.z q,r,.un]) (ds:=d) (ρ1:=[.z w,.z S,.z q,r,.un]) O).t e;cases o:d.all f with
 |true=>rw[o]at i;exact uR (ρ:=[.z w,.z S,.z q,r,A]) O ((uM i).t O)
 |false=>rw[o]at i;exact uR (ρ:=[.z w,.z S,.z q,r,A]) O (uW i)
def y8(k b:Str)(S:L4.D):L4.D:=.d? [.d? [.str k,.str b],S]
def Gd(T:List Th)(P:List Ky)(o:L4.D):Prop:=∃k e b d,o=y8 k e (sD P (va b d))/\(k="refused" \/ k="told")/\c3 T b
def dnB:FS:=(uQ (vd 4 (vg yV "done" br nM))
 (fm (cT (c2 zw aw aF)) (uV (vE (ax (vE r6) bE))) u4))
theorem J4(H:((V++v9).flatMap Vb.ws).Nodup)(G:v∈V++v9)(E:Cm T W v x y)(S:L4.D)(r:Sl):∀(ds:List L4.D) (a:Str->Str) (m:Str->Int) (j:Sl),wh T M dk W P a->(∀d∈ds,Ds T M v.f d)->
  (∃ρ',fu (gN 5) dnB ds [.z (wO T M dk W V R c),.z S,.z (q3 v.n x y),r,.z (sD P (va a m)),j]=Z (.rt (y8 "refused" "That cannot be." S) ρ'))\/∃B Y t5,c3 T B/\fu (gN 5) dnB ds [.z (wO T M dk W V R c),.z S,.z (q3 v.n x y),r,.z (sD P (va a m)),j]=Z (.nx [.z (wO T M dk W V R c),.z S,.z (q3 v.n x y),r,.z (sD P (va B Y)),t5])
 |[],a,m,j,s,_=>.inr ⟨a,m,j,s.i,O⟩
 |d::ds,a,m,j,s,h=>by
  let w:=wO T M dk W V R c;let q:=q3 v.n x y;obtain⟨o,⟨k,A,C,F,rfl,I,N,Q⟩,U⟩:=VF (R:=R) (c:=c) (m:=m) s H G E (h d aX);let l:L4.D:=.obj k A C;let b:L4.D->aS:=λz=>[.z w,.z S,.z q,r,.z z,.z l];have e:=vB (g:=yV) (m:="done") (c:=k) (ns:=A) (hh:=F) (xs:=C) (ys:=[w,sD P (va a m),q]) (e:=cV 5) (a:=ax aa (ax aw cq)) (ρ:=b (sD P (va a m))) (ρ1:=b (sD P (va a m))) (ρ2:=b (sD P (va a m))) O I N O Q;unfold fu;rw[show gN 5 l [.z w,.z S,.z q,r,.z (sD P (va a m)),j]=Z (b (sD P (va a m))) from O];cases o with
  |none=>have t:dnB (b (sD P (va a m)))=Z (.rt (y8 "refused" "That cannot be." S) (b .E)):=(uM (ρ':=b .E) ((uZ e).t O)).t ((vb O).t O);simp only[t];exact .inl ⟨_,O⟩
  |some p=>have t:dnB (b (sD P (va a m)))=Z (.nx (b (sD P (va p.1 p.2)))):=(uM (ρ':=b (sD P (va p.1 p.2))) ((uZ e).t O)).t ((vI O).t O);simp only[t];exact J4 H G E S r ds p.1 p.2 (.z l) ⟨s.g,s.p,U p O⟩ λu X=>h u (ba _ X)
def X0(s:wh T M dk W P a)(F:((V++v9).flatMap Vb.ws).Nodup)(E:v∈V++v9)(B:Cm T W v x y)(n:Str)(u ds:List L4.D)(j:Str)(t:Bool)(hd:∀d∈ds,Ds T M v.f d):∃o,Gd T P o/\zH [wO T M dk W V R c,sD P (va a m),q3 v.n x y,n? n u ds j t]=Z o:=by
 let w:=wO T M dk W V R c;let S:=sD P (va a m);let q:=q3 v.n x y;let r:=n? n u ds j t;let b:Sl->Sl->aS:=λx y=>[.z w,.z S,.z q,.z r,x,y];cases t with
 |true=>exact⟨_,⟨"refused", j,a,m,O,.inl O,s.i⟩,uR (ρ:=b .un .un) O (uW ((vb O).t O))⟩
 |false=>
  rcases J4 (R:=R) (c:=c) F E B S (.z (n? n u ds j δ)) ds a m .un s hd with ⟨h,e⟩|⟨l,p,A,C,e⟩
  .exact⟨_,⟨"refused", "That cannot be.", a,m,O,.inl O,s.i⟩,uR (ρ:=h) O ((vp O).t ((uM (ρ':=b (.z S) .un) O).t (uW ((wF (ds:=ds) (ρ1:=b (.z S) .un) O).t e))))⟩
  .exact⟨_,⟨"told", j,l,p,O,.inr O,C⟩,uR (ρ:=b (.z (sD P (va l p))) A) O ((vp O).t ((uM (ρ':=b (.z S) .un) O).t ((uM (ρ':=b (.z (sD P (va l p))) A) ((wF (ds:=ds) (ρ1:=b (.z S) .un) O).t e)).t O)))⟩
def Ly{c b:FT}{ρ ρ1:aS}(h:c ρ=Z (γ,ρ1)):xl c b ρ=b ρ1:=by unfold xl;rw[h]
def LA{c b:FT}{ρ ρ1:aS}(h:c ρ=Z (δ,ρ1)):xl c b ρ=Z (δ,ρ1):=by unfold xl;rw[h]
def YG(h:e ρ=Z (.d? b,ρ1)):iT e ρ=Z (b,ρ1):=by unfold iT;rw[h]
def nmP(b:List (Option Str)):aE:=b.filterMap id
def fU(b:List (Option Str))(p:Str->Bool):Option Str:=(nmP b).find? λx=>!p x
def uB:FS:=(fm (xl (cT (c2 w6 aw aF)) (cT (c2 (m? γ) aw ay))) (uV (vE sm)) u4)
def MJ(x:Str)(b:List (Option Str))(p:Str->Bool):fU (Z x::b) p=if p x then fU b p else Z x:=by unfold fU;show (x::nmP b).find? _=_;rw[dB];cases p x<;>rfl
theorem MK{w q s5:Sl}{S:L4.D}{L:aE}{p:Str->Bool}:∀(d:List (Option Str)) (s:Sl),(∀x∈nmP d,decide (x∈L)=p x)->∃f,fu (gN 4) uB (d.map oS) [w,.z S,q,.z (.bt (L.map D.str)),s,s5]=VG ((fU d p).map λx=>y8 "unseen" x S) [w,.z S,q,.z (.bt (L.map D.str)),f,s5]
 |[],s,_=>⟨s,O⟩
 |none::d,s,h=>by obtain⟨f,e⟩:=MK (w:=w) (q:=q) (s5:=s5) (S:=S) (L:=L) (p:=p) d (.z .E) h;exact⟨f,e⟩
 |some x::d,s,h=>by
  let b:aS:=[w,.z S,q,.z (.bt (L.map D.str)),.z (.str x),s5];have o:=h x aX;have i:xl (cT (c2 w6 aw aF)) (cT (c2 (m? γ) aw ay)) b=Z (!p x,b):=(Ly (ρ1:=b) O).t (v5 (uY (x:=.str x) (y:=.bt (L.map D.str)) O O ((xU γ x L).t (by rw[<-o];rfl))));rw[aI];unfold fu;rw[show gN 4 (oS (Z x)) [w,.z S,q,.z (.bt (L.map D.str)),s,s5]=Z b from O];rw[MJ];cases l:p x with
  |true=>rw[l]at i;obtain⟨f,e⟩:=MK (w:=w) (q:=q) (s5:=s5) (S:=S) (L:=L) (p:=p) d (.z (.str x)) λy r=>h y (ba _ r);refine⟨f,?_⟩;have j:uB b=Z (.nx b):=(vI i).t O;simp only[j];exact e
  |false=>rw[l]at i;refine⟨.z (.str x),?_⟩;have j:uB b=Z (.rt (y8 "unseen" x S) b):=(vb i).t O;simp only[j];rfl
def aB:FS:=(fm (cT (uO DN kC)) (uV (uO zH kC)) u4)
def noD(S:L4.D):L4.D:=y8 "refused" "Nothing comes of it." S
def FF(w S q o:L4.D):List L4.D->Prop
 |[]=>o=noD S
 |r::rs=>(DN [w,S,q,r]=Z (.I γ)/\zH [w,S,q,r]=Z o)\/(DN [w,S,q,r]=Z (.I δ)/\FF w S q o rs)
theorem Oe(j:Gd T P (noD S)):∀(rs:List L4.D) (s:Sl),(∀r∈rs,(∃b,DN [w,S,q,r]=Z (.I b))/\∃o,Gd T P o/\zH [w,S,q,r]=Z o)->∃o,Gd T P o/\FF w S q o rs/\((∃ρ',fu (gN 5) aB rs [.z w,.z S,.z q,s3,s4,s]=Z (.rt o ρ'))\/(o=noD S/\∃z,fu (gN 5) aB rs [.z w,.z S,.z q,s3,s4,s]=Z (.nx [.z w,.z S,.z q,s3,s4,z])))
 |[],s,_=>⟨_,j,O,.inr ⟨O,s,O⟩⟩
 |r::rs,s,h=>by
  obtain⟨⟨b,f⟩,o,i,l⟩:=h r aX;unfold fu;rw[show gN 5 r [.z w,.z S,.z q,s3,s4,s]=Z [.z w,.z S,.z q,s3,s4,.z r] from O];have e:=v5 (uN (a:=ax aa kh) (ρ:=[.z w,.z S,.z q,s3,s4,.z r]) (uL O (uL O (uL O (uL O O)))) f);cases b with
  |true=>have d:aB [.z w,.z S,.z q,s3,s4,.z r]=Z (.rt o [.z w,.z S,.z q,s3,s4,.z r]):=(vb e).t (uT (uN (uL O (uL O (uL O (uL O O)))) l));simp only[d];exact⟨o,i,.inl ⟨f,l⟩,.inl ⟨_,O⟩⟩
  |false=>have d:aB [.z w,.z S,.z q,s3,s4,.z r]=Z (.nx [.z w,.z S,.z q,s3,s4,.z r]):=(vI e).t O;simp only[d];obtain⟨o,i,hF,t⟩:=Oe (s3:=s3) (s4:=s4) j rs (.z r) λu p=>h u (ba _ p);exact⟨o,i,.inr ⟨f,hF⟩,t⟩
theorem Iw(p:Str->Bool):∀b:List (Option Str),(b.filter λo=>match o with|none=>δ|some x=>p x).map oS=((nmP b).filter p).map D.str
 |[]=>rfl
 |none::b=>Iw p b
 |some x::b=>by
  show _=((x::nmP b).filter p).map D.str;rw[fY,fY];show dH oS (if p x=γ then _ else _)=dH _ (if p x=γ then _ else _);by_cases d:p x=γ
  .rw[aj d,aj d,aI,aI,Iw p b];rfl
  .rw[ao d,ao d];exact Iw p b
def VH(s:wh T M dk W P a){q:L4.D}{n:Str}{d:List (Option Str)}{p:Str->Bool}{rs:List L4.D}(hO:d.length<=2)(hq:∃t u,q=.d? [.str n,t,u])(Y:yL [wO T M dk W V R c,q]=Z .E)(Q:wz [wO T M dk W V R c,q]=Z (.d? (d.map oS)))(h3:∀x∈nmP d,wQ [wO T M dk W V R c,sD P (va a m),.str x]=Z (.I (p x)))
  (h4:xt [wO T M dk W V R c,.str n]=Z (.bt rs)) (h5:∀r∈rs,(∃b,DN [wO T M dk W V R c,sD P (va a m),q,r]=Z (.I b))/\∃o,Gd T P o/\zH [wO T M dk W V R c,sD P (va a m),q,r]=Z o):∃o,Gd T P o/\FF (wO T M dk W V R c) (sD P (va a m)) q o rs/\Cw [wO T M dk W V R c,sD P (va a m),q]=Z (match fU d p with|some x=>y8 "unseen" x (sD P (va a m))|none=>o):=by
 let w:=wO T M dk W V R c;let S:=sD P (va a m);let L:=(nmP d).filter p;let j:L4.D:=.bt (L.map D.str);let l:aS:=[.z w,.z S,.z q,.un];let G:aS:=[.z w,.z S,.z q,.z j];have E:vd 3 (cL (u5 1 [0,1] (iT (uO wz cX)) (gN 0) (cT (uO wQ iq)) aa)) l=Z (.nx G):=by
  refine(uZ (vR ((zq oS oS (λo=>match o with|none=>δ|some x=>p x) d (ρ1:=l) (YG (uN (uL O (uL O O)) Q)) (by omega) λx B=>⟨[.z (oS x),.z w,.z S],[.z (oS x),.z w,.z S],O,v5 (uN (uL O (uL O (uL O O))) ?_),λ_=>⟨_,O,O⟩,λ_=>O⟩).t (by rw[Iw])))).t O;cases x with
  |none=>exact XW S
  |some x=>exact h3 x (iF.2 ⟨_,B,O⟩)
 have hans:∃o,Gd T P o/\FF w S q o rs/\ET [w,S,q,j]=Z (match fU d p with|some x=>y8 "unseen" x S|none=>o):=by
  let X:aS:=[.z w,.z S,.z q,.z j,.un,.un];obtain⟨F,e⟩:=MK (w:=.z w) (q:=.z q) (s5:=.un) (S:=S) (L:=L) (p:=p) d .un λx B=>by rw[c9,bT,aW];exact⟨λz=>z.2,λz=>⟨B,z⟩⟩
  have A:yb (iT (uO wz cX)) (gN 4) uB X=_:=(wF (ρ1:=X) (YG (uN (uL O (uL O O)) Q))).t e;obtain⟨o,I,hF,B⟩:=Oe (T:=T) (P:=P) (s3:=.z j) (s4:=F) (S:=S) ⟨_,_,a,m,O,.inl O,s.i⟩ rs .un h5;refine⟨o,I,hF,?_⟩;cases U:fU d p with
  |some x=>rw[U]at A;exact uR O (uW A)
  |none=>
   rw[U]at A;obtain⟨t,u,rfl⟩:=hq;have E:∀{z},fu (gN 5) aB rs [.z w,.z S,.z (.d? [.str n,t,u]),.z j,F,.un]=z->_=z:=λh=>(wF (g:=gN 5) (f:=aB) (HU (vB (g:=xR) (e:=cV 0) (a:=a1 (c2 f? ak aP)) (ρ:=[.z w,.z S,.z (.d? [.str n,t,u]),.z j,F,.un]) (ρ1:=[.z w,.z S,.z (.d? [.str n,t,u]),.z j,F,.un]) (m:="rules_to_try") (ns:=t?) (xs:=wA T M dk W V R c) (ys:=[.str n]) O O O O h4))).t h;rcases B with ⟨N,H⟩|⟨rfl,s2,H⟩
   .exact uR O ((uM A).t (uW (E H)))
   .exact uR O ((uM A).t ((uM (E H)).t O))
 obtain⟨o,I,hF,hans⟩:=hans;exact⟨o,I,hF,uR (ρ:=G) O ((uM (ρ':=l) (wm (uN (uL O (uL O O)) Y))).t ((uM E).t (uT (uN (uL O (uL O (uL O (uL O O)))) hans))))⟩
end
section
variable{T:List Th}{M:List Mk}{dk:aE}{W:List Wy}{V:List Vb}{R:List L4.D}{c:L4.D}{P:List Ky}{a:Str->Str}{m:Str->Int}{v:Vb}{x y:Option Str}
def aeh(g:ff T M dk W):("me" : Str)∈qs T:=by obtain⟨t,b,e,k⟩:=N7 g;exact au.2 ⟨t,aW.2 ⟨b,by rw[k];rfl⟩,e⟩
def trR(v k:Str)(n:Int)(b d e:Str):List L4.D:=[n? v [noO (kiO "it" k)] [] b γ,n? v [mkO "it" n] [] d γ,n? v [] [puO "it" n] e δ]
def acq:A21=[n? "take" [kiO "it" "fixed"] [] "That stays." γ,n? "take" [atO "it" "me"] [] "You have that." γ,n? "take" [] [M? "it" "me"] "Taken." δ,n? "drop" [hsO "it"] [M? "it" "here"] "Dropped." δ,n? "drop" [] [] "You lack that." γ,n? "put" [noO (hsO "it")] [] "You lack that." γ,n? "put" [noO (kiO "other" "box")] [] "It holds nothing." γ,n? "put" [mkO "other" 0] [] "It is shut." γ,n? "put" [] [M? "it" "other"] "Done." δ]++(trR "open" "box" 1 "It has no lid." "It is open." "Opened." ++ trR "shut" "box" 0 "It has no lid." "It is shut." "Shut." ++ (trR "light" "lamp" 1 "It burns not." "It is lit." "Lit." ++ trR "douse" "lamp" 0 "It burns not." "It is out." "Doused.")):=by kernel_rfl
def AU(j:v∈v9)(i:∀t∈b,Ts T M v.f 2 t)(hd:∀e∈d,Ds T M v.f e)(h:b.length<=9:=by exact iA O):RuS T M V (n? v.n b d o l):=⟨v,bA _ j,b,d,o,l,O,h,i,hd⟩
def ι{b:Type}{p:b->Prop}{d:b}(h:p d):∀e∈[d],p e:=λe f=>by rw[bp.1 f];exact h
def R?{b:Type}{p:b->Prop}:∀e∈([]:List b),p e:=λe d=>by cases d
def QH(b:(⟨n,[],"one", J⟩:Vb)∈v9):∀r∈trR n k z f h i,RuS T M V r:=λr d=>by
 have e:By "one" "it" := .inl ⟨O,by decide⟩;have mt:Mt T M "one" ("it", 1):=.inr ⟨e,by decide⟩;simp only[trR,aO,cA,or_false]at d;rcases d with rfl|rfl|rfl
 .exact AU b (ι (.no (.kind (.inr (.inr e))))) R?
 .exact AU b (ι (.mark (q:=("it", 1)) mt)) R?
 .exact AU b R? (ι (.put (q:=("it", 1)) mt))
def acr(g:ff T M dk W):∀r∈A21,RuS T M V r:=λr hr=>by
 have d:By "one" "it" := .inl ⟨O,by decide⟩;have j:By "two" "it" := .inl ⟨O,by decide⟩;have f:By "two" "other" := .inr ⟨O,O⟩;have l:=aeh g;have nme:("it" : Str)="me" -> ∀b:Str,∃t∈T,t.n=b/\t.k=.room:=λz=>aq z (by decide);have h:(⟨"take", [],"one", J⟩:Vb)∈v9:=by simp[v9]
 have i:(⟨"drop", [],"one", J⟩:Vb)∈v9:=by simp[v9]
 have e:(⟨"put", [],"two", Z "in"⟩:Vb)∈v9:=by simp[v9]
 rw[acq]at hr;rcases aV.1 hr with hr|hr
 .simp only[aO,cA,or_false]at hr;rcases hr with rfl|rfl|rfl|rfl|rfl|rfl|rfl|rfl|rfl
  .exact AU h (ι (.kind (.inr (.inr d)))) R?
  .exact AU h (ι (.ats (.inr (.inr d)) (.inl l))) R?
  .exact AU h R? (ι (.W? (.inr d) (.inl l) λz=>nme z _))
  .exact AU i (ι (.has (.inr (.inr d)))) (ι (.W? (.inr d) (.inr (.inl O)) λz=>nme z _))
  .exact AU i R? R?
  .exact AU e (ι (.no (.has (.inr (.inr j))))) R?
  .exact AU e (ι (.no (.kind (.inr (.inr f))))) R?
  .exact AU e (ι (.mark (q:=("other", 1)) (.inr ⟨f,by decide⟩))) R?
  .exact AU e R? (ι (.W? (.inr j) (.inr (.inr f)) λz=>nme z _))
 .rcases aV.1 hr with hr|hr
  .rcases aV.1 hr with hr|hr
   .exact QH (by simp[v9]) r hr
   .exact QH (by simp[v9]) r hr
  .rcases aV.1 hr with hr|hr
   .exact QH (by simp[v9]) r hr
   .exact QH (by simp[v9]) r hr
def VI(h:r∈k? T):r∈qs T:=by obtain⟨u,b,e⟩:=au.1 h;rw[aW]at b;exact au.2 ⟨u,aW.2 ⟨b.1,by rw[bF b.2];rfl⟩,e⟩
def aei(g:ff T M dk W)(b:Ks T M w):RuS T M V (goO w):=by
 have l:(⟨"go", [],"way", J⟩:Vb)∈v9:=by simp[v9]
 obtain⟨t,i,e,k⟩:=N7 g;have o:("me" : Str)∈T.map Th.n:=au.2 ⟨t,i,e⟩;refine AU l (λd hd=>?_) (ι (.W? (.inl ⟨t,i,e,by rw[k];exact λz=>by cases z⟩) (.inl (VI b.hg)) λ_=>?_)) (by unfold wtL;cases w.m<;>exact iA O)
 .unfold wtL at hd;rcases aV.1 hd with hd|hd
  .rw[aO,bp]at hd;rcases hd with rfl|rfl
   .exact .ats (.inl o) (.inl (VI b.hr))
   .exact .word O
  .cases f:w.m with
   |none=>rw[f]at hd;cases hd
   |some k=>rw[f]at hd;rw[bp.1 hd];have:=b.hm k f;rw[<-O5]at this;obtain⟨q,j,rfl⟩:=au.1 this;exact .no (.mark (.inl j))
 .obtain⟨u,h,e⟩:=au.1 b.hg;rw[aW]at h;exact⟨u,h.1,e,bF h.2⟩
def YH(g:ff T M dk W):∀r∈SH W,RuS T M V r:=λr hr=>by
 have b:(⟨"go", [],"way", J⟩:Vb)∈v9:=by simp[v9]
 have e:(⟨"wait", [],"alone", J⟩:Vb)∈v9:=by simp[v9]
 unfold SH at hr;rcases aV.1 hr with hr|hr
 .rcases aV.1 hr with hr|hr
  .exact acr g r hr
  .rcases aV.1 hr with hr|hr
   .obtain⟨w,d,rfl⟩:=au.1 hr;exact aei g (g.wo w d)
   .rw[bp.1 hr];exact AU b R? R?
 .rw[bp.1 hr];exact AU e R? R?
def vb_f{L:List Vb}(d:(L.flatMap Vb.ws).Nodup)(i:u∈L)(j:v∈L)(e:u.n=v.n):u.f=v.f:=by have b:=Mz d i;have h:=Mz d j;rw[e,h]at b;injection b with b;injection b with _ _ b;injection b with _ b;injection b with _ b;injection b with b _;injection b with b;exact b.symm
def acs(h:∀j,gl f dss j=(R++SH W).filter λd=>decide (kv d=j))(n:Str):xt [wO T M dk W V R (.Q f (dss.map .bt)),.str n]=Z (.bt ((R++SH W).filter λd=>decide (kv d=kS n))):=by let b:aS:=[.z (wO T M dk W V R (.Q f (dss.map .bt))),.z (.str n)];refine Gr (ρ:=b) O (xn ?_);have e:KQ (c1 (uU zg "rules_by_verb") aa) ai (cL (vx vC)) b=Z ((xu f (dss.map .bt) (kS n)).getD (.bt []),b):=rfl;rw[Qu,h]at e;show A1 _ b=_;unfold A1;rw[e];rfl
def Try(T:List Th)(M:List Mk)(dk:aE)(W:List Wy)(V:List Vb)(R:List L4.D)(c:L4.D):Prop:=∀n:Str,xt [wO T M dk W V R c,.str n]=Z (.bt ((R++SH W).filter λd=>decide (kv d=kS n)))
def Ph(g:ff T M dk W){x:Str}(h:x∈rh T):y6 [wO T M dk W V R c,.str x]=Z (.I γ):=by
 obtain⟨t,e,rfl⟩:=au.1 h;rw[aW]at e;let w:=wO T M dk W V R c;let b:aS:=[.z w,.z (.str t.n),.z (et t)];have f:vd 2 (y? (cT (c1 (v3 (wx "str")) ai)) (vg vv "thing_of" aa bE) aF) [.z w,.z (.str t.n),.un]=Z (.nx b):=by refine(uZ (d:=et t) (ρ':=[.z w,.z (.str t.n),.un]) ?_).t O;show vg vv "thing_of" aa bE [.z w,.z (.str t.n),.un]=_;exact vB (m:="thing_of") (ns:=t?) (xs:=wA T M dk W V R c) (ys:=[.str t.n]) O O O O (AS g.B' e.1)
 exact uR (ρ:=b) O ((uM f).t (uT ((vn (ρ1:=b) O).t (vB (m:="is_plainly") (ns:=["name", "words", "kind", "start"]) (xs:=[.str t.n,.d? (t.w.map D.str),.str t.k.s,oS t.s]) (ys:=[]) O O O O ((F4 t).t (by rw[e.2]))))))
def X2(g:ff T M dk W)(j:Cm T W v x y):DM [wO T M dk W V R c,.str v.f,oS x,oS y]=Z (.I γ):=by
 rcases j with ⟨e,n,h,rfl,rfl⟩|⟨e,n,h,k,l,rfl,rfl⟩|⟨e,rfl,rfl⟩|⟨e,d,hd,rfl,rfl⟩
 .rw[e];let b:aS:=[.z (wO T M dk W V R c),.z (.str "one"),.z (.str n),.z .E];exact uR (ρ:=b) O ((vp O).t ((vp O).t ((vp O).t (uT (by show uO y6 cX b=_;exact uN (uL O (uL O O)) (Ph g h))))))
 .rw[e];let b:aS:=[.z (wO T M dk W V R c),.z (.str "two"),.z (.str n),.z (.str k)];exact uR (ρ:=b) O (uW ((vb O).t (uT ((vn (ρ1:=b) (uN (uL O (uL O O)) (Ph g h))).t (uN (uL O (uL O O)) (Ph g l))))))
 .rw[e];let b:aS:=[.z (wO T M dk W V R c),.z (.str "alone"),.z .E,.z .E];exact uR (ρ:=b) O ((vp O).t ((vp O).t ((vp O).t (uT O))))
 .rw[e];let b:aS:=[.z (wO T M dk W V R c),.z (.str "way"),.z (.str d),.z .E];refine uR (ρ:=b) O ((vp O).t ((vp O).t (uW ((vb O).t (uT ((vn (ρ1:=b) O).t (uY (x:=.str d) (y:=.bt ((S? W).map D.str)) O (vB (m:="way_words") (ns:=t?) (xs:=wA T M dk W V R c) (ys:=[]) O O O O (N1 g.w8 λw o=>(g.wo w o).hw)) ((xU δ _ _).t ?_))))))));show Z (D.I (decide (d∈S? W)))=_;rw[aU hd]
def acu(g:ff T M dk W)(p:((V++v9).flatMap Vb.ws).Nodup)(o:v∈V++v9)(l:Cm T W v x y):yL [wO T M dk W V R c,q3 v.n x y]=Z .E:=by
 let w:=wO T M dk W V R c;let q:=q3 v.n x y;have j:Cv [w,q]=Z (.I γ):=by let e:aS:=[.z w,.z q,.un];let d:aS:=[.z w,.z q,.z (ki v)];have i:vd 2 (vg we "verb_of" aa il) e=Z (.nx d):=(uZ (vB (m:="verb_of") (ns:=t?) (xs:=wA T M dk W V R c) (ys:=[.str v.n]) O O O O (QE p o))).t O;refine uR (ρ:=d) O ((vp O).t ((uM i).t (uT ((vn (ρ1:=d) O).t ((vn (ρ1:=d) (uY (x:=.str v.n) (y:=.str v.n) O O (by rw[xN];simp))).t (uN (ds:=[w,.str v.f,oS x,oS y]) (uL O (uL O (uL O (uL O O)))) (X2 g l)))))))
 exact Bl (ρ:=[.z w,.z q]) O ((vI (yi (b:=γ) (v5 (uN (uL O (uL O O)) j)))).t O)
def YI(h:Cm T W v x y):∀z∈nmP (Z? v x y),z∈rh T:=λz b=>by
 unfold Z? at b;rcases h with ⟨e,n,f,rfl,rfl⟩|⟨e,n,f,k,i,rfl,rfl⟩|⟨e,rfl,rfl⟩|⟨e,d,hd,rfl,rfl⟩
 .rw[e,ao (by decide),show nmP [Z n,J]=[n] from O,bp]at b;rw[b];exact f
 .rw[e,ao (by decide),show nmP [Z n,Z k]=[n,k] from O,aO,bp]at b;rcases b with rfl|rfl
  .exact f
  .exact i
 .rw[e,ao (by decide)]at b;cases b
 .rw[e,aj O]at b;cases b
def VJ(s:wh T M dk W P a)(f:((V++v9).flatMap Vb.ws).Nodup)(E:Try T M dk W V R c)(hR:∀r∈R,RuS T M V r)(b:v∈V++v9)(i:Cm T W v x y)(B:∀z∈rh T,wQ [wO T M dk W V R c,sD P (va a m),.str z]=Z (.I (p z))):
  ∃o,Gd T P o/\FF (wO T M dk W V R c) (sD P (va a m)) (q3 v.n x y) o ((R++SH W).filter λd=>decide (kv d=kS v.n))/\Cw [wO T M dk W V R c,sD P (va a m),q3 v.n x y]=Z (match fU (Z? v x y) p with|some z=>y8 "unseen" z (sD P (va a m))|none=>o):=by
 refine VH s (by unfold Z?;split<;>exact aN 2) ⟨_,_,O⟩ (acu s.g f b i) (Lv f b x y) (λz G=>B z (YI i z G)) (E v.n) λr C=>?_;obtain⟨j,l⟩:=aW.1 C;obtain⟨u,F,I,A,N,H,rfl,_,q,w⟩:RuS T M V r:=(aV.1 j).elim (hR r) (YH s.g r);have e:u.n=v.n:=O2 (bF l);rw[vb_f f F b e]at q w;obtain⟨Q,_,e⟩:=Od u.n I A N H λt h=>Lw s f b i (q t h) 3 (by decide);exact⟨⟨_,e⟩,X0 s f b i _ _ _ _ _ w⟩
def aek(l:∀v∈V++v9,v.f∈p?)(p:q∈cmA (rh T) (S? W) ((V++v9).map nf)):∃v∈V++v9,∃x y,q=q3 v.n x y/\Cm T W v x y:=by
 obtain⟨n,o,p⟩:=dP.1 p;obtain⟨v,r,rfl⟩:=au.1 o;obtain⟨z,b,rfl⟩:=au.1 p;refine⟨v,r,?_⟩;have l:=l v r;unfold obF at b;show ∃x y,p3 v.n z=q3 v.n x y/\Cm T W v x y;by_cases e:v.f="alone"
 .rw[aj (show (nf v).2="alone" from e)]at b;rw[bp.1 b];exact⟨J,J,O,.inr (.inr (.inl ⟨e,O,O⟩))⟩
 .rw[ao (show ¬(nf v).2="alone" from e)]at b;by_cases i:v.f="way"
  .rw[aj (show (nf v).2="way" from i)]at b;obtain⟨d,hd,rfl⟩:=au.1 b;exact⟨Z d,J,O,.inr (.inr (.inr ⟨i,d,hd,O,O⟩))⟩
  .rw[ao (show ¬(nf v).2="way" from i)]at b;by_cases j:v.f="one"
   .rw[aj (show (nf v).2="one" from j)]at b;obtain⟨d,hd,rfl⟩:=au.1 b;exact⟨Z d,J,O,.inl ⟨j,d,hd,O,O⟩⟩
   .rw[ao (show ¬(nf v).2="one" from j)]at b;obtain⟨n,o,b⟩:=dP.1 b;obtain⟨k,u,rfl⟩:=au.1 b;have t:v.f="two" := by
     simp only[p?,aO,cA,or_false]at l;rcases l with h|h|h|h
     .exact aq h j
     .exact h
     .exact aq h e
     .exact aq h i
    exact⟨Z n,Z k,O,.inr (.inl ⟨t,n,o,k,u,O,O⟩)⟩
end
def eq_self(a:Kg γ d d=J)(b:rl d=Z x)(c:Pz x x=γ)(e:ll x<=20):fb γ d d=Z (.I δ):=by unfold fb;rw[a];simp only;unfold OD;rw[b];simp only;rw[c,M4,aU e];rfl
theorem QI(a:Str->Str)(m:Str->Int):∀P:List Ky,∃l,zx (P.map λk=>.d? [kD k,va a m k])=Z l/\wM l<=2
 |[]=>⟨[],O,by decide⟩
 |k::P=>by
  obtain⟨l,e,h⟩:=QI a m P;obtain⟨z,c,d⟩:∃z,rl (va a m k)=Z z/\ll z=0:=by
   unfold va;split
   .exact⟨.str _,O,O⟩
   .exact⟨.int _,O,O⟩
  have b:rl (.d? [kD k,va a m k])=Z (.d? [.d? [.str k.1,.str k.2],z]):=by
   unfold rl;have:zx [kD k,va a m k]=Z [.d? [.str k.1,.str k.2],z]:=by unfold zx;rw[show rl (kD k)=Z (.d? [.str k.1,.str k.2]) from O];unfold zx;rw[c];rfl
   rw[this]
  refine⟨_::l,by rw[aI];unfold zx;rw[b,e],?_⟩;rw[wM,ll,wM,wM,wM,d];have:ll (.d? [.str k.1,.str k.2])=1:=by rw[ll,wM,wM,wM];rfl
  rw[this];omega
def Sf(k b:Str)(P:List Ky)(a:Str->Str)(m:Str->Int):fb γ (y8 k b (sD P (va a m))) (y8 k b (sD P (va a m)))=Z (.I δ):=by
 obtain⟨l,e,h⟩:=QI a m P;have c:rl (sD P (va a m))=Z (.d? l):=by unfold sD rl;rw[e]
 refine eq_self (x:=.d? [.d? [.str k,.str b],.d? l]) O ?_ O ?_
 .unfold y8 rl;have:zx [.d? [.str k,.str b],sD P (va a m)]=Z [.d? [.str k,.str b],.d? l]:=by unfold zx;rw[show rl (.d? [.str k,.str b])=Z (.d? [.str k,.str b]) from O];unfold zx;rw[c];rfl
  rw[this]
 .have:ll (.d? [.str k,.str b])=1:=by rw[ll,wM,wM,wM];rfl
  rw[ll,wM,wM,wM,this,ll];omega
section
variable{T:List Th}{M:List Mk}{dk:aE}{W:List Wy}{V:List Vb}{R:List L4.D}{c:L4.D}{P:List Ky}{a:Str->Str}{m:Str->Int}{v:Vb}{x y:Option Str}
def Jn(s:wh T M dk W P a):∃p:Str->Bool,∀x∈T.map Th.n,wQ [wO T M dk W V R c,sD P (va a m),.str x]=Z (.I (p x)):=by
 have h:∀x:Str,∃b:Bool,x∈T.map Th.n->wQ [wO T M dk W V R c,sD P (va a m),.str x]=Z (.I b):=λx=>by
  by_cases d:x∈T.map Th.n
  .obtain⟨t,f,rfl⟩:=au.1 d;obtain⟨b,e⟩:=QD (V:=V) (R:=R) (c:=c) (m:=m) s f;exact⟨b,λ_=>e⟩
  .exact⟨δ,λz=>aq z d⟩
 exact⟨λx=>(h x).choose,λx=>(h x).choose_spec⟩
def VL{l:aE}(h:f ρ=Z (.bt (l.map D.str),ρ1))(b:l.length<64):Gu f ρ=Z ((zt l).map D.str,ρ1):=by unfold Gu;rw[h];simp only[GR];rw[aj b]
def X3(s:wh T M dk W P a)(f:∀x∈T.map Th.n,wQ [wO T M dk W V R c,sD P (va a m),.str x]=Z (.I (p x))):Mm [wO T M dk W V R c,sD P (va a m)]=Z ((zt ((T.map Th.n).filter p)).map D.str):=by
 let w:=wO T M dk W V R c;let S:=sD P (va a m);let b:aS:=[.z w,.z S];have d:=s.g.len;have e:cL (u5 1 [0,1] (iL (vg xJ "names" aa vC)) (gN 0) (cT (uO wQ iq)) aa) b=Z (.bt (((T.map Th.n).filter p).map D.str),b):=
  vR (zq D.str D.str p (T.map Th.n) (ρ1:=b) (HU (vB (m:="names") (ns:=t?) (xs:=wA T M dk W V R c) (ys:=[]) O O O O ((N2 T d).t (by rw[bc];rfl)))) (by rw[ag];omega) λx h=>⟨[.z (.str x),.z w,.z S],[.z (.str x),.z w,.z S],O,v5 (uN (uL O (uL O (uL O O))) (f x h)),λ_=>⟨_,O,O⟩,λ_=>O⟩)
 exact zZ (ρ:=b) O (xn (VL e (by have:=cu p (T.map Th.n);rw[ag]at this;omega)))
def dI(w N L S q:L4.D)(rs s7 b:Sl)(t:Sl):aS:=[.z w,t,rs,.z S,.z q,.z N,.z L,s7,b]
def duB:FS:=(fm (xl (cT (c2 (m? δ) bq br)) (cT (c2 (m? γ) bq bR))) (uV (vE sg)) u4)
def acv(l:aE):m? δ .E (.bt (l.map D.str))=Z (.I δ):=by
 have h:∀l:aE,inV (vD .E) ((l.map D.str).map vD)=δ/\(l.map D.str).all xH=γ:=λl=>by
  induction l with
  |nil=>exact⟨O,O⟩
  |cons x l b=>exact⟨b.1,b.2⟩
 show (if xH .E&&(l.map D.str).all xH then Z (D.I (inV (vD .E) ((l.map D.str).map vD)))else J)=_;rw[(h l).1,(h l).2];rfl
theorem ML{w S q:L4.D}{N L:aE}{p:Str->Bool}(rs t d:Sl):∀(f:List (Option Str)) (s:Sl),(∀x∈nmP f,(!(decide (x∈N)&&!decide (x∈L)))=p x)->∃l,fu (gN 7) duB (f.map oS) (dI w (.bt (N.map D.str)) (.bt (L.map D.str)) S q rs s d t)=VG ((fU f p).map λx=>y8 "unseen" x S) (dI w (.bt (N.map D.str)) (.bt (L.map D.str)) S q rs l d t)
 |[],s,_=>⟨s,O⟩
 |none::f,s,h=>by let b:=dI w (.bt (N.map D.str)) (.bt (L.map D.str)) S q rs (.z .E) d t;have i:xl (cT (c2 (m? δ) bq br)) (cT (c2 (m? γ) bq bR)) b=Z (δ,b):=LA (v5 (uY (x:=.E) (y:=.bt (N.map D.str)) O O (acv N)));obtain⟨l,e⟩:=ML (w:=w) (S:=S) (q:=q) (N:=N) (L:=L) (p:=p) rs t d f (.z .E) h;refine⟨l,?_⟩;rw[aI];unfold fu;rw[show gN 7 (oS J) (dI w (.bt (N.map D.str)) (.bt (L.map D.str)) S q rs s d t)=Z b from O];have j:duB b=Z (.nx b):=(vI i).t O;simp only[j];exact e
 |some x::f,s,h=>by
  let b:=dI w (.bt (N.map D.str)) (.bt (L.map D.str)) S q rs (.z (.str x)) d t;have B:=h x aX;have a1:=v5 (uY (e:=cV 7) (e':=cV 5) (ρ:=b) (ρ1:=b) (ρ2:=b) (x:=.str x) (y:=.bt (N.map D.str)) O O (xU δ x N));have z:=v5 (uY (e:=cV 7) (e':=cV 6) (ρ:=b) (ρ1:=b) (ρ2:=b) (x:=.str x) (y:=.bt (L.map D.str)) O O (xU γ x L));have i:xl (cT (c2 (m? δ) bq br)) (cT (c2 (m? γ) bq bR)) b=Z (!p x,b):=by
   rw[<-B,qO];by_cases hN:x∈N
   .simp only[aU hN]at a1 ⊢;exact(Ly a1).t (z.t (by rw[qF];rfl))
   .simp only[aT hN]at a1 ⊢;exact LA a1
  rw[aI];unfold fu;rw[show gN 7 (oS (Z x)) (dI w (.bt (N.map D.str)) (.bt (L.map D.str)) S q rs s d t)=Z b from O];rw[MJ];cases u:p x with
  |true=>rw[u]at i;obtain⟨l,e⟩:=ML (w:=w) (S:=S) (q:=q) (N:=N) (L:=L) (p:=p) rs t d f (.z (.str x)) λy C=>h y (ba _ C);refine⟨l,?_⟩;have j:duB b=Z (.nx b):=(vI i).t O;simp only[j];exact e
  |false=>rw[u]at i;refine⟨.z (.str x),?_⟩;have j:duB b=Z (.rt (y8 "unseen" x S) b):=(vb i).t O;simp only[j];rfl
end
section
variable{T:List Th}{M:List Mk}{dk:aE}{W:List Wy}{V:List Vb}{R:List L4.D}{c:L4.D}{P:List Ky}{a:Str->Str}{m:Str->Int}{v:Vb}{x y:Option Str}
def cmE:FE:=cL (u5 1 [0,3,4] (iL (c1 (uU zB "tests") cU)) (gN 0) (wt (cT (vg (vq 3) "holds" aa cW))) aa)
def VM{w S q N L:L4.D}{rs s7 s1:Sl}{d:L4.D->Bool}(n:Str)(b f:List L4.D)(p:Str)(o:Bool)(Q:b.length<=9)(h:∀t∈b,Ob 3 w S q t (d t)):cT (c2 U' cmE (cL (vx vC))) (dI w N L S q rs s7 (.z (n? n b f p o)) s1)=Z (b.all d,dI w N L S q rs s7 (.z (n? n b f p o)) s1):=by
 let r:=dI w N L S q rs s7 (.z (n? n b f p o)) s1;have e:cmE r=Z (.bt ((b.filter λt=>!d t).map λt=>t),r):=vR (zq (λt=>t) (λt=>t) (λt=>!d t) b (ρ1:=r) (by rw[qP];rfl) (by omega) λt i=>by
  obtain⟨k,j,B,E,rfl,F,G,H⟩:=h t i;let A:aS:=[.z (.obj k j B),.z w,.z S,.z q];exact⟨A,A,O,yi (v5 (vB (g:=vq 3) (m:="holds") (c:=k) (ns:=j) (hh:=E) (xs:=B) (ys:=[w,S,q]) (ρ1:=A) O F G O H)),λ_=>⟨_,O,O⟩,λ_=>O⟩)
 rw[qP]at e;refine v5 (uY (y:=.bt []) e O ?_);cases C:b.filter λt=>!d t with
 |nil=>
  rw[aQ.2 λt i=>by
   have:=oq.1 C t i;simpa using this]
  rfl
 |cons t l=>
  have:t∈b.filter λt=>!d t:=by rw[C];exact aX
  rw[aW]at this;have I:b.all d=δ:=by rw[jH];intro z;have:=(aQ.1 z) t this.1;simp_all
  rw[I];rfl
def auB:FS:=(fm (cT (c2 (fb δ) (c1 (uU xV "verb") cU) (c2 f? aw aP))) (fm (cT (c2 U' cmE (cL (vx vC)))) (uV (uO AN rW)) u4) u4)
theorem QJ(s:wh T M dk W P a)(H:((V++v9).flatMap Vb.ws).Nodup)(G:v∈V++v9)(hc:Cm T W v x y){o N L:L4.D}{rs s1 s7:Sl}:∀(l:List L4.D) (i:Sl),(∀r∈l,RuS T M V r)->FF (wO T M dk W V R c) (sD P (va a m)) (q3 v.n x y) o (l.filter λd=>decide (kv d=kS v.n))->∃A,fu (gN 8) auB l (dI (wO T M dk W V R c) N L (sD P (va a m)) (q3 v.n x y) rs s7 i s1)=Z (.rt o (dI (wO T M dk W V R c) N L (sD P (va a m)) (q3 v.n x y) rs s7 A s1))\/(o=noD (sD P (va a m))/\fu (gN 8) auB l (dI (wO T M dk W V R c) N L (sD P (va a m)) (q3 v.n x y) rs s7 i s1)=Z (.nx (dI (wO T M dk W V R c) N L (sD P (va a m)) (q3 v.n x y) rs s7 A s1)))
 |[],i,_,h=>⟨i,.inr ⟨h,O⟩⟩
 |r::l,i,hr,h=>by
  obtain⟨u,hu,Q,C,U,I,rfl,l9,Y,h2⟩:=hr _ aX;let w:=wO T M dk W V R c;let S:=sD P (va a m);let q:=q3 v.n x y;let f:Sl->aS:=λi=>dI w N L S q rs s7 i s1;let r:=n? u.n Q C U I;have ih:=QJ (N:=N) (L:=L) (rs:=rs) (s1:=s1) (s7:=s7) s H G hc (o:=o) l (.z r) λr F=>hr r (ba _ F);have ek:kv r=kS u.n:=rfl;have p:cT (c2 (fb δ) (c1 (uU xV "verb") cU) (c2 f? aw aP)) (f (.z r))=Z (decide (u.n=v.n),f (.z r)):=v5 (uY (x:=.str u.n) (y:=.str v.n) O O (xN δ u.n v.n));rw[fY,ek]at h;unfold fu;rw[show gN 8 r (f i)=Z (f (.z r)) from O];by_cases e:u.n=v.n
  .rw[aU e]at p;rw[aj (aU (by rw[e]))]at h;rw[vb_f H hu G e]at Y;obtain⟨hb,hh,X⟩:=Od (w:=w) (S:=S) (q:=q) u.n Q C U I λt h=>Lw s H G hc (Y t h) 3 (by decide);have B:=VM (N:=N) (L:=L) (rs:=rs) (s7:=s7) (s1:=s1) u.n Q C U I l9 hh;rcases h with ⟨b,E⟩|⟨b,E⟩
   .rw[X]at b;injection b with b;injection b with b;rw[b]at B;have j:auB (f (.z r))=Z (.rt o (f (.z r))):=(vb p).t ((vb B).t (uT (uN (uL O (uL O (uL O (uL O O)))) E)));simp only[j];exact⟨.z r,.inl O⟩
   .rw[X]at b;injection b with b;injection b with b;rw[b]at B;have j:auB (f (.z r))=Z (.nx (f (.z r))):=(vb p).t ((vI B).t O);simp only[j];exact ih E
  .rw[aT e]at p;rw[ao (by rw[aT λz=>e (O2 z)];exact lD)]at h;have j:auB (f (.z r))=Z (.nx (f (.z r))):=(vI p).t O;simp only[j];exact ih h
def Sg{l:aE}{p q:Str->Bool}(h:∀z∈l,p z=q z):l.find? p=l.find? q:=by
 induction l with
 |nil=>rfl
 |cons z l d=>rw[dB,dB,h z aX,d λy b=>h y (ba _ b)]
def ael:(nmL.all λx=>!decide (x∈w3))=γ:=by kernel_rfl
def acw(s:wh T M dk W P a)(nd:((V++v9).flatMap Vb.ws).Nodup)(hv:v∈V++v9)(H:Cm T W v x y)(hp:∀x∈T.map Th.n,wQ [wO T M dk W V R c,sD P (va a m),.str x]=Z (.I (p x)))(hl:∀r∈l,RuS T M V r)(hF:FF (wO T M dk W V R c) (sD P (va a m)) (q3 v.n x y) o (l.filter λd=>decide (kv d=kS v.n))):
  AO [wO T M dk W V R c,TD T,.bt l,sD P (va a m),q3 v.n x y]=Z (match fU (Z? v x y) p with|some z=>y8 "unseen" z (sD P (va a m))|none=>o):=by
 let w:=wO T M dk W V R c;let S:=sD P (va a m);let q:=q3 v.n x y;let N:=T.map Th.n;let L:=zt (N.filter p);let U:Sl:=.un;let A:Sl:=.z (TD T);let rs:Sl:=.z (.bt l);let u:Sl->Sl->aS:=λi X=>dI w (.bt (N.map D.str)) (.bt (L.map D.str)) S q rs i X A;have hL:∀z,z∈L ↔ z∈N/\p z=γ:=λz=>by show z∈List.mergeSort _ _ ↔ _;rw[(gO _ J?).mem_iff,aW]
 have len:=s.g.len;have e5:cL (u5 1 [] (iL ai) (gN 0) vP (c1 (uU vh "name") aa)) [.z w,A,rs,.z S,.z q,U,U,U,U]=Z (.bt (N.map D.str),[.z w,A,rs,.z S,.z q,U,U,U,U]):=(vR (xG et (λt=>.str t.n) T (ρ1:=[.z w,A,rs,.z S,.z q,U,U,U,U]) O (by omega) λt _=>⟨[.z (et t)],[.z (et t)],O,O,O⟩)).t (by show _=Z (D.bt ((T.map Th.n).map D.str),_);rw[bc];rfl);have e6:cL (vM Mm kA) [.z w,A,rs,.z S,.z q,.z (.bt (N.map D.str)),U,U,U]=Z (.bt (L.map D.str),[.z w,A,rs,.z S,.z q,.z (.bt (N.map D.str)),U,U,U]):=vR (uN (uL O (uL O O)) (X3 s hp));let E:Str->Bool:=λz=>!(decide (z∈N)&&!decide (z∈L));obtain⟨i,e7⟩:=ML (w:=w) (S:=S) (q:=q) (N:=N) (L:=L) (p:=E) rs A U [x,y] U λ_ _=>O;have b:yb (iT (Km aw (Z 1) J)) (gN 7) duB (u U U)=_:=(wF (ρ1:=u U U) (ds:=[x,y].map oS) O).t e7;have ef:fU [x,y] E=fU (Z? v x y) p:=by
  have hpp:∀z∈N,E z=p z:=λz j=>by show (!(decide (z∈N)&&!decide (z∈L)))=p z;rw[aU j,qF,qO,c9,bT,hL];exact⟨λz=>z.2,λh=>⟨j,h⟩⟩
  by_cases e:v.f="way"
  .rw[show Z? v x y=[J,J] from aj e];rcases H with ⟨h,_⟩|⟨h,_⟩|⟨h,_⟩|⟨h,d,hd,rfl,rfl⟩
   .rw[h]at e;exact aq e (by decide)
   .rw[h]at e;exact aq e (by decide)
   .rw[h]at e;exact aq e (by decide)
   .have hn:d∉N:=λz=>by have I:=aQ.1 ael d (QF s.g z);have h2:d∈w3:=(aW.1 hd).1;rw[aU h2]at I;exact lD I
    have hq:E d=γ:=by show (!(decide (d∈N)&&!decide (d∈L)))=γ;rw[aT hn];rfl
    rw[MJ,hq];rfl
  .rw[show Z? v x y=[x,y] from ao e];have j:∀z∈nmP [x,y],E z=p z:=λz j=>hpp z (pl_T (YI H z (by rw[show Z? v x y=[x,y] from ao e];exact j)));unfold fU;exact Sg λz h=>by rw[j z h]
 rw[ef]at b;obtain⟨X,B⟩:=QJ (N:=.bt (N.map D.str)) (L:=.bt (L.map D.str)) (rs:=rs) (s1:=A) (s7:=i) s nd hv H (o:=o) l U hl hF;have G:∀{z},uQ (yb (iT (Km aw (Z 1) J)) (gN 7) duB) (uQ (yb (iL ak) (gN 8) auB) (uV (vE (ax (vE rY) eh)))) (u U U)=z->EV [.z w,A,rs,.z S,.z q,U,U,U,U]=z:=λh=>(uM ((uZ e5).t O)).t ((uM ((uZ e6).t O)).t h);cases Q:fU (Z? v x y) p with
 |some z=>rw[Q]at b;exact uR O (G (uW b))
 |none=>
  rw[Q]at b;have C:∀{z},fu (gN 8) auB l (u i U)=z->yb (iL ak) (gN 8) auB (u i U)=z:=λh=>(wF (ρ1:=u i U) (ds:=l) O).t h;rcases B with B|⟨rfl,B⟩
  .exact uR O (G ((uM b).t (uW (C B))))
  .exact uR O (G ((uM b).t ((uM (C B)).t O)))
end
def QK(ns:List Int)(k:Nat):∃c,xF [.R (ns.map D.int),.int k]=Z (.int c):=by
 let a:aS:=[.z (.R (ns.map D.int)),.z (.int k)];have b:cT (c2 HY ai (c1 wY aa)) a=Z (decide ((k:Int)<((ns.map D.int).length:Nat)),a):=rfl;rw[ag]at b;by_cases h:k<ns.length
 .rw[aU (by omega)]at b;refine⟨ns[k],uR (ρ:=a) O (uW ((vb b).t (uT (uY (x:=.R (ns.map D.int)) (y:=.int k) O O ?_))))⟩;exact DV (by rw[bB,bh h];rfl)
 .rw[aT (by omega)]at b;exact⟨0,uR (ρ:=a) O ((uM ((vI b).t O)).t O)⟩
def X4{a:List L4.D}(o:0<a.length)(i:Int):∃q∈a,∀{e c:FE} {b:aS},e b=Z (.bt a,b)->c b=Z (.int i,b)->c2 f? e (c2 yB c (c1 wY e)) b=Z (q,b):=by
 let j:Int:=i % (a.length:Int);have m:0<=j:=iP _ (by omega);have p:j<a.length:=iG _ (by omega);obtain⟨n,h⟩:∃n:Nat,j=(n:Nat):=⟨j.toNat,(oW m).symm⟩;have f:n<a.length:=by omega
 refine⟨a[n],fA f,λ{e c b} d l=>uY (x:=.bt a) (y:=.int j) d (uY (x:=.int i) (y:=.int a.length) l (vQ d O) ?_) ?_⟩
 .show (if decide (0<(a.length:Int))=γ then Z (D.int (i % (a.length:Int)))else J)=_;rw[aj (aU (by omega))]
 .rw[h];exact DV (bh f)
def acx(c:f ρ=Z (.int i,ρ1))(d:b ρ1=Z (.int j,a))(e:(-1000000<=i/\i<=1000000)/\-1000000<=j/\j<=1000000):iR2 f b ρ=Z (B6 i (j - i).toNat,a):=by unfold iR2;simp only[c,d];rw[aj e]
def tuT(f:FE):FT:=wt (cT (c1 (v3 (wx "tuple")) f))
def lB:FS:=(uQ (vd 12 (c2 f? du (c2 yB (c2 wZ (uO xF nJ) (c2 yA (cC (.int 17)) eX)) (c1 wY du))))
 (uQ (vd 13 (uO AO rT))
 (uQ (vd 14 (uO Cw i9))
 (uQ (fm (xM (tuT ee) (xM (tuT (c2 f? ee aP)) (cT (c2 (fb γ) ee (cV 13))))) (uV bO) u4)
 (uQ (fm (cT (c2 (fb γ) (uO Cw i9) (cV 13))) (uV bO) u4)
 (vd 10 (c2 f? ee aL)))))))
section
variable{T:List Th}{M:List Mk}{dk:aE}{W:List Wy}{V:List Vb}{R:List L4.D}{c:L4.D}{P:List Ky}{a:Str->Str}{m:Str->Int}
def lS(ns:List Int)(s1 s3 s4 s5 s6:Sl)(T:List Th)(l:List L4.D)(w:L4.D)(cm:List L4.D)(st:L4.D)(k b d e:Sl):aS:=[.z (.R (ns.map D.int)),s1,.z (TD T),s3,s4,s5,s6,.z (.bt l),.z w,.z (.bt cm),.z st,k,b,d,e]
def aem(s:wh T M dk W P a)(nd:((V++v9).flatMap Vb.ws).Nodup)(hf:∀v∈V++v9,v.f∈p?)(ht:Try T M dk W V R c)(hR:∀r∈R,RuS T M V r)(hc:B=cmA (rh T) (S? W) ((V++v9).map nf))(h0:0<B.length)(k:Nat)(j e b:Sl):
  ∃A G H I N,wh T M dk W P A/\lB (lS ns s1 s3 s4 s5 s6 T (R++SH W) (wO T M dk W V R c) B (sD P (va a m)) (.z (.int k)) j e b)=Z (.nx (lS ns s1 s3 s4 s5 s6 T (R++SH W) (wO T M dk W V R c) B (sD P (va A G)) (.z (.int k)) H I N)):=by
 let w:=wO T M dk W V R c;let S:=sD P (va a m);let l:L4.D->Sl->Sl->Sl->aS:=λst j e b=>lS ns s1 s3 s4 s5 s6 T (R++SH W) w B st (.z (.int k)) j e b;obtain⟨z,ez⟩:=QK ns k;obtain⟨q,hqm,eq⟩:=X4 h0 (z+17 * (k:Int));have e3:c2 f? du (c2 yB (c2 wZ (uO xF nJ) (c2 yA (cC (.int 17)) eX)) (c1 wY du)) (l S j e b)=Z (q,l S j e b):=eq O (uY (x:=.int z) (y:=.int (17 * (k:Int))) (uN (uL O (uL O O)) ez) (uY (x:=.int 17) (y:=.int k) O O (zy (.inl (by decide)))) O);obtain⟨v,Y,x,y,rfl,hcm⟩:=aek hf (by rw[<-hc];exact hqm);obtain⟨p,U⟩:=Jn (V:=V) (R:=R) (c:=c) (m:=m) s;obtain⟨o,⟨kk,tx,A,G,rfl,hk,hi⟩,hF,C⟩:=VJ s nd ht hR Y hcm λz hz=>U z (pl_T hz);have E:=acw s nd Y hcm U (λr hr=>(aV.1 hr).elim (hR r) (YH s.g r)) hF;have fin:∀(t ty:Str) (h:Str->Str) (i:Str->Int),Cw [w,S,q3 v.n x y]=Z (y8 t ty (sD P (va h i)))->AO [w,TD T,.bt (R++SH W),S,q3 v.n x y]=Z (y8 t ty (sD P (va h i)))->lB (l S j e b)=Z (.nx (l (sD P (va h i)) (.z (q3 v.n x y)) (.z (y8 t ty (sD P (va h i)))) (.z (y8 t ty (sD P (va h i))))) ):=λt ty h i h1 h2=>by let d:=y8 t ty (sD P (va h i));let Q:Sl:=.z (q3 v.n x y);have st:∀e b,uO Cw i9 (l S Q e b)=Z (d,l S Q e b):=λ_ _=>uN (uL O (uL O (uL O O))) h1;have c1:tuT ee (l S Q (.z d) (.z d))=Z (δ,l S Q (.z d) (.z d)):=rfl;have F:tuT (c2 f? ee aP) (l S Q (.z d) (.z d))=Z (δ,l S Q (.z d) (.z d)):=rfl;have ss:=Sf t ty P h i;exact(uM (ρ':=l S Q e b) ((uZ e3).t O)).t ((uM (ρ':=l S Q (.z d) b) ((uZ (uN (uL O (uL O (uL O (uL O (uL O O))))) h2)).t O)).t ((uM (ρ':=l S Q (.z d) (.z d)) ((uZ (st _ _)).t O)).t ((vp (yO c1 (yO F (v5 (uY (x:=d) (y:=d) O O ss))))).t ((vp (v5 (uY (x:=d) (y:=d) (st _ _) O ss))).t O))))
 cases X:fU (Z? v x y) p with
 |some z=>rw[X]at C E;exact⟨a,m,_,_,_,s,fin _ _ _ _ C E⟩
 |none=>rw[X]at C E;exact⟨A,G,_,_,_,⟨s.g,s.p,hi⟩,fin _ _ _ _ C E⟩
theorem QL(w:((V++v9).flatMap Vb.ws).Nodup)(t:∀v∈V++v9,v.f∈p?)(u:Try T M dk W V R c)(hR:∀r∈R,RuS T M V r)(q:cm=cmA (rh T) (S? W) ((V++v9).map nf))(p:0<cm.length):∀(l:List Nat) (a:Str->Str) (m:Str->Int) (k b d h:Sl),wh T M dk W P a->
  ∃ρ',fu (gN 11) lB (l.map λk:Nat=>D.int (k:Nat)) (lS ns s1 s3 s4 s5 s6 T (R++SH W) (wO T M dk W V R c) cm (sD P (va a m)) k b d h)=Z (.nx ρ')
 |[],a,m,_,_,_,_,_=>⟨_,O⟩
 |k::l,a,m,z,b,d,h,s=>by obtain⟨x,A,i,j,o,B,e⟩:=aem (m:=m) s w t u hR (ns:=ns) (s1:=s1) (s3:=s3) (s4:=s4) (s5:=s5) (s6:=s6) q p k b d h;obtain⟨ρ',y⟩:=QL w t u hR (ns:=ns) (s1:=s1) (s3:=s3) (s4:=s4) (s5:=s5) (s6:=s6) q p l x A (.z (.int k)) i j o B;refine⟨ρ',?_⟩;rw[aI];unfold fu;rw[show gN 11 (.int k) (lS ns s1 s3 s4 s5 s6 T (R++SH W) (wO T M dk W V R c) cm (sD P (va a m)) z b d h)=Z (lS ns s1 s3 s4 s5 s6 T (R++SH W) (wO T M dk W V R c) cm (sD P (va a m)) (.z (.int k)) b d h) from O];simp only[e];exact y
end
def acy(ns:List Int)(hl:ns.length<=63):Ys [.R (ns.map D.int)]=Z (.I γ):=by
 obtain⟨u,ex⟩:=QK ns 0;obtain⟨T,M,o,W,t,n,R,es',g,z,y,lR,ok,xm⟩:=XO (es:=[.int u]) (.inl ⟨u,O⟩);have x:∀v∈vL t n,v∈v6:=λv hv=>Mx hv;obtain⟨ks,dss,xw,hg⟩:=Vk g z y (λr q=>(ok r q).1) lR;let c:L4.D:=.Q ks (dss.map .bt);let V:=vL t n;have lV:V.length<=6:=JP t n;have nd:((V++v9).flatMap Vb.ws).Nodup:=Qn z y;let w:=wO T M o W V R c;let h:List L4.D:=cmA (rh T) (S? W) ((V++v9).map nf);have xc:Cy [w]=Z h:=N4 g x lV;have lN:(rh T).length<=7:=by unfold rh;rw[ag];exact g.p7
 have lc:h.length<=900:=by have h1:=Vm lN (Pb W) ((V++v9).map nf);rw[ag,aC]at h1;have h2:v9.length=9:=rfl;show (cmA _ _ _).length<=900;omega
 have I:0<h.length:=by
  refine jx (a:=q3 "wait" J J) (dP.2 ⟨("wait", "alone"),?_,?_⟩)
  .exact au.2 ⟨⟨"wait", [],"alone", J⟩,bA _ (by simp[v9]),O⟩
  .unfold cmV obF;rw[aj O];exact au.2 ⟨(.E,.E),bp.2 O,O⟩
 obtain⟨P,m,pP,C⟩:=Vu (V:=V) (R:=R) (c:=c) g;have st:wh T M o W P (at0 T):=⟨g,pP,inv0 g⟩;let S:Sl:=.z (.R (ns.map D.int));let DK:L4.D:=.bt (o.map D.str);let Q:L4.D:=.bt [TD T,MD M,DK,WD W,VD V,.bt R];let A:=Sl.z (TD T);let B:=Sl.z (MD M);let E:=Sl.z DK;let F:=Sl.z (WD W);let G:=Sl.z (VD V);let H:=Sl.z (D.bt R);let X:=Sl.z w;let Y:=Sl.z (D.bt h);let U:Sl:=.un;let l:aS:=lS ns (.z Q) B E F G T (R++SH W) w h (sD P (va (at0 T) m)) U U U U;let p:Int:=if ((ns.map D.int).length:Int)<26 then ((ns.map D.int).length:Int)else 26
 obtain⟨k,em,hk⟩:∃k:Nat,c2 Xn bZ (c2 X? (cC (.int 26)) (c1 wY aa)) l=Z (.int k,l)/\k<=26:=by
  have e:c2 Xn bZ (c2 X? (cC (.int 26)) (c1 wY aa)) l=Z (.int (if p > 2 then p else 2),l):=rfl;have hm:p<=26:=by show (if _ then _ else _:Int)<=26;split<;>omega
  refine⟨(if p > 2 then p else 2).toNat,?_,by split<;>omega⟩;rw[e,oW (by split<;>omega)]
 obtain⟨b,ew⟩:=QL (P:=P) (M:=M) (dk:=o) (W:=W) nd (Vn x) (λn=>acs hg n) (λr q=>(ok r q).2) (ns:=ns) (s1:=.z Q) (s3:=B) (s4:=E) (s5:=F) (s6:=G) (cm:=h) O I ((aZ ((k:Int) - 1).toNat).map (1 + ·)) (at0 T) m U U U U st
 refine uR (ρ:=b) O ?_;unfold Qk;refine(uM (ρ':=[S,.z Q,U,U,U,U,U,U,U,U,U,U,U,U,U]) ((uZ (i:=1) (d:=Q) (ρ':=[S,U,U,U,U,U,U,U,U,U,U,U,U,U,U]) ?_).t O)).t ?_
 .show E? Bh (a1 (cC (.int 12))) (vx nz) [S,U,U,U,U,U,U,U,U,U,U,U,U,U,U]=_;unfold E?;have N:a1 (cC (.int 12)) [S,U,U,U,U,U,U,U,U,U,U,U,U,U,U]=Z ([.int 12],[S,U,U,U,U,U,U,U,U,U,U,U,U,U,U]):=rfl;have el:vx nz [S,U,U,U,U,U,U,U,U,U,U,U,U,U,U]=Z ([.int u],[S,U,U,U,U,U,U,U,U,U,U,U,U,U,U]):=TN (uL (uN (ds:=[.R (ns.map D.int),.int 0]) O ex) O) (iA O);simp only[N,el,xm];rfl
 refine(uM (ρ':=[S,.z Q,A,B,E,F,G,H,U,U,U,U,U,U,U]) O).t ?_;refine(uM (ρ':=[S,.z Q,A,B,E,F,G,H,X,U,U,U,U,U,U]) ((uZ (i:=8) (xA (c:=14) (g:=λj=>zm (j++[])) (ds:=[TD T,MD M,DK,WD W,VD V,.bt R]) (ρ1:=[S,.z Q,A,B,E,F,G,H,U,U,U,U,U,U,U]) O xw)).t O)).t ?_;refine(uM (ρ':=[S,.z Q,A,B,E,F,G,H,X,Y,U,U,U,U,U]) ((uZ (vR (uN (ds:=[w]) (ρ1:=[S,.z Q,A,B,E,F,G,H,X,U,U,U,U,U,U]) O xc))).t O)).t ?_;refine(uM (ρ':=[S,.z Q,A,B,E,F,G,.z (.bt (R++SH W)),X,Y,U,U,U,U,U]) ((uZ (vR (w9 (xs:=R) (ys:=SH W) (ρ1:=[S,.z Q,A,B,E,F,G,H,X,Y,U,U,U,U,U]) O (vR (uN (ds:=[.str "me", WD W]) (ρ1:=[S,.z Q,A,B,E,F,G,H,X,Y,U,U,U,U,U]) O (Ls W g.w8))) (by have:=Vj g.w8;omega)))).t O)).t ?_;refine(uM (ρ':=l) ((uZ (uN (ds:=[w]) (ρ1:=[S,.z Q,A,B,E,F,G,.z (.bt (R++SH W)),X,Y,U,U,U,U,U]) O C)).t O)).t ?_;refine(uM ((wF (ds:=((aZ ((k:Int) - 1).toNat).map (1 + ·)).map λk:Nat=>D.int (k:Nat)) (ρ1:=l) ?_).t ew)).t O
 refine(acx (i:=1) O em (by omega)).t ?_;unfold B6;rw[bc];congr 2
end K38x
namespace K38x
open PySem L2 L3 L4
open PySem.W (nsIn)
structure Fx(K:av)(C0 C1 C2 C3 C4 C5 C6 C7 C8 C9 C10 C11 C12 C13 C14 C15:Addr):Prop where
 a0:nsIn K bf "Thing" = Z (Z (.ref C0))
 a1:nsIn K bf "Mark" = Z (Z (.ref C1))
 a2:nsIn K bf "Verb" = Z (Z (.ref C2))
 a3:nsIn K bf "At" = Z (Z (.ref C3))
 a4:nsIn K bf "Has" = Z (Z (.ref C4))
 a5:nsIn K bf "Seen" = Z (Z (.ref C5))
 a6:nsIn K bf "Marked" = Z (Z (.ref C6))
 a7:nsIn K bf "Kind" = Z (Z (.ref C7))
 a8:nsIn K bf "Word" = Z (Z (.ref C8))
 a9:nsIn K bf "Not" = Z (Z (.ref C9))
 a10:nsIn K bf "Both" = Z (Z (.ref C10))
 a11:nsIn K bf "Move" = Z (Z (.ref C11))
 a12:nsIn K bf "Put" = Z (Z (.ref C12))
 a13:nsIn K bf "Rule" = Z (Z (.ref C13))
 a14:nsIn K bf "World" = Z (Z (.ref C14))
 a15:nsIn K bf "Lit" = Z (Z (.ref C15))
 k0:CF K C0 ["kind", "name", "start", "words"]
 k1:CF K C1 ["most", "name", "start"]
 k2:CF K C2 ["form", "joining", "name", "others"]
 k3:CF K C3 ["place", "term"]
 k4:CF K C4 ["term"]
 k5:CF K C5 ["term"]
 k6:CF K C6 ["term", "value"]
 k7:CF K C7 ["kind", "term"]
 k8:CF K C8 ["word"]
 k9:CF K C9 ["inner"]
 A':CF K C10 ["one", "other"]
 Hj:CF K C11 ["place", "term"]
 E':CF K C12 ["term", "value"]
 z?:CF K C13 ["deeds", "refuses", "tests", "text", "verb"]
 m2:CF K C14 ["copied_rules", "kept_dark", "kept_marks", "kept_things", "kept_verbs", "kept_ways", "mosts_by_name", "rules_by_verb", "shared_rules", "shared_verbs", "things_by_name", "verbs_by_word", "your_name", "kept_rules"]
 L1:CF K C15 []
 i_At:xp K [C0,C1,C2,C3,C4,C5,C6,C7,C8,C9,C10,C11,C12,C13,C14,C15] C3 3=γ
 i_Both:xp K [C0,C1,C2,C3,C4,C5,C6,C7,C8,C9,C10,C11,C12,C13,C14,C15] C10 10=γ
 i_Has:xp K [C0,C1,C2,C3,C4,C5,C6,C7,C8,C9,C10,C11,C12,C13,C14,C15] C4 4=γ
 i_Kind:xp K [C0,C1,C2,C3,C4,C5,C6,C7,C8,C9,C10,C11,C12,C13,C14,C15] C7 7=γ
 i_Lit:xp K [C0,C1,C2,C3,C4,C5,C6,C7,C8,C9,C10,C11,C12,C13,C14,C15] C15 15=γ
 i_Mark:xp K [C0,C1,C2,C3,C4,C5,C6,C7,C8,C9,C10,C11,C12,C13,C14,C15] C1 1=γ
 i_Marked:xp K [C0,C1,C2,C3,C4,C5,C6,C7,C8,C9,C10,C11,C12,C13,C14,C15] C6 6=γ
 i_Move:xp K [C0,C1,C2,C3,C4,C5,C6,C7,C8,C9,C10,C11,C12,C13,C14,C15] C11 11=γ
 i_Not:xp K [C0,C1,C2,C3,C4,C5,C6,C7,C8,C9,C10,C11,C12,C13,C14,C15] C9 9=γ
 i_Put:xp K [C0,C1,C2,C3,C4,C5,C6,C7,C8,C9,C10,C11,C12,C13,C14,C15] C12 12=γ
 i_Rule:xp K [C0,C1,C2,C3,C4,C5,C6,C7,C8,C9,C10,C11,C12,C13,C14,C15] C13 13=γ
 i_Seen:xp K [C0,C1,C2,C3,C4,C5,C6,C7,C8,C9,C10,C11,C12,C13,C14,C15] C5 5=γ
 i_Thing:xp K [C0,C1,C2,C3,C4,C5,C6,C7,C8,C9,C10,C11,C12,C13,C14,C15] C0 0=γ
 i_Verb:xp K [C0,C1,C2,C3,C4,C5,C6,C7,C8,C9,C10,C11,C12,C13,C14,C15] C2 2=γ
 i_Word:xp K [C0,C1,C2,C3,C4,C5,C6,C7,C8,C9,C10,C11,C12,C13,C14,C15] C8 8=γ
 n_Lit:cP K (.ref C15) "__init__" = Z (Z (.builtin "object.__init__"))
 nd:decide ([C0,C1,C2,C3,C4,C5,C6,C7,C8,C9,C10,C11,C12,C13,C14,C15]:List Addr).Nodup=γ
 e:((["all", "any", "bool", "int", "isinstance", "len", "list", "max", "min", "range", "set", "sorted", "str", "tuple"]:aE).all λx=>match nsIn K bf x with|some J=>γ|_=>δ)=γ
 g0:GX K "CANNOT_BE" "That cannot be."
 g1:GS K "FORMS" ["alone", "one", "two", "way"]
 g2:GS K "KINDS" ["room", "plain", "fixed", "box", "lamp", "you"]
 g3:GS K "KINDS_APART" ["room", "you"]
 g4:GS K "KINDS_THAT_HOLD" ["room", "box", "you"]
 g5:GS K "KINDS_WITH_MARK" ["box", "lamp"]
 g6:GC K "MOST_BESIDE" 7
 g7:GC K "MOST_BY_COMMAND" 3
 g8:GC K "MOST_DEEDS" 4
 g9:GC K "MOST_DEEP" 4
 g10:GC K "MOST_IN_NAME" 8
 g11:GC K "MOST_IN_WORD" 12
 g12:GC K "MOST_MARKS" 4
 g13:GC K "MOST_OF_MARK" 3
 g14:GC K "MOST_ROOMS" 5
 g15:GC K "MOST_RULES" 20
 g16:GC K "MOST_SIGNS" 60
 g17:GC K "MOST_TESTS" 5
 g18:GC K "MOST_VERBS" 6
 g19:GC K "MOST_WAYS" 10
 g20:GC K "MOST_WORDS" 4
 g21:GX K "NOTHING_COMES" "Nothing comes of it."
 g22:GS K "NO_NAMES" ["it", "other", "here", "the", "a", "undo", "restart"]
 g23:GS K "NO_WORDS" ["the", "a"]
 g24:GS K "NO_WORDS_OF_ROWS" ["the", "a", "undo", "restart"]
 q25:GD K "is_small_letters" (top 6)
 q26:GD K "is_name" (top 7)
 q27:GD K "is_word" (top 8)
 q28:GD K "is_one_of" (top 10)
 q29:GD K "is_whole" (top 11)
 q30:GD K "is_list_up_to" (top 12)
 q31:GD K "own_list" (top 86)
 q32:GJ K C0 "Thing.__init__" (dr (top 76) 0) [V.E]
 q33:GM K C1 "__init__" "Mark.__init__" (dr (top 77) 0)
 q34:GJ K C2 "Verb.__init__" (dr (top 78) 0) [V.E,(V.str "one"),V.E]
 q35:GM K C3 "__init__" "At.__init__" (dr (top 33) 0)
 q36:GM K C4 "__init__" "Has.__init__" (dr (top 34) 0)
 q37:GM K C5 "__init__" "Seen.__init__" (dr (top 35) 0)
 q38:GM K C6 "__init__" "Marked.__init__" (dr (top 36) 0)
 q39:GM K C7 "__init__" "Kind.__init__" (dr (top 37) 0)
 q40:GM K C8 "__init__" "Word.__init__" (dr (top 38) 0)
 q41:GM K C9 "__init__" "Not.__init__" (dr (top 40) 0)
 q42:GM K C10 "__init__" "Both.__init__" (dr (top 41) 0)
 q43:GM K C11 "__init__" "Move.__init__" (dr (top 66) 0)
 q44:GM K C12 "__init__" "Put.__init__" (dr (top 67) 0)
 q45:GJ K C13 "Rule.__init__" (dr (top 85) 0) [(V.I δ)]
 q46:GM K C0 "can_hold" "Thing.can_hold" (dr (top 76) 1)
 q47:GM K C0 "has_mark" "Thing.has_mark" (dr (top 76) 2)
 q48:GM K C0 "is_plainly" "Thing.is_plainly" (dr (top 76) 3)
 q49:GD K "refuse_unless" (top 127)
 q50:GD K "count_of" (top 130)
 q51:GD K "plain_ones" (top 131)
 q52:GD K "is_mark" (top 133)
 q53:GD K "check_things" (top 129)
 q54:GD K "check_marks" (top 132)
 q55:GD K "are_unlike" (top 135)
 q56:GD K "check_names" (top 134)
 q57:GD K "mark_names" (top 136)
 q58:GD K "is_start" (top 138)
 q59:GD K "comes_to_room" (top 139)
 q60:GD K "check_starts" (top 137)
 q61:GD K "are_words" (top 141)
 q62:GD K "has_all" (top 143)
 q63:GD K "is_told_apart" (top 142)
 q64:GD K "check_words_of_things" (top 140)
 q65:GD K "check_dark" (top 144)
 q66:GD K "is_way" (top 146)
 q67:GD K "check_ways" (top 145)
 q68:GD K "is_verb" (top 148)
 q69:GD K "check_verbs" (top 147)
 q70:GD K "are_apart" (top 150)
 q71:GD K "check_vocabulary" (top 149)
 q72:GD K "check_parts" (top 128)
 q73:GD K "does" (top 109)
 q74:GD K "refuses" (top 110)
 q75:GD K "hand_rules" (top 111)
 q76:GD K "put_rules" (top 112)
 q77:GD K "lid_rules" (top 113)
 q78:GD K "flame_rules" (top 114)
 q79:GD K "way_tests" (top 116)
 q80:GD K "go_rules" (top 115)
 q81:GD K "wait_rules" (top 117)
 q82:GD K "common_rules" (top 108)
 q83:GD K "common_verbs" (top 107)
 q84:GD K "by_name" (top 154)
 q85:GD K "mosts_by_name" (top 155)
 q86:GD K "verbs_by_word" (top 156)
 q87:GD K "by_verb" (top 157)
 q88:GM K C14 "of_kind" "World.of_kind" (dr (top 153) 3)
 q89:GM K C14 "all_verbs" "World.all_verbs" (dr (top 153) 13)
 q90:GD K "is_same_text" (top 9)
 q91:GD K "copy_of" (top 87)
 q92:GM K C14 "thing_of" "World.thing_of" (dr (top 153) 2)
 q93:GM K C14 "most_of" "World.most_of" (dr (top 153) 6)
 q94:GM K C14 "verb_of" "World.verb_of" (dr (top 153) 14)
 q95:GM K C14 "you" "World.you" (dr (top 153) 4)
 q96:GD K "is_by_command" (top 98)
 q97:GD K "is_here" (top 99)
 q98:GD K "named" (top 100)
 q99:GD K "is_of_kind" (top 101)
 q100:GD K "is_term" (top 102)
 q101:GD K "is_place" (top 103)
 q102:GD K "is_moved" (top 104)
 q103:GD K "is_mark_value" (top 105)
 q104:GD K "is_move" (top 97)
 q105:GD K "is_said" (top 90)
 q106:GD K "is_verb_name" (top 89)
 q107:GD K "does_or_refuses" (top 91)
 q108:GD K "is_plain_test" (top 95)
 q109:GD K "is_test" (top 94)
 q110:GD K "is_deed" (top 96)
 q111:GD K "are_tests" (top 92)
 q112:GD K "are_deeds" (top 93)
 q113:GD K "is_rule" (top 88)
 q114:GM K C14 "__init__" "World.__init__" (dr (top 153) 0)
 q115:GM K C14 "is_dark" "World.is_dark" (dr (top 153) 5)
 q116:GM K C14 "own_marks" "World.own_marks" (dr (top 153) 7)
 q117:GM K C14 "names" "World.names" (dr (top 153) 1)
 q118:GM K C14 "way_words" "World.way_words" (dr (top 153) 12)
 q119:GM K C14 "rules_to_try" "World.rules_to_try" (dr (top 153) 16)
 q120:GM K C14 "parts" "World.parts" (dr (top 153) 18)
 q121:GD K "own_starts" (top 15)
 q122:GD K "first_value" (top 16)
 q123:GD K "first_stand" (top 14)
 q124:GD K "value_of" (top 17)
 q125:GD K "at_of" (top 18)
 q126:GD K "mark_of" (top 19)
 q127:GD K "with_part" (top 20)
 q128:GD K "holders_of" (top 22)
 q129:GD K "room_of" (top 23)
 q130:GD K "has" (top 26)
 q131:GD K "is_shut" (top 25)
 q132:GD K "in_open" (top 24)
 q133:GD K "burns_in" (top 28)
 q134:GD K "is_lit" (top 27)
 q135:GD K "is_seen" (top 29)
 q136:GD K "seen" (top 30)
 q137:GD K "is_of_way" (top 42)
 q138:GD K "things_of" (top 43)
 q139:GD K "meant" (top 44)
 q140:GD K "at_parts" (top 45)
 q141:GD K "mark_parts" (top 46)
 q142:GD K "can_go" (top 68)
 q143:GD K "can_show" (top 69)
 q144:GM K C3 "holds" "At.holds" (dr (top 33) 1)
 q145:GM K C4 "holds" "Has.holds" (dr (top 34) 1)
 q146:GM K C5 "holds" "Seen.holds" (dr (top 35) 1)
 q147:GM K C6 "holds" "Marked.holds" (dr (top 36) 1)
 q148:GM K C7 "holds" "Kind.holds" (dr (top 37) 1)
 q149:GM K C8 "holds" "Word.holds" (dr (top 38) 1)
 q150:GM K C15 "holds" "Lit.holds" (dr (top 39) 0)
 q151:GM K C9 "holds" "Not.holds" (dr (top 40) 1)
 q152:GM K C10 "holds" "Both.holds" (dr (top 41) 1)
 q153:GM K C11 "done" "Move.done" (dr (top 66) 1)
 q154:GM K C12 "done" "Put.done" (dr (top 67) 1)
 q155:GD K "is_object" (top 59)
 q156:GD K "fits_form" (top 58)
 q157:GD K "is_command" (top 57)
 q158:GD K "check_command" (top 56)
 q159:GD K "fits" (top 62)
 q160:GD K "outcome" (top 63)
 q161:GD K "answered" (top 61)
 q162:GD K "step" (top 60)
 q163:GD K "objects_of" (top 55)
 q164:GD K "commands" (top 54)
 q165:GD K "_law_cell_at" (top 159)
 q166:GD K "_law_digit" (top 160)
 q167:GD K "_law_named" (top 162)
 q168:GD K "_law_things" (top 161)
 q169:GD K "_law_marks" (top 163)
 q170:GD K "_law_ways" (top 164)
 q171:GD K "_law_verbs" (top 165)
 q172:GD K "_law_term" (top 166)
 q173:GD K "_law_mark_term" (top 168)
 q174:GD K "_law_marked" (top 169)
 q175:GD K "_law_test" (top 167)
 q176:GD K "_law_deed" (top 170)
 q177:GD K "_law_rules" (top 171)
 q178:GD K "_law_made" (top 172)
 q179:GD K "_law_outcome" (top 173)
 q180:GD K "_law_due" (top 174)
 q181:GD K "law" (top 175)
class Yx(B:Bz):Prop where
 y:Yw B.P B.w B.mg B.b? B.G
 f:Fx B.G.K (B.G.ca 0) (B.G.ca 1) (B.G.ca 2) (B.G.ca 3) (B.G.ca 4) (B.G.ca 5) (B.G.ca 6) (B.G.ca 7) (B.G.ca 8) (B.G.ca 9) (B.G.ca 10) (B.G.ca 11) (B.G.ca 12) (B.G.ca 13) (B.G.ca 14) (B.G.ca 15)
section
variable{B:Bz}[Y:Yx B]
instance:Yb B:=⟨Y.y⟩
instance:Nb B "all" := ⟨Y.y.n Y.f.e 0 O⟩
instance:Nb B "any" := ⟨Y.y.n Y.f.e 1 O⟩
instance:Nb B "bool" := ⟨Y.y.n Y.f.e 2 O⟩
instance:Nb B "int" := ⟨Y.y.n Y.f.e 3 O⟩
instance:Nb B "isinstance" := ⟨Y.y.n Y.f.e 4 O⟩
instance:Nb B "len" := ⟨Y.y.n Y.f.e 5 O⟩
instance:Nb B "list" := ⟨Y.y.n Y.f.e 6 O⟩
instance:Nb B "max" := ⟨Y.y.n Y.f.e 7 O⟩
instance:Nb B "min" := ⟨Y.y.n Y.f.e 8 O⟩
instance:Nb B "range" := ⟨Y.y.n Y.f.e 9 O⟩
instance:Nb B "set" := ⟨Y.y.n Y.f.e 10 O⟩
instance:Nb B "sorted" := ⟨Y.y.n Y.f.e 11 O⟩
instance:Nb B "str" := ⟨Y.y.n Y.f.e 12 O⟩
instance:Nb B "tuple" := ⟨Y.y.n Y.f.e 13 O⟩
instance:Co B "CANNOT_BE" G8:=⟨Y.y.cx Y.f.g0⟩
instance:Co B "FORMS" Qg:=⟨Y.y.cs Y.f.g1⟩
instance:Co B "KINDS" Ce:=⟨Y.y.cs Y.f.g2⟩
instance:Co B "KINDS_APART" Ei:=⟨Y.y.cs Y.f.g3⟩
instance:Co B "KINDS_THAT_HOLD" A5:=⟨Y.y.cs Y.f.g4⟩
instance:Co B "KINDS_WITH_MARK" A6:=⟨Y.y.cs Y.f.g5⟩
instance:Co B "MOST_BESIDE" Ej:=⟨Y.y.ci Y.f.g6⟩
instance:Co B "MOST_BY_COMMAND" A7:=⟨Y.y.ci Y.f.g7⟩
instance:Co B "MOST_DEEDS" Fu:=⟨Y.y.ci Y.f.g8⟩
instance:Co B "MOST_DEEP" G9:=⟨Y.y.ci Y.f.g9⟩
instance:Co B "MOST_IN_NAME" Dp:=⟨Y.y.ci Y.f.g10⟩
instance:Co B "MOST_IN_WORD" Dr:=⟨Y.y.ci Y.f.g11⟩
instance:Co B "MOST_MARKS" Ag:=⟨Y.y.ci Y.f.g12⟩
instance:Co B "MOST_OF_MARK" Dt:=⟨Y.y.ci Y.f.g13⟩
instance:Co B "MOST_ROOMS" Fw:=⟨Y.y.ci Y.f.g14⟩
instance:Co B "MOST_RULES" FC:=⟨Y.y.ci Y.f.g15⟩
instance:Co B "MOST_SIGNS" Fv:=⟨Y.y.ci Y.f.g16⟩
instance:Co B "MOST_TESTS" Ft:=⟨Y.y.ci Y.f.g17⟩
instance:Co B "MOST_VERBS" Fy:=⟨Y.y.ci Y.f.g18⟩
instance:Co B "MOST_WAYS" Du:=⟨Y.y.ci Y.f.g19⟩
instance:Co B "MOST_WORDS" FB:=⟨Y.y.ci Y.f.g20⟩
instance:Co B "NOTHING_COMES" CN:=⟨Y.y.cx Y.f.g21⟩
instance:Co B "NO_NAMES" Jr:=⟨Y.y.cs Y.f.g22⟩
instance:Co B "NO_WORDS" Js:=⟨Y.y.cs Y.f.g23⟩
instance:Co B "NO_WORDS_OF_ROWS" AB:=⟨Y.y.cs Y.f.g24⟩
instance:Ff B BK "copied_rules" := ⟨yk (Y.f.m2.at 0 O)⟩
instance:Ff B Ao "deeds" := ⟨yk (Y.f.z?.at 0 O)⟩
instance:Ff B zf "form" := ⟨yk (Y.f.k2.at 0 O)⟩
instance:Ff B Gx "inner" := ⟨yk (Y.f.k9.at 0 O)⟩
instance:Ff B xq "joining" := ⟨yk (Y.f.k2.at 1 O)⟩
instance:Ff B Eh "kept_dark" := ⟨yk (Y.f.m2.at 1 O)⟩
instance:Ff B Ax "kept_marks" := ⟨yk (Y.f.m2.at 2 O)⟩
instance:Ff B xg "kept_things" := ⟨yk (Y.f.m2.at 3 O)⟩
instance:Ff B Do "kept_verbs" := ⟨yk (Y.f.m2.at 4 O)⟩
instance:Ff B Bm "kept_ways" := ⟨yk (Y.f.m2.at 5 O)⟩
instance:Ff B vO "kind" := ⟨orQ (yk (Y.f.k0.at 0 O)) (Y.f.k7.at 0 O)⟩
instance:Ff B Ay "most" := ⟨yk (Y.f.k1.at 0 O)⟩
instance:Ff B A3 "mosts_by_name" := ⟨yk (Y.f.m2.at 6 O)⟩
instance:Ff B vh "name" := ⟨orQ (orQ (yk (Y.f.k0.at 1 O)) (Y.f.k1.at 1 O)) (Y.f.k2.at 2 O)⟩
instance:Ff B Ir "one" := ⟨yk (Y.f.A'.at 0 O)⟩
instance:Ff B D1 "other" := ⟨yk (Y.f.A'.at 1 O)⟩
instance:Ff B ye "others" := ⟨yk (Y.f.k2.at 3 O)⟩
instance:Ff B D3 "place" := ⟨orQ (yk (Y.f.k3.at 0 O)) (Y.f.Hj.at 0 O)⟩
instance:Ff B yX "refuses" := ⟨yk (Y.f.z?.at 1 O)⟩
instance:Ff B zg "rules_by_verb" := ⟨yk (Y.f.m2.at 7 O)⟩
instance:Ff B BL "shared_rules" := ⟨yk (Y.f.m2.at 8 O)⟩
instance:Ff B BM "shared_verbs" := ⟨yk (Y.f.m2.at 9 O)⟩
instance:Ff B wH "start" := ⟨orQ (yk (Y.f.k0.at 2 O)) (Y.f.k1.at 2 O)⟩
instance:Ff B BN "term" := ⟨orQ (orQ (orQ (orQ (orQ (orQ (yk (Y.f.k3.at 1 O)) (Y.f.k4.at 0 O)) (Y.f.k5.at 0 O)) (Y.f.k6.at 0 O)) (Y.f.k7.at 1 O)) (Y.f.Hj.at 1 O)) (Y.f.E'.at 0 O)⟩
instance:Ff B zB "tests" := ⟨yk (Y.f.z?.at 2 O)⟩
instance:Ff B Fs "text" := ⟨yk (Y.f.z?.at 3 O)⟩
instance:Ff B AA "things_by_name" := ⟨yk (Y.f.m2.at 10 O)⟩
instance:Ff B D4 "value" := ⟨orQ (yk (Y.f.k6.at 1 O)) (Y.f.E'.at 1 O)⟩
instance:Ff B xV "verb" := ⟨yk (Y.f.z?.at 4 O)⟩
instance:Ff B A4 "verbs_by_word" := ⟨yk (Y.f.m2.at 11 O)⟩
instance:Ff B Jq "word" := ⟨yk (Y.f.k8.at 0 O)⟩
instance:Ff B xY "words" := ⟨yk (Y.f.k0.at 3 O)⟩
instance:Ff B Bn "your_name" := ⟨yk (Y.f.m2.at 12 O)⟩
instance:Af B 0 ["kind", "name", "start", "words"]:=⟨Y.f.k0⟩
instance:Af B 1 ["most", "name", "start"]:=⟨Y.f.k1⟩
instance:Af B 2 ["form", "joining", "name", "others"]:=⟨Y.f.k2⟩
instance:Af B 3 ["place", "term"]:=⟨Y.f.k3⟩
instance:Af B 4 ["term"]:=⟨Y.f.k4⟩
instance:Af B 5 ["term"]:=⟨Y.f.k5⟩
instance:Af B 6 ["term", "value"]:=⟨Y.f.k6⟩
instance:Af B 7 ["kind", "term"]:=⟨Y.f.k7⟩
instance:Af B 8 ["word"]:=⟨Y.f.k8⟩
instance:Af B 9 ["inner"]:=⟨Y.f.k9⟩
instance:Af B 10 ["one", "other"]:=⟨Y.f.A'⟩
instance:Af B 11 ["place", "term"]:=⟨Y.f.Hj⟩
instance:Af B 12 ["term", "value"]:=⟨Y.f.E'⟩
instance:Af B 13 ["deeds", "refuses", "tests", "text", "verb"]:=⟨Y.f.z?⟩
instance:Af B 14 ["copied_rules", "kept_dark", "kept_marks", "kept_things", "kept_verbs", "kept_ways", "mosts_by_name", "rules_by_verb", "shared_rules", "shared_verbs", "things_by_name", "verbs_by_word", "your_name", "kept_rules"]:=⟨Y.f.m2⟩
instance:Ic B "At" t_At:=⟨3,wG Y.f.i_At O (Dn 16 _) (Cd.at ⟨Y.f.k0.ci,Y.f.k1.ci,Y.f.k2.ci,Y.f.k3.ci,Y.f.k4.ci,Y.f.k5.ci,Y.f.k6.ci,Y.f.k7.ci,Y.f.k8.ci,Y.f.k9.ci,Y.f.A'.ci,Y.f.Hj.ci,Y.f.E'.ci,Y.f.z?.ci,Y.f.m2.ci,Y.f.L1.ci,trivial⟩),Y.y.g Y.f.a3⟩
instance:Ic B "Both" OX:=⟨10,wG Y.f.i_Both O (Dn 16 _) (Cd.at ⟨Y.f.k0.ci,Y.f.k1.ci,Y.f.k2.ci,Y.f.k3.ci,Y.f.k4.ci,Y.f.k5.ci,Y.f.k6.ci,Y.f.k7.ci,Y.f.k8.ci,Y.f.k9.ci,Y.f.A'.ci,Y.f.Hj.ci,Y.f.E'.ci,Y.f.z?.ci,Y.f.m2.ci,Y.f.L1.ci,trivial⟩),Y.y.g Y.f.a10⟩
instance:Ic B "Has" Yo:=⟨4,wG Y.f.i_Has O (Dn 16 _) (Cd.at ⟨Y.f.k0.ci,Y.f.k1.ci,Y.f.k2.ci,Y.f.k3.ci,Y.f.k4.ci,Y.f.k5.ci,Y.f.k6.ci,Y.f.k7.ci,Y.f.k8.ci,Y.f.k9.ci,Y.f.A'.ci,Y.f.Hj.ci,Y.f.E'.ci,Y.f.z?.ci,Y.f.m2.ci,Y.f.L1.ci,trivial⟩),Y.y.g Y.f.a4⟩
instance:Ic B "Kind" UC:=⟨7,wG Y.f.i_Kind O (Dn 16 _) (Cd.at ⟨Y.f.k0.ci,Y.f.k1.ci,Y.f.k2.ci,Y.f.k3.ci,Y.f.k4.ci,Y.f.k5.ci,Y.f.k6.ci,Y.f.k7.ci,Y.f.k8.ci,Y.f.k9.ci,Y.f.A'.ci,Y.f.Hj.ci,Y.f.E'.ci,Y.f.z?.ci,Y.f.m2.ci,Y.f.L1.ci,trivial⟩),Y.y.g Y.f.a7⟩
instance:Ic B "Lit" Yp:=⟨15,wG Y.f.i_Lit O (Dn 16 _) (Cd.at ⟨Y.f.k0.ci,Y.f.k1.ci,Y.f.k2.ci,Y.f.k3.ci,Y.f.k4.ci,Y.f.k5.ci,Y.f.k6.ci,Y.f.k7.ci,Y.f.k8.ci,Y.f.k9.ci,Y.f.A'.ci,Y.f.Hj.ci,Y.f.E'.ci,Y.f.z?.ci,Y.f.m2.ci,Y.f.L1.ci,trivial⟩),Y.y.g Y.f.a15⟩
instance:Ic B "Mark" UD:=⟨1,wG Y.f.i_Mark O (Dn 16 _) (Cd.at ⟨Y.f.k0.ci,Y.f.k1.ci,Y.f.k2.ci,Y.f.k3.ci,Y.f.k4.ci,Y.f.k5.ci,Y.f.k6.ci,Y.f.k7.ci,Y.f.k8.ci,Y.f.k9.ci,Y.f.A'.ci,Y.f.Hj.ci,Y.f.E'.ci,Y.f.z?.ci,Y.f.m2.ci,Y.f.L1.ci,trivial⟩),Y.y.g Y.f.a1⟩
instance:Ic B "Marked" NQ:=⟨6,wG Y.f.i_Marked O (Dn 16 _) (Cd.at ⟨Y.f.k0.ci,Y.f.k1.ci,Y.f.k2.ci,Y.f.k3.ci,Y.f.k4.ci,Y.f.k5.ci,Y.f.k6.ci,Y.f.k7.ci,Y.f.k8.ci,Y.f.k9.ci,Y.f.A'.ci,Y.f.Hj.ci,Y.f.E'.ci,Y.f.z?.ci,Y.f.m2.ci,Y.f.L1.ci,trivial⟩),Y.y.g Y.f.a6⟩
instance:Ic B "Move" UE:=⟨11,wG Y.f.i_Move O (Dn 16 _) (Cd.at ⟨Y.f.k0.ci,Y.f.k1.ci,Y.f.k2.ci,Y.f.k3.ci,Y.f.k4.ci,Y.f.k5.ci,Y.f.k6.ci,Y.f.k7.ci,Y.f.k8.ci,Y.f.k9.ci,Y.f.A'.ci,Y.f.Hj.ci,Y.f.E'.ci,Y.f.z?.ci,Y.f.m2.ci,Y.f.L1.ci,trivial⟩),Y.y.g Y.f.a11⟩
instance:Ic B "Not" UF:=⟨9,wG Y.f.i_Not O (Dn 16 _) (Cd.at ⟨Y.f.k0.ci,Y.f.k1.ci,Y.f.k2.ci,Y.f.k3.ci,Y.f.k4.ci,Y.f.k5.ci,Y.f.k6.ci,Y.f.k7.ci,Y.f.k8.ci,Y.f.k9.ci,Y.f.A'.ci,Y.f.Hj.ci,Y.f.E'.ci,Y.f.z?.ci,Y.f.m2.ci,Y.f.L1.ci,trivial⟩),Y.y.g Y.f.a9⟩
instance:Ic B "Put" Yq:=⟨12,wG Y.f.i_Put O (Dn 16 _) (Cd.at ⟨Y.f.k0.ci,Y.f.k1.ci,Y.f.k2.ci,Y.f.k3.ci,Y.f.k4.ci,Y.f.k5.ci,Y.f.k6.ci,Y.f.k7.ci,Y.f.k8.ci,Y.f.k9.ci,Y.f.A'.ci,Y.f.Hj.ci,Y.f.E'.ci,Y.f.z?.ci,Y.f.m2.ci,Y.f.L1.ci,trivial⟩),Y.y.g Y.f.a12⟩
instance:Ic B "Rule" UG:=⟨13,wG Y.f.i_Rule O (Dn 16 _) (Cd.at ⟨Y.f.k0.ci,Y.f.k1.ci,Y.f.k2.ci,Y.f.k3.ci,Y.f.k4.ci,Y.f.k5.ci,Y.f.k6.ci,Y.f.k7.ci,Y.f.k8.ci,Y.f.k9.ci,Y.f.A'.ci,Y.f.Hj.ci,Y.f.E'.ci,Y.f.z?.ci,Y.f.m2.ci,Y.f.L1.ci,trivial⟩),Y.y.g Y.f.a13⟩
instance:Ic B "Seen" UH:=⟨5,wG Y.f.i_Seen O (Dn 16 _) (Cd.at ⟨Y.f.k0.ci,Y.f.k1.ci,Y.f.k2.ci,Y.f.k3.ci,Y.f.k4.ci,Y.f.k5.ci,Y.f.k6.ci,Y.f.k7.ci,Y.f.k8.ci,Y.f.k9.ci,Y.f.A'.ci,Y.f.Hj.ci,Y.f.E'.ci,Y.f.z?.ci,Y.f.m2.ci,Y.f.L1.ci,trivial⟩),Y.y.g Y.f.a5⟩
instance:Ic B "Thing" Qf:=⟨0,wG Y.f.i_Thing O (Dn 16 _) (Cd.at ⟨Y.f.k0.ci,Y.f.k1.ci,Y.f.k2.ci,Y.f.k3.ci,Y.f.k4.ci,Y.f.k5.ci,Y.f.k6.ci,Y.f.k7.ci,Y.f.k8.ci,Y.f.k9.ci,Y.f.A'.ci,Y.f.Hj.ci,Y.f.E'.ci,Y.f.z?.ci,Y.f.m2.ci,Y.f.L1.ci,trivial⟩),Y.y.g Y.f.a0⟩
instance:Ic B "Verb" UI:=⟨2,wG Y.f.i_Verb O (Dn 16 _) (Cd.at ⟨Y.f.k0.ci,Y.f.k1.ci,Y.f.k2.ci,Y.f.k3.ci,Y.f.k4.ci,Y.f.k5.ci,Y.f.k6.ci,Y.f.k7.ci,Y.f.k8.ci,Y.f.k9.ci,Y.f.A'.ci,Y.f.Hj.ci,Y.f.E'.ci,Y.f.z?.ci,Y.f.m2.ci,Y.f.L1.ci,trivial⟩),Y.y.g Y.f.a2⟩
instance:Ic B "Word" UJ:=⟨8,wG Y.f.i_Word O (Dn 16 _) (Cd.at ⟨Y.f.k0.ci,Y.f.k1.ci,Y.f.k2.ci,Y.f.k3.ci,Y.f.k4.ci,Y.f.k5.ci,Y.f.k6.ci,Y.f.k7.ci,Y.f.k8.ci,Y.f.k9.ci,Y.f.A'.ci,Y.f.Hj.ci,Y.f.E'.ci,Y.f.z?.ci,Y.f.m2.ci,Y.f.L1.ci,trivial⟩),Y.y.g Y.f.a8⟩
instance:K0f B "Lit" 15:=⟨⟨Y.f.L1.mks,Y.f.n_Lit,Y.f.L1.kp⟩,Y.y.g Y.f.a15⟩
instance:Ij B 16:=⟨injR Y.f.nd⟩
theorem eqL{A:Type}{l:List A}{n:Nat}(h:l.length=n):l.length=n:=h
theorem eqE{e:PySem.Expr}{v:PySem.Env}{r:PySem.Sem PySem.Value}(h:PySem.eval e v=r):PySem.eval e v=r:=h
local macro_rules|`(tactic|trivial)=>do let x:=("adR adE adD adF adG P9 adK aaR abn adH aaP abt abm aaA aaB abo abq abj aaU abe aaX abu aaH aaI aaJ aaK aaE abr adL abv zr_rpN aaF aaT zr_mqI abx abz abp abK aaS aaQ aaO aaz zr_i2I aa3 aa4 adI abB aaM aaN aaL adM adN aa8 aaC aaD aa9 aaG abH abI abJ aby abA abC adJ aaV aaW abD abE aba aaY aaZ abP abb abc abd abF abG Xu Xt Xv zr_gtuL abf abg abh aa2 zr_r2I aa5 zr_xeI aa6 abZ aa7 Xs abw abW zr_srI zr_mxI zr_mnI abV zr_wxI aa0 aa1 abM zr_xsI abN abO Xr abL".splitOn " ").toArray.map fun s=>Lean.mkIdent (.mkSimple s);`(tactic|repeat' first|(with_reducible intro _)|((with_reducible first|apply eqL|apply eqE);rfl)|kernel_rfl|((with_reducible first|apply abk|apply abl);rotate_left 7;rfl)|(with_reducible first $[|apply $x]*)|exact qh)
instance:Df B 1 "is_small_letters" (fy B.G yR):=gd O Y.f.q25 O (by unfold AC;trivial)
instance:Df B 2 "is_name" (fy B.G ym):=gd O Y.f.q26 O (by unfold K4;trivial)
instance:Df B 2 "is_word" (fy B.G yn):=gd O Y.f.q27 O (by unfold K5;trivial)
instance:Df B 1 "is_one_of" (fy B.G vT):=gd O Y.f.q28 O (by unfold He;trivial)
instance:Df B 1 "is_whole" (fy B.G AD):=gd O Y.f.q29 O (by unfold Jt;trivial)
instance:Df B 1 "is_list_up_to" (fy B.G v7):=gd O Y.f.q30 O (by unfold CO;trivial)
instance:Df B 1 "own_list" (fy B.G EF):=gd O Y.f.q31 O (by unfold Ju;trivial)
def Ew:μ B (S2 (dr (top 76) 0)) "Thing.__init__" (dr (top 76) 0) (vY (dr (top 76) 0)) 0 Cf:=by
 unfold Cf;refine P9 ?_ ?_
 all_goals trivial
instance:Kf B 1 "Thing" 0 yp [D.E]:=gJ4 (dds:=[D.E]) Y.f.k0 Y.f.a0 O Y.f.q32 O O Ew 0
instance:Kf B 1 "Thing" 0 yp []:=gJ4 (dds:=[D.E]) Y.f.k0 Y.f.a0 O Y.f.q32 O O Ew 1
instance:Kf B 1 "Mark" 1 Dv []:=gI4 Y.f.k1 Y.f.a1 O Y.f.q33 O O (by unfold Hf;trivial)
def Al:μ B (S2 (dr (top 78) 0)) "Verb.__init__" (dr (top 78) 0) (vY (dr (top 78) 0)) 0 Dy:=by
 unfold Dy;refine P9 ?_ ?_
 all_goals trivial
instance:Kf B 1 "Verb" 2 wb [D.E,(D.str "one"),D.E]:=gJ4 (dds:=[D.E,(D.str "one"),D.E]) Y.f.k2 Y.f.a2 O Y.f.q34 O O Al 0
instance:Kf B 1 "Verb" 2 wb [(D.str "one"),D.E]:=gJ4 (dds:=[D.E,(D.str "one"),D.E]) Y.f.k2 Y.f.a2 O Y.f.q34 O O Al 1
instance:Kf B 1 "Verb" 2 wb [D.E]:=gJ4 (dds:=[D.E,(D.str "one"),D.E]) Y.f.k2 Y.f.a2 O Y.f.q34 O O Al 2
instance:Kf B 1 "Verb" 2 wb []:=gJ4 (dds:=[D.E,(D.str "one"),D.E]) Y.f.k2 Y.f.a2 O Y.f.q34 O O Al 3
instance:Kf B 1 "At" 3 D5 []:=gI4 Y.f.k3 Y.f.a3 O Y.f.q35 O O (by unfold K6;trivial)
instance:Kf B 1 "Has" 4 Cg []:=gI4 Y.f.k4 Y.f.a4 O Y.f.q36 O O (by unfold Jv;trivial)
instance:Kf B 1 "Seen" 5 Hh []:=gI4 Y.f.k5 Y.f.a5 O Y.f.q37 O O (by unfold Hg;trivial)
instance:Kf B 1 "Marked" 6 wV []:=gI4 Y.f.k6 Y.f.a6 O Y.f.q38 O O (by unfold Ek;trivial)
instance:Kf B 1 "Kind" 7 xI []:=gI4 Y.f.k7 Y.f.a7 O Y.f.q39 O O (by unfold Hk;trivial)
instance:Kf B 1 "Word" 8 DA []:=gI4 Y.f.k8 Y.f.a8 O Y.f.q40 O O (by unfold Hl;trivial)
instance:Kf B 1 "Not" 9 xO []:=gI4 Y.f.k9 Y.f.a9 O Y.f.q41 O O (by unfold Jw;trivial)
instance:Kf B 1 "Both" 10 Hn []:=gI4 Y.f.A' Y.f.a10 O Y.f.q42 O O (by unfold Hm;trivial)
instance:Kf B 1 "Move" 11 yf []:=gI4 Y.f.Hj Y.f.a11 O Y.f.q43 O O (by unfold Ho;trivial)
instance:Kf B 1 "Put" 12 yS []:=gI4 Y.f.E' Y.f.a12 O Y.f.q44 O O (by unfold Jx;trivial)
instance:Kf B 2 "Rule" 13 yY []:=gJ4 (dds:=[(D.I δ)]) Y.f.z? Y.f.a13 O Y.f.q45 O O (by unfold Hr;trivial) 1
instance:Mf B 9 "can_hold" wc:=⟨λc h e=>by
 unfold wc at e;split at e
 .cases e;exact r? (k:=8) Y.f.k0 O Y.f.q46 O (by unfold BO;trivial)
 .cases e⟩
instance:Mf B 9 "has_mark" xC:=⟨λc h e=>by
 unfold xC at e;split at e
 .cases e;exact r? (k:=8) Y.f.k0 O Y.f.q47 O (by unfold BP;trivial)
 .cases e⟩
instance:Mf B 9 "is_plainly" v8:=⟨λc h e=>by
 unfold v8 at e;split at e
 .cases e;exact r? (k:=8) Y.f.k0 O Y.f.q48 O (by unfold AE;trivial)
 .cases e⟩
instance:Df B 1 "refuse_unless" (fy B.G vc):=gd O Y.f.q49 O (by unfold CP;trivial)
instance:Df B 1 "count_of" (fy B.G Ci):=gd O Y.f.q50 O (by unfold Jy;trivial)
instance:Df B 10 "plain_ones" (ub B.G yt):=Rn O Y.f.q51 O (by unfold FD;trivial)
instance:Df B 2 "is_mark" (fy B.G GA):=gd O Y.f.q52 O (by unfold Gy;trivial)
instance:Df B 11 "check_things" (fy B.G AG):=gd O Y.f.q53 O (by unfold AF;trivial)
instance:Df B 3 "check_marks" (fy B.G Bp):=gd O Y.f.q54 O (by unfold Bo;trivial)
instance:Df B 1 "are_unlike" (fy B.G xP):=gd O Y.f.q55 O (by unfold FH;trivial)
instance:Df B 3 "check_names" (fy B.G Br):=gd O Y.f.q56 O (by unfold Bq;trivial)
instance:Df B 10 "mark_names" (ub B.G yu):=Rn O Y.f.q57 O (by unfold FI;trivial)
instance:Df B 10 "is_start" (fy B.G EH):=gd O Y.f.q58 O (by unfold EG;trivial)
instance:Df B 1 "comes_to_room" (fy B.G z5):=gd O Y.f.q59 O (by unfold CQ;trivial)
instance:Df B 11 "check_starts" (fy B.G AI):=gF5 ["things", "starts", "thing"] O Y.f.q60 O (by unfold AH;trivial)
instance:Df B 3 "are_words" (fy B.G A8):=gd O Y.f.q61 O (by unfold Ht;trivial)
instance:Df B 1 "has_all" (fy B.G BR):=gd O Y.f.q62 O (by unfold K7;trivial)
instance:Df B 2 "is_told_apart" (fy B.G z7):=gd O Y.f.q63 O (by unfold z6;trivial)
instance:Df B 11 "check_words_of_things" (fy B.G xE):=gd O Y.f.q64 O (by unfold xD;trivial)
instance:Df B 2 "check_dark" (fy B.G Ck):=gd O Y.f.q65 O (by unfold Cj;trivial)
instance:Df B 3 "is_way" (fy B.G JA):=gd O Y.f.q66 O (by unfold Jz;trivial)
instance:Df B 4 "check_ways" (fy B.G Cp):=gd O Y.f.q67 O (by unfold Cn;trivial)
instance:Df B 3 "is_verb" (fy B.G K9):=gd O Y.f.q68 O (by unfold K8;trivial)
instance:Df B 4 "check_verbs" (fy B.G yE):=gd O Y.f.q69 O (by unfold El;trivial)
instance:Df B 1 "are_apart" (fy B.G zP):=gd O Y.f.q70 O (by unfold Hu;trivial)
instance:Df B 11 "check_vocabulary" (fy B.G xQ):=gd O Y.f.q71 O (by unfold yU;trivial)
instance:Df B 12 "check_parts" (fy B.G Bt):=gd O Y.f.q72 O (by unfold Bs;trivial)
instance:Df B 4 "does" (fy B.G AJ):=gd O Y.f.q73 O (by unfold UK;trivial)
instance:Df B 4 "refuses" (fy B.G wu):=gd O Y.f.q74 O (by unfold La;trivial)
instance:Df B 5 "hand_rules" (ub B.G Cq):=Rn O Y.f.q75 O (by unfold FJ;trivial)
instance:Df B 5 "put_rules" (ub B.G DB):=Rn O Y.f.q76 O (by unfold Hv;trivial)
instance:Df B 5 "lid_rules" (ub B.G DC):=Rn O Y.f.q77 O (by unfold Hw;trivial)
instance:Df B 5 "flame_rules" (ub B.G Bu):=Rn O Y.f.q78 O (by unfold Em;trivial)
instance:Df B 3 "way_tests" (ub B.G DD):=Rn O Y.f.q79 O (by unfold Hy;trivial)
instance:Df B 5 "go_rules" (ub B.G EJ):=Rn O Y.f.q80 O (by unfold EI;trivial)
instance:Df B 5 "wait_rules" (ub B.G FL):=Rn O Y.f.q81 O (by unfold FK;trivial)
instance:Df B 6 "common_rules" (ub B.G zh):=Rn O Y.f.q82 O (by unfold DE;trivial)
instance:Df B 3 "common_verbs" (ub B.G zi):=Rn O Y.f.q83 O (by unfold DF;trivial)
instance:Df B 1 "by_name" (fy B.G GE):=gd O Y.f.q84 O (by unfold GB;trivial)
instance:Df B 10 "mosts_by_name" (fy B.G z9):=gd O Y.f.q85 O (by unfold z8;trivial)
instance:Df B 1 "verbs_by_word" (fy B.G yI):=gd O Y.f.q86 O (by unfold CS;trivial)
instance:Df B 1 "by_verb" (fy B.G Lc):=gd O Y.f.q87 O (by unfold Lb;refine⟨RI (stW (by kernel_rfl) MY O) (Sr qh O (Ni (M5 B.G.K (OA (S3 (by kernel_rfl))))) (pgI (by kernel_rfl)) (LG (Pi (SX B.G.K jI kY pb Ge (Ua (S3 (by kernel_rfl)) (Tc (OA (S3 (by kernel_rfl))) (Ff.p (B:=B))) (SD zW) ⟨O,O,O,O⟩) (xj (S3 (by kernel_rfl)) zW))))) (Of (PE.ghost (S3 (by kernel_rfl))))⟩)
instance:Mf B 9 "of_kind" yF:=⟨λc h e=>by
 unfold yF at e;split at e
 .cases e;exact r? (k:=8) Y.f.m2 O Y.f.q88 O (by unfold CT;trivial)
 .cases e⟩
instance:Mf B 9 "all_verbs" xW:=⟨λc h e=>by
 unfold xW at e;split at e
 .cases e;exact r? (k:=8) Y.f.m2 O Y.f.q89 O (by unfold A9;trivial)
 .cases e⟩
instance:Df B 1 "is_same_text" (fy B.G zj):=gd O Y.f.q90 O (by unfold DG;trivial)
instance:Df B 4 "copy_of" (fy B.G GF):=gd O Y.f.q91 O (by unfold Ld;trivial)
instance:Mf B 9 "thing_of" vv:=⟨λc h e=>by
 unfold vv at e;split at e
 .cases e;exact r? (k:=8) Y.f.m2 O Y.f.q92 O (by unfold BS;trivial)
 .cases e⟩
instance:Mf B 9 "most_of" wW:=⟨λc h e=>by
 unfold wW at e;split at e
 .cases e;exact r? (k:=8) Y.f.m2 O Y.f.q93 O (by unfold CU;trivial)
 .cases e⟩
instance:Mf B 9 "verb_of" we:=⟨λc h e=>by
 unfold we at e;split at e
 .cases e;exact r? (k:=8) Y.f.m2 O Y.f.q94 O (by unfold CV;trivial)
 .cases e⟩
instance:Mf B 9 "you" Ap:=⟨λc h e=>by
 unfold Ap at e;split at e
 .cases e;exact r? (k:=8) Y.f.m2 O Y.f.q95 O (by unfold Hz;trivial)
 .cases e⟩
instance:Df B 2 "is_by_command" (fy B.G wg):=gd O Y.f.q96 O (by unfold CW;trivial)
instance:Df B 2 "is_here" (fy B.G zD):=gd O Y.f.q97 O (by unfold Le;trivial)
instance:Df B 10 "named" (fy B.G Ah):=gd O Y.f.q98 O (by unfold Qh;trivial)
instance:Df B 11 "is_of_kind" (fy B.G Ai):=gd O Y.f.q99 O (by unfold FM;trivial)
instance:Df B 11 "is_term" (fy B.G BU):=gd O Y.f.q100 O (by unfold Lf;trivial)
instance:Df B 11 "is_place" (fy B.G Cr):=gd O Y.f.q101 O (by unfold EK;trivial)
instance:Df B 12 "is_moved" (fy B.G EM):=gd O Y.f.q102 O (by unfold EL;trivial)
instance:Df B 10 "is_mark_value" (fy B.G yK):=gd O Y.f.q103 O (by unfold yJ;trivial)
instance:Df B 13 "is_move" (fy B.G GK):=gd O Y.f.q104 O (by unfold GH;trivial)
instance:Df B 1 "is_said" (fy B.G BV):=gd O Y.f.q105 O (by unfold Lg;trivial)
instance:Df B 10 "is_verb_name" (fy B.G AK):=gd O Y.f.q106 O (by unfold DH;trivial)
instance:Df B 1 "does_or_refuses" (fy B.G zk):=gd O Y.f.q107 O (by unfold Ba;trivial)
instance:Df B 12 "is_plain_test" (fy B.G Ab):=gd O Y.f.q108 O (by unfold wy;trivial)
instance:Df B 1 "is_test" (fy B.G (y3 0)):=gd (k:=0) O Y.f.q109 O (by trivial)
instance:Df B 13 "is_test" (fy B.G (y3 1)):=gd (k:=12) O Y.f.q109 O (by unfold yZ;trivial)
instance:Df B 14 "is_test" (fy B.G (y3 2)):=gd (k:=13) O Y.f.q109 O (by unfold yZ;trivial)
instance:Df B 15 "is_test" (fy B.G (y3 3)):=gd (k:=14) O Y.f.q109 O (by unfold yZ;trivial)
instance:Df B 16 "is_test" (fy B.G (y3 4)):=gd (k:=15) O Y.f.q109 O (by unfold yZ;trivial)
instance:Df B 14 "is_deed" (fy B.G GL):=gd O Y.f.q110 O (by unfold D6;trivial)
instance:Df B 18 "are_tests" (fy B.G DI):=gd O Y.f.q111 O (by unfold HA;trivial)
instance:Df B 15 "are_deeds" (fy B.G DJ):=gd O Y.f.q112 O (by unfold HB;trivial)
instance:Df B 19 "is_rule" (fy B.G GO):=gd O Y.f.q113 O (by unfold GN;trivial)
instance:Kf B 20 "World" 14 zm []:=gI4 Y.f.m2 Y.f.a14 O Y.f.q114 O O (by unfold zl;trivial)
instance:Mf B 9 "is_dark" zK:=⟨λc h e=>by
 unfold zK at e;split at e
 .cases e;exact r? (k:=8) Y.f.m2 O Y.f.q115 O (by unfold CY;trivial)
 .cases e⟩
instance:Mf B 9 "own_marks" Ac:=⟨λc h e=>by
 unfold Ac at e;split at e
 .cases e;exact r? (k:=8) Y.f.m2 O Y.f.q116 O (by unfold Bb;trivial)
 .cases e⟩
instance:Mf B 9 "names" xJ:=⟨λc h e=>by
 unfold xJ at e;split at e
 .cases e;exact r? (k:=8) Y.f.m2 O Y.f.q117 O (by unfold En;trivial)
 .cases e⟩
instance:Mf B 9 "way_words" xX:=⟨λc h e=>by
 unfold xX at e;split at e
 .cases e;exact r? (k:=8) Y.f.m2 O Y.f.q118 O (by unfold Bc;trivial)
 .cases e⟩
instance:Mf B 9 "rules_to_try" xR:=⟨λc h e=>by
 unfold xR at e;split at e
 .cases e;exact r? (k:=8) Y.f.m2 O Y.f.q119 O (by unfold zQ;trivial)
 .cases e⟩
instance:Mf B 12 "parts" Bd:=⟨λc h e=>by
 unfold Bd at e;split at e
 .cases e;exact r? (k:=11) Y.f.m2 O Y.f.q120 O (by unfold Eo;trivial)
 .cases e⟩
instance:Df B 10 "own_starts" (fy B.G Cs):=gd O Y.f.q121 O (by unfold FP;trivial)
instance:Df B 10 "first_value" (fy B.G yG):=gd O Y.f.q122 O (by unfold Er;trivial)
instance:Df B 13 "first_stand" (fy B.G Bw):=gd O Y.f.q123 O (by unfold Es;trivial)
instance:Df B 1 "value_of" (fy B.G Ct):=gd O Y.f.q124 O (by unfold JB;trivial)
instance:Df B 2 "at_of" (fy B.G zL):=gd O Y.f.q125 O (by unfold Qi;trivial)
instance:Df B 2 "mark_of" (fy B.G y4):=gd O Y.f.q126 O (by unfold Lh;trivial)
instance:Df B 1 "with_part" (fy B.G Be):=gd O Y.f.q127 O (by unfold HC;trivial)
instance:Df B 3 "holders_of" (ub B.G yw):=Rn O Y.f.q128 O (by unfold FQ;trivial)
instance:Df B 10 "room_of" (fy B.G Aq):=gd O Y.f.q129 O (by unfold Li;trivial)
instance:Df B 10 "has" (fy B.G UM):=gd O Y.f.q130 O (by unfold Yr;trivial)
instance:Df B 10 "is_shut" (fy B.G zF):=gd O Y.f.q131 O (by unfold Lj;trivial)
instance:Df B 11 "in_open" (fy B.G zG):=gd O Y.f.q132 O (by unfold Lk;trivial)
instance:Df B 12 "burns_in" (fy B.G AL):=gd O Y.f.q133 O (by unfold JC;trivial)
instance:Df B 13 "is_lit" (fy B.G FR):=gd O Y.f.q134 O (by unfold NS;trivial)
instance:Df B 14 "is_seen" (fy B.G wQ):=gd O Y.f.q135 O (by unfold Ll;trivial)
instance:Df B 15 "seen" (ub B.G Mm):=Rn O Y.f.q136 O (by unfold UN;trivial)
instance:Df B 10 "is_of_way" (fy B.G zR):=gd O Y.f.q137 O (by unfold HE;trivial)
instance:Df B 11 "things_of" (fy B.G wz):=gd O Y.f.q138 O (by unfold HF;trivial)
instance:Df B 12 "meant" (fy B.G wC):=gd O Y.f.q139 O (by unfold Qj;trivial)
instance:Df B 10 "at_parts" (fy B.G EN):=gd O Y.f.q140 O (by unfold JD;trivial)
instance:Df B 10 "mark_parts" (fy B.G Aj):=gd O Y.f.q141 O (by unfold FU;trivial)
instance:Df B 11 "can_go" (fy B.G FV):=gd O Y.f.q142 O (by unfold NT;trivial)
instance:Df B 11 "can_show" (fy B.G EO):=gd O Y.f.q143 O (by unfold JE;trivial)
instance:Mf B 16 "holds" (vq 0):=⟨λc h e=>by
 unfold vq Cu at e;split at e
 .cases e;exact r? (k:=15) Y.f.k3 O Y.f.q144 O (by unfold JF;trivial)
 .cases e;exact r? (k:=15) Y.f.k4 O Y.f.q145 O (by unfold HG;trivial)
 .cases e;exact r? (k:=15) Y.f.k5 O Y.f.q146 O (by unfold FW;trivial)
 .cases e;exact r? (k:=15) Y.f.k6 O Y.f.q147 O (by unfold DL;trivial)
 .cases e;exact r? (k:=15) Y.f.k7 O Y.f.q148 O (by unfold FY;trivial)
 .cases e;exact r? (k:=15) Y.f.k8 O Y.f.q149 O (by unfold F0;trivial)
 .cases e;exact r? (k:=15) Y.f.L1 O Y.f.q150 O (by unfold HJ;trivial)
 .cases e⟩
instance:Mf B 17 "holds" (vq 1):=⟨λc h e=>by
 unfold vq at e;split at e
 .cases e;exact r? (k:=16) Y.f.k9 O Y.f.q151 O (by unfold zS;trivial)
 .cases e;exact r? (k:=16) Y.f.A' O Y.f.q152 O (by unfold yx;trivial)
 .exact(Mf.p (B:=B) (g:=vq 0) c h e).mono O⟩
instance:Mf B 18 "holds" (vq 2):=⟨λc h e=>by
 unfold vq at e;split at e
 .cases e;exact r? (k:=17) Y.f.k9 O Y.f.q151 O (by unfold zS;trivial)
 .cases e;exact r? (k:=17) Y.f.A' O Y.f.q152 O (by unfold yx;trivial)
 .exact(Mf.p (B:=B) (g:=vq 0) c h e).mono O⟩
instance:Mf B 19 "holds" (vq 3):=⟨λc h e=>by
 unfold vq at e;split at e
 .cases e;exact r? (k:=18) Y.f.k9 O Y.f.q151 O (by unfold zS;trivial)
 .cases e;exact r? (k:=18) Y.f.A' O Y.f.q152 O (by unfold yx;trivial)
 .exact(Mf.p (B:=B) (g:=vq 0) c h e).mono O⟩
instance:Mf B 14 "done" yV:=⟨λc h e=>by
 unfold yV at e;split at e
 .cases e;exact r? (k:=13) Y.f.Hj O Y.f.q153 O (by unfold HL;trivial)
 .cases e;exact r? (k:=13) Y.f.E' O Y.f.q154 O (by unfold JG;trivial)
 .cases e⟩
instance:Df B 10 "is_object" (fy B.G y6):=gd O Y.f.q155 O (by unfold HM;trivial)
instance:Df B 11 "fits_form" (fy B.G DM):=gd O Y.f.q156 O (by unfold HN;trivial)
instance:Df B 12 "is_command" (fy B.G Cv):=gd O Y.f.q157 O (by unfold F2;trivial)
instance:Df B 13 "check_command" (fy B.G yL):=gd O Y.f.q158 O (by unfold CZ;trivial)
instance:Df B 20 "fits" (fy B.G DN):=gd O Y.f.q159 O (by unfold UO;trivial)
instance:Df B 15 "outcome" (fy B.G zH):=gd O Y.f.q160 O (by unfold Lm;trivial)
instance:Df B 21 "answered" (fy B.G ET):=gd O Y.f.q161 O (by unfold JH;trivial)
instance:Df B 22 "step" (fy B.G Cw):=gd O Y.f.q162 O (by unfold UP;trivial)
instance:Df B 10 "objects_of" (ub B.G xS):=Rn O Y.f.q163 O (by unfold yy;trivial)
instance:Df B 11 "commands" (ub B.G Cy):=Rn O Y.f.q164 O (by unfold EU;trivial)
instance:Df B 1 "_law_cell_at" (fy B.G xF):=gd O Y.f.q165 O (by unfold DO;trivial)
instance:Df B 1 "_law_digit" (vl B.G uP):=gM4 O Y.f.q166 O O (by unfold Ak;trivial)
instance:Df B 1 "_law_named" (ub B.G vz):=Rn O Y.f.q167 O (by unfold F3;trivial)
instance:Df B 3 "_law_things" (vl B.G BB):=gM5 ["_law_state", "_law_rooms", "_law_things_here", "_law_holders", "_law_pool", "_law_turn", "_law_k", "_law_name", "_law_words", "_law_kind"] O Y.f.q168 O O (by unfold BA;trivial)
instance:Df B 3 "_law_marks" (vl B.G CB):=gM4 O Y.f.q169 O O (by unfold CA;trivial)
instance:Df B 2 "_law_ways" (vl B.G DQ):=gM5 ["_law_state", "_law_things_here", "_law_marks_here", "_law_rooms", "_law_doors", "_law_ways_here", "_law_k", "_law_room", "_law_word", "_law_goal", "_law_mark"] O Y.f.q170 O O (by unfold DP;trivial)
instance:Df B 3 "_law_verbs" (vl B.G CD):=gM4 O Y.f.q171 O O (by unfold CC;trivial)
instance:Df B 2 "_law_term" (vl B.G wX):=gM4 O Y.f.q172 O O (by unfold yg;trivial)
instance:Df B 2 "_law_mark_term" (vl B.G wK):=gM4 O Y.f.q173 O O (by unfold wJ;trivial)
instance:Df B 3 "_law_marked" (vl B.G BC):=gM4 O Y.f.q174 O O (by unfold zM;trivial)
instance:Df B 1 "_law_test" (vl B.G (wN 0)):=gM4 (k:=0) O Y.f.q175 O O (by trivial)
instance:Df B 4 "_law_test" (vl B.G (wN 1)):=gM4 (k:=3) O Y.f.q175 O O (by unfold vZ;trivial)
instance:Df B 5 "_law_test" (vl B.G (wN 2)):=gM4 (k:=4) O Y.f.q175 O O (by unfold vZ;trivial)
instance:Df B 6 "_law_test" (vl B.G (wN 3)):=gM4 (k:=5) O Y.f.q175 O O (by unfold vZ;trivial)
instance:Df B 3 "_law_deed" (vl B.G y7):=gM4 O Y.f.q176 O O (by unfold zT;trivial)
instance:Df B 8 "_law_rules" (vl B.G CH):=gM5 ["_law_state", "_law_things_here", "_law_marks_here", "_law_verbs_here", "_law_most", "_law_forms", "_law_rules_here", "_law_k", "_law_verb", "_law_form", "_law_tests", "_law_refuses", "_law_deeds"] O Y.f.q177 O O (by unfold CG;trivial)
instance:Df B 9 "_law_made" (vl B.G Bh):=gM4 O Y.f.q178 O O (by unfold DT;trivial)
instance:Df B 15 "_law_outcome" (fy B.G AN):=gd O Y.f.q179 O (by unfold DU;trivial)
instance:Df B 20 "_law_due" (fy B.G AO):=gd O Y.f.q180 O (by unfold EV;trivial)
def VN:μ B (S2 (top 175)) "law" (top 175) (vY (top 175)) 22 Qk:=by
 unfold Qk;refine P9 ?_ ?_
 all_goals trivial
end
end K38x
namespace K38x
open PySem L2 L3 L4
def QM(K:av):Sp:=λd H Q _=>∃(a:Addr) (b:List Int),d=[.ref a]/\gi K H a (b.map V.int)/\b.length<=63/\∀c,Q (.I γ) c
theorem LB{G:Bg}{H:Hp}:∀a:List Int,uS G H (a.map D.int) (a.map V.int)
 |[]=>vN
 |n::a=>vU (xy n) (LB a)
def X5{G:Bg}:∀c H Q E,QM G.K c H Q E->fy G Ys c H Q E:=λc H Q E h=>by obtain⟨a,b,rfl,i,f,k⟩:=h;refine⟨H,[.R (b.map D.int)],.I γ,vm.refl _,vU (by unfold L4.cb;exact⟨a,_,O,i,LB b⟩) vN,acy b f,λv e d _ _ _ _ r=>?_⟩;unfold L4.cb at r;subst r;exact k d
section
variable{K:av}{x m q:Str}{st:Stmt}{f C:Addr}{oc:ab}{od:Option Addr}{kV doc pm:ab}{an:Option Addr}{cdv ct:ab}{osl:Array (Option ab)}
def VO(d:K.lookup f=Z ⟨oc,od,.func (eU x q (za st) (vY st) (vw st) .none kV doc pm an cdv ct),osl⟩)(b:ia K cdv q=γ)(c:dZ K (.ref f)=γ):∃a,χ K x q st f a:=⟨_,⟨_,_,_,_,_,_,_,_,_,O,d,b⟩,c⟩
def gd_mk(h:i8 K bf x=Z (Z (.ref f)))(c:K.lookup f=Z ⟨oc,od,.func (eU x x (za st) (vY st) (vw st) .none kV doc pm an cdv ct),osl⟩)(a:ia K cdv x=γ)(b:dZ K (.ref f)=γ):GD K x st:=⟨f,(VO c a b).imp λ_ F=>⟨h,F⟩⟩
def gm_mk(h:cP K (.ref C) m=Z (Z (.ref f)))(b:j2 K (.ref f)=γ)(d:K.lookup f=Z ⟨oc,od,.func (eU m q (za st) (vY st) (vw st) .none kV doc pm an cdv ct),osl⟩)(a:ia K cdv q=γ)(c:dZ K (.ref f)=γ):GM K C m q st:=⟨f,(VO d a c).imp λ_ F=>⟨h,b,F⟩⟩
end
theorem all_mk{l:ib}{w:az}{K:av}{h:Heap}{p:Str->Option ab}{M:Addr}(X:K.In h)(I:h.Ns bf p)(hfa:p "law" = Z (.ref M)){q r t u x y z A C E b d i j m o:Addr}(F:Fx K q r t u x y z A C E b d i j m o):
  ∃H:bV,(∀(s:ae) (v:ab),ic s H ⟨[v],[]⟩ [("_law_script", v)])/\∀b?:Heap,K.In b?->b?.Ns bf p->zr l.prog w K p b? H? 23 M H ["_law_script"] (QM K):=by
 have sx:∃B:Bg,B.K=K/\B.ca 0=q/\B.ca 1=r/\B.ca 2=t/\B.ca 3=u/\B.ca 4=x/\B.ca 5=y/\B.ca 6=z/\B.ca 7=A/\B.ca 8=C/\B.ca 9=E/\B.ca 10=b/\B.ca 11=d/\B.ca 12=i/\B.ca 13=j/\B.ca 14=m/\B.ca 15=o:=⟨⟨K,λc=>[q,r,t,u,x,y,z,A,C,E,b,d,i,j,m,o].getD c 0⟩,O,O,O,O,O,O,O,O,O,O,O,O,O,O,O,O,O⟩;obtain⟨B,rfl,rfl,rfl,rfl,rfl,rfl,rfl,rfl,rfl,rfl,rfl,rfl,rfl,rfl,rfl,rfl,rfl⟩:=sx;have AT:∀b?,Yx ⟨l.prog,w,p,b?,B⟩:=λb?=>⟨⟨h,X,I⟩,F⟩;obtain⟨f,H,a,FF⟩:=F.q181;have e:=hfa.symm.t (i7 X I a);cases e;obtain⟨T,U,kV,doc,W,P,cdv,Q,osl,rfl,R,hcd⟩:=FF.ex;exact⟨_,λs v=>.of_eq O,λb? _ _=>(TB O O O FF (yr (N:=S2 (top 175)) (ps:=["_law_script"]) (np:=1) (n:=15) (by kernel_rfl)).1 ((@VN _ (AT b?)).ok O _)).imp (X5 (G:=B))⟩
def walk{l:ib}{q:aH}{loose:aE}{XP:(Str->Option ab)->Heap->Prop}{YP:az->Heap->Prop}{d:DefRec}{K:Params->av}(j:l.most=Z 63)(hdf:d.params.defaults=[])
  (hY:∀(w:az) (h:Heap),YP w h->(K w.params).In h)
  (F:∀(w:az) (b:Str->Option ab) (c:Addr) (h:Heap),(K w.params).In h->h.Ns bf b->b d.name=Z (.ref c)->
   ∃e:bV,(∀(s:ae) (u:ab),ic s e ⟨[u],[]⟩ [("_law_script", u)])/\∀b?:Heap,(K w.params).In b?->b?.Ns bf b->zr l.prog w (K w.params) b b? H? 23 c e ["_law_script"] (QM (K w.params))):
  W.WalkO q loose XP YP l.row.toRowW d [] (λf o=>mW f o):=
 L2.Wi (n:=63) (k:=23) (x:="_law_script") (CX:=λ_=>H?) (sp:=λw=>QM (K w.params)) j (by decide) hdf ⟨O,by decide,by decide⟩ hY F (λ_ _ a m i _ hS=>⟨a,m,O,hS,i,λ_=>O⟩) λ_ _ _ _ _ z=>z
end K38x
set_option maxHeartbeats 0
open PySem PySem.W PyProof.Rows
theorem PySem.Challenge.cw_tellworld_k38_whole_one_answer_holds : PySem.Challenge.rw_tellworld_k38_whole_one_answer.Holds := by
 refine hd ?_
 k_fill
 refine K38x.walk (l:=PySem.Challenge.rw_tellworld_k38_whole_one_answer) rfl rfl (λw h Y=>Y) ?F
 case F=>
  intro w mg fa h KX G hmg;refine' K38x.all_mk KX G hmg ?Q
  case Q=>
   constructor
   all_goals as_aux_lemma=>first
   |k_is
   |kernel_rfl
   |exact⟨⟨⟨by k_is,by k_is,by k_is,by k_is⟩,by k_is,by k_is,by k_is,by k_is⟩,by k_is,by k_is,by kernel_rfl⟩
   |exact⟨_,by k_is⟩
   |exact K38x.gd_mk (by k_is) (by k_is) (by k_is) (by k_is)
   |exact K38x.gm_mk (by k_is) (by k_is) (by k_is) (by k_is) (by k_is)
   |exact⟨_,_,_,_,by k_is,by k_is,by rfl,by rfl,by simp,by repeat' first|exact .nil|exact .cons rfl .nil|refine .cons rfl ?_⟩
   |exact⟨_,_,_,_,[_],_,by k_is,by k_is,⟨⟨_,_,_,_,_,_,_,_,_,rfl,by k_is,by k_is⟩,by k_is⟩,by k_is,by rfl,.cons (by first|rfl|exact⟨_,rfl⟩) .nil⟩
   |exact⟨_,_,_,_,[_,_,_],_,by k_is,by k_is,⟨⟨_,_,_,_,_,_,_,_,_,rfl,by k_is,by k_is⟩,by k_is⟩,by k_is,by rfl,.cons (by first|rfl|exact⟨_,rfl⟩) (.cons (by first|rfl|exact⟨_,rfl⟩) (.cons (by first|rfl|exact⟨_,rfl⟩) .nil))⟩
end
