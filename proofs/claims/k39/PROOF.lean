import PyProof.Rows.All
import Open.Pieces
import OpenK.KLine
import PySem.Challenge.RW_tellworld_k39_whole_a_tree
import PyProof.EqAt
import PyProof.EqKinds
import PyProof.TupleCall
import PyProof.StrWalks
import PyProof.ConsumeWalk
import PyProof.NeKinds
import PyProof.Rows.SetFrom
import KE.KIsAll
import PyProof.WalksMore
import PyProof.TupleKey
import PyProof.DictWalks
import PyProof.Rows.ZipGen
import KE.KDictLaws
import PyProof.DictItems
import KE.KSortTup
import PyProof.TupleOfSeq
import PyProof.Rows.SortStr
import PyProof.Rows.StrInSeq3
import PyProof.TupleIter
import KE.KDictOf
import PyProof.CollectWalk
import PyProof.Rows.SeqMore
import PyProof.IsiH_tuple
import PyProof.AttrMiss
import PyProof.Rows.Tup
import PyProof.WalksS
import PyProof.DictRoadsH
import PyProof.EnumIter
import PyProof.EnumFor
import PyProof.EnumMake
import PyProof.EnumStmt
set_option genSizeOf false
local macro_rules (kind:=Lean.Parser.Command.declaration)|s=>do
 if s.getPos?.isNone||s[1][1][0].getId.getRoot== `PySem then Lean.Macro.throwUnsupported
 let s:=s.rewriteBottomUp (·.setInfo .none)
 if s[1].getKind∈[``Lean.Parser.Command.definition,``Lean.Parser.Command.abbrev,``Lean.Parser.Command.instance]&&s[0][4].isNone then
  return s.setArg 0 (s[0].setArg 4 (Lean.mkNullNode #[Lean.Syntax.node .none ``Lean.Parser.Command.noncomputable #[Lean.mkAtom "noncomputable"]]))
 return s
set_option compiler.extract_closed false
noncomputable section
open Option renaming some->Z,none->O
open Bool renaming true->γ,false->δ
def J{b:Sort _}{a:b}:a=a:=rfl
open List renaming length_map->ag,mem_map->au,length_append->aE,getElem?_eq_getElem->bh,mem_cons_of_mem->bc,length_cons->aN,all_eq_true->aQ,mem_cons_self->ba,map_cons->aI,size_toArray->bb,mem_filter->aS,mem_cons->aM,mem_singleton->bj,mem_append->aV,mem_append_right->bB,getElem?_map->bx,map_map->aW,getElem?_eq_some_iff->bX,mem_append_left->bI,map_append->bu,mem_of_getElem?->bL,mem_map_of_mem->bQ,nodup_append->bM,range->bf,length_range->bS,length_filter_le->cB,getD_eq_getElem?_getD->cZ,append_assoc->cc,length_take->bZ,mem_range->bN,append_nil->bT,getElem?_set->cn,nil_append->cg,replicate->b0,not_mem_nil->cw,length_replicate->c5,length_singleton->di,getElem?_append_right->fY,getElem?_append_left->fZ,nodup_cons->dv,any_eq_true->dH,filterMap_cons->eL,mem_flatMap->dX,length->cK,find?_cons->dY,getElem?_drop->fE,zip_cons_cons->fF,lookup_cons->eV,zipWith_cons_cons->gL,take_of_length_le->gO,replicate_succ->f9,length_set->eW,getElem?_eq_none->gQ,length_drop->fI,mem_of_mem_take->gR,flatMap_cons->gm,lookup->dN,getElem_mem->gn,map->cG,getElem?_toArray->iB,drop_eq_getElem_cons->jA,flatten_cons->gS,mergeSort_perm->iH,filter_sublist->iI,getElem?_replicate->jD,length_eq_zero_iff->jE,filter_cons->gU,pairwise_mergeSort->jF,getElem?_set_self->jG,mem_filterMap->iJ,map_nil->fO,zipWith->fP,length_pos_of_mem->jH,length_nil->gV,any_cons->gu,zip_map'->gw,take_sublist->iO,take_add_one->iP,pairwise_map->iR,perm_append_singleton->lp,length_zipWith->jK,all_cons->gZ,foldl_cons->iX,length_zip->iY,filter_cons_of_pos->lQ,contains_iff_mem->lX,map_take->i4,getElem?_set_ne->lZ,mem_iff_getElem->l5,map_id->hZ,of_mem_zip->jY,getElem?_range->l9,getElem_of_mem->ma,map_congr_left->md,nodup_nil->j8,ext_getElem?->mj,length_erase_of_mem->oE,getElem_inj->mw,filter_cons_of_neg->oG,cons_append->mF,drop_eq_nil_of_le->oJ,forIn_cons->mI,zip_append->mJ,getElem?_zipWith->oP,filterMap_append->oR,take_append_drop->oU,mem_of_mem_drop->oY,mem_erase_of_ne->oZ,length_eraseIdx->o5,filter_eq_self->pe,length_pos_iff->pf,map_eq_nil_iff->ph,map_drop->m5,contains_cons->pB,find?_eq_none->pG,map_filterMap->pH,any_eq_false->pJ,foldl_append->pN,zipIdx_cons->qh,nodup_range->qm,append_cons->qp,zipIdx_nil->qB,find?_some->qC,range_succ->qD,foldl->nM,forIn_nil->qR,drop_zero->qV,drop_nil->q9,all_map->rD,rec->r6
open PySem renaming wpAny_bind->ae,wpAny_pure->aq,Value->aa,Shared->af,wpAny->ah,starEach->az,mainGlobals->aZ,sizeLine->aF,Program->aB,wpAny_holding->bK,Around->aG,World->aw,compareOp->bz,sizeLine_eq->bO,Spec->sL,wpAny_newObj_type->dj,wpAny_setState_of->dq,wpAny_call_entry->dt,SetTable->bF,wpAny_truthy_bool->dF,wpAny_Call_Name_kw->dS,codeAny_builtin->dw,wpAny_mono->cq,assignEach->cu,wpAny_callSpecial?_slot->f6,wpAny_field->cM,FuncData->bU,wpAny_seqItems->dJ,wpAny_pyIter_list->fG,sysModules->cU,backTo->bG,bootBuiltins->d9,plainId_quiet->eX,strKind->eZ,wpAny_setField->fL,wpAny_passesOwn->gq,binaryOp->cO,codeAny->cz,keywordEach->eh,attributeBase->fN,mem_of_lookup->iG,wpAny_rule->eA,wpAny_setField_rec->iK,wpAny_specialOf->gW,behindInMarks->gr,swapsWith->dO,builtinLookup_eq_fast->jI,foldedSetIterable->iN,Builtin->cP,ofAClassStatement->iQ,filterMap_getElem?_range->lE,letOwnedTupleGo->iW,wpAny_pyIter_tuple->jM,tupleKind_room_in1->jO,IsPair->cH,codeAny_mono->hE,NameKind->eC,wpAny_typeOf->hG,call_meetsIn->hJ,wpAny_Call_method->jQ,wpAny_storeSet_of->jV,GenState->fq,wpAny_execs_nil->jX,typeLookup_type->j6,call_meets->ia,IsTupleKey->ib,isSubtype_type->j7,Scope->cQ,wpAny_standAt->j9,wpAny_forIn_list->mx,wpAny_askSetting->mB,wpAny_isInstance->mC,Paired->ic,wpAny_pyNext_list_item->oH,Keyword->fS,wpAny_updateSeq->mK,IsZip->dc,wpAny_isTrue_Compare1->oN,wpAny_pyNext_list_end->oO,wpAny_eqIsQuiet_tuple->oQ,carriedByValue->mN,codeAny_call_builtin->oW,boot_len->mQ,wpAny_newTuple->mR,ZipApart->ik,wpAny_updateSeq_pair->oX,typeIs_none->km,wpAny_newList->mX,wpAny_onRaise->mY,wpAny_attempt->mZ,Result->fT,wpAny_call->kq,IsPart->fU,wpAny_getItem_heap->pA,Within->m7,BindsTo->il,seqIndex_neg->ni,slot_list_getitem->pL,wpAny_pyIter_slot->pU,fits_of_scanBound->pV,wpAny_setEpoch_of->pW,wpAny_pyHash_str->p9,wpAny_execs_cons->qa,PassesOwn->ky,noFill_tuple_add->qc,wpAny_pyIter_zip->qk,entryFor_of_tree->qo,seqIndex_of->nz,wpAny_of_eq->nD,wpAny_letGo->nG,codeAny_of_tree->qv,wpAny_ret_mkInt->qF,wpAny_Name->nH,typeIs_int->nJ,PlainAttrs->nL,meets_dict_get->qN,call->nN,wpAny_runValue->qO,isSubtype_stop->qS,entryFor_alias->qU,KeyKind->qW,intBits_le_64->qX,seq_tuple_add->qY,evalPart_none->qZ,call_list_seq->q8,wpAny_handled->ra,signature?_of->rj,WalksS->kE,Moved->jk
open PySem.Heap renaming get?_push_of_some->aA,get?_push_size->aX,lt_size->aL,size_push->cy,get?_update_self->eK,SameBut->dA,get?_update_other->gH,ExtBut->nF
open Bool renaming and_eq_true->aU,false_ne_true->br,eq_iff_iff->du,false_eq_true->eQ,not_eq_true'->fH,eq_false_iff->jS,or_eq_false_iff->l6,or_eq_true->jZ,not_eq_true->ql,and_false->qM,rec->nS
open Nat renaming le_refl->aJ,ne_of_lt->aT,le_trans->bC,lt_of_lt_of_le->ck,zero_le->cp,lt_succ_self->dG,le_add_right->dW,lt_succ_of_lt->eU,lt_irrefl->d8,ne_of_gt->dM,ble_eq->fj,le_of_lt->gx,add_right_comm->jL,lt_of_le_of_lt->jP,le_of_ble_eq_true->lY,mod_lt->gy,zero_add->i5,min_self->i7,le_succ->ja,ble->fz,add_comm->kj,succ_pos->nu,le_of_lt_succ->pQ,le_of_succ_le->pY,min_le_right->qe,le_of_not_lt->qf,succ_le_succ->qq,min_eq_left->qI,beq->jg,le_of_eq->rq,lt_trans->rA,sub_self->rB,pow_succ->rG,sub_sub->rS,max_le->rY
open Array renaming length_toList->bJ,getD_eq_getD_getElem?->gB,getElem?_toList->iA,getElem?_eq_getElem->jB,getElem?_eq_some_iff->ou,perm_iff_toList_perm->ox,toList_push->mm,size_eq_one_iff->oT,forIn_toList->pC,replicate->qE,size_map->qT,toList->rp,map->rZ
open PySem.W renaming Frag->av,kia_one->cN,emptyDict->ee,findIn->cW,kitOne->cX,instObj->fo,keepIn->eB,kitx_dict->hX,kitx_list->i9,fnOf->fA,codeIn->ie,OpenLaw->ig,plainGet_of->mT,callWith_K0->mU,plainGet->ko,kitx_tuple->m8,callWith_K->nh,cellsFrom_some->qb,methodObj->nv,hasDictIn->ny,methodCall_KW->qu,mg_of->ji,lookIn->kz,looks_findIn->qK,kas_sort->kA,nsIn->ip,makes_of->nO,takerIn->nP,makesIn->nQ,kas_ask->kB,plainOver->rL,make_core->rM,specialIn->rN,kitx_none->rO,kitx_bool->rP,isFn->kC
open PySem.Heap.SameBut renaming update->c6,refl->uL
open PyProof.Rows.F renaming plain_set_update_loop->dQ,entry_set_update_loop->gG
open Classical renaming propDecidable->dR,byContradiction->lA
open PySem.Around renaming under_plainId->dE,under->m9
open Option.some renaming inj->cJ,injEq->uI
open PySem.SetTable.layClean renaming free->eJ
open Prod renaming snd->bD,fst->cF,ext->r9
open PySem.Obj renaming data_mapFields->dU,mapSeq->c9,isFreed_of_fields->iC,mapFields->gv,cls_mapFields->jT,putSet->ku
open PySem.SetTable renaming bits->cR,below->dZ,grown->d7,runEnd->fK,Probe->fM,turns->gX,insertAt->jW,fits->i3,advance->mE,insertAt_perm->oM,fill->m6,layClean->pS,laid->rg,has->rF
open PySem.Calls renaming spliced_cons->eO,spliced_nil->gb,callWith_builtin->iz,evalArgs_plain->iF,call_function_entry->ly,Name_function_global->oo
open Option renaming map_eq_some_iff->f7,map_some->gp,bind_eq_some_iff->lG,getD_some->qg,map->rX
open PySem.Builtin.List renaming listTooLong->gE,listSameRef->oF,listExtendWith->sP
open PySem.Builtin.SmallTypes renaming ownedTupleIsFree->jw,nextOf->iy,ownedTupleHandOut->sM
open Int renaming toNat_natCast->gj,emod_lt_of_pos->iM,emod_nonneg->iZ,eq_ofNat_of_zero_le->lI
open False renaming elim->c7
open PySem.F renaming slot_dict_get->fJ,slot_tuple_iterator_next->jy,called_set->fQ,slot_NoneType_hash->jJ,entry_dict_get->iV,slot_tuple_getattribute->lC,slot_list_extend->jN,plainAttrs_dict->jR,plainAttrs_list->jU,sub_list_frozenset->l7,args_tuple_iterator_next_1->oj,slot_zip_next->j5,entry_tuple_iterator_next->om,slot_list_append->mh,args_dict_get_2->ml,slot_dict_setdefault->oK,type_dict_get->mH,args_list_extend_2->oV,sub_list_set->mO,entry_list_extend->pb,slot_dict_getitem->pd,args_tuple_add_2->px,type_list_append->pE,type_list_extend->pF,entry_tuple_add->pK,args_dict_get_3->pM,args_zip_next_1->pO,plain_list_iadd->pX,slot_tuple_add->qd,entry_zip_next->qj,slot_int_rmul->qt,plain_set_new->qw,slot_set_iter->qG,slot_dict_len->qH
open PyProof.Rows renaming slot_tuple_getitem->jx,StrsAre->l8,AllBare->fw,subscriptTail_builtinR->oI,boot_isinstance->mM,listUpdate_at->mW,IsTup->eD,seqEpoch_at->nE,get?_update_seq->qz,entry_list_sort->qA,IntsAre->jh,slicePart_none->qL,Subscript_->nI,slot_list_sort->qP,args_list_sort->qQ,lt_str->uC
open PySem.Builtin.Slice renaming slicePlaces->jz,sliceAdjust->lu,sliceApplied->oq,slicePartIndex->sN,sliceFields->tE
open PySem.Builtin.Tuple renaming tupleExact->jC,tupleItemsOf->sQ
open PySem.SetTable.probe renaming go->iU
open PySem.Value renaming isStrOf->gY,isInt->rK
open List.Perm renaming eq_of_pairwise->lD
open Ne renaming symm->dB
open LawfulBEq renaming eq_of_beq->fR
open Sum.inr renaming inj->hU
open PySem.Str renaming ofString->i6
open Nat.succ renaming inj->i8
open PySem.SeqAt.EqAt renaming str_str->mf,of_refs->mi,same->mG,none_int->o6,none_str->o7,int_none->o8,str_none->o9,int_str->pj,str_int->pq,tuple_none->t6,tuple_bool->t7,tuple_list->t8,list_tuple->t9,none_tuple->ua,bool_tuple->uc,none_bool->ud,bool_none->ue,bool_bool->uf,tuple_int->ug,tuple_str->uh,list_none->ui,list_bool->uj,none_list->uk,bool_list->um,int_tuple->uo,str_tuple->uq,bool_int->ur,bool_str->uu,int_bool->uv,str_bool->uw,list_int->ux,list_str->uy,int_list->uz,str_list->uA,int_int->uE
open PySem.Moved renaming trans->jc
open PySem.AutoSeq1 renaming wpAny_loadPart'->oA
open PySem.SeqAt renaming EqAt->je,notIn_listAt->pz,in_listAt->qr
open PySem.Walks renaming list->jf,tuple->rT
open PySem.Paired renaming length->mS,snoc->rR
open PySem.Shared renaming TypeIs->mV
open PySem.Heap.IsList renaming extBut->pI,push->uN
open PySem.Code renaming isFrame->ng,frames->rQ
open PySem.SetTable.below renaming go->pT
open Function renaming comp_def->pZ
open List.Sublist renaming refl->p8,nodup->uG
open PySem.Builtin.Frozenset renaming updateFrom->sO,newClass->sS
open PySem.PassesOwn renaming never->qJ
open PySem.SeqAt.RcNeAt renaming lists_lengths->sR,tuples->uB,lists->uF
open PySem.EqNone renaming eq_none_none->sT,eq_none_bool->sU,eq_bool_none->sV,ne_none_none->sY,ne_none_bool->sZ,ne_bool_none->tu,eq_none_int->tI,eq_none_str->tJ,eq_int_none->tK,eq_str_none->tN,ne_none_int->tQ,ne_none_str->tR,ne_int_none->tS,ne_str_none->tU
open PySem.EqMixed renaming eq_bool_str->sW,eq_str_bool->sX,ne_bool_str->tw,ne_str_bool->tD,eq_int_str->tL,eq_str_int->tP,ne_int_str->tT,ne_str_int->tV
open PySem.Builtin.Dict renaming pendingCount->tG,pairItems->tZ
open PySem.SeqAt.RcAt renaming lists_lengths->tW,tuples->uJ,lists->uM
open PySem.Pv renaming boot_tuple->rb,boot_list->rE,boot_set->rU,boot_int->rV
open PySem.Builtin.Range renaming rangeSize->tY
open PyProof.Rows.IsTup renaming new->nR
open PySem.pickOrder renaming go->rH
open Prod.mk renaming inj->rJ
open PySem.Heap.IsSliceOf renaming new->uD
open PySem.W.WShape renaming has->rW
open PySem.Within renaming cons->uH
open PySem.Txt renaming mul->nU
open List.Pairwise renaming map->uK
open PySem.Heap.DictOf renaming new->uO
def aj:=@if_pos
def ak:=@if_neg
def bp:=@of_decide_eq_true
def ar:=@absurd
def bq:=@decide_eq_false
def bg:=@decide_eq_true
def bY:=@decide_eq_true_eq
def bw:=@congrArg
def Eq.t:=@Eq.trans
def Iff.t:=@Iff.trans
def List.Perm.t:=@List.Perm.trans
def PySem.Heap.SameBut.t:=@PySem.Heap.SameBut.trans
def PySem.Moved.t:=@PySem.Moved.trans
abbrev cE:=List (PySem.Addr×PySem.Obj)
abbrev aC:=List PySem.Str
set_option Elab.async false
set_option linter.all false
namespace L5
open PySem PySem.W
noncomputable def vx(l:List Obj):Nat->List Addr->List Obj:=
 @r6 Obj (λ_=>Nat->List Addr->List Obj) (λ_ _=>[])
  (λo _ b i as=>@r6 Addr (λ_=>List Obj) [] (λa r _=>@nS (λ_=>List Obj) (b (Nat.succ i) as) (o::b (Nat.succ i) r) (jg a i)) as) l
def SL(i:Nat)(as:List Addr):vx [] i as=[]:=rfl
def We(o:Obj)(l:List Obj)(i:Nat)(r:List Addr):vx (o::l) i (i::r)=o::vx l (i+1) r:=by show @nS (λ_=>List Obj) _ _ (jg i i)=_;rw[Nat.beq_refl];rfl
def Wf(o:Obj)(l:List Obj)(i a:Nat)(r:List Addr)(h:a≠i):vx (o::l) i (a::r)=vx l (i+1) (a::r):=by
 show @nS (λ_=>List Obj) _ _ (jg a i)=_;have:jg a i=δ:=by
  cases q:jg a i with
  |false=>rfl
  |true=>exact ar (Nat.eq_of_beq_eq_true q) h
 rw[this];rfl
theorem LF:∀(l:List Obj) (i:Nat) (as:List Addr),(vx l i as).length=as.length->∀j (c:j<as.length),∃b,as[j]=i+b/\l[b]?=(vx l i as)[j]?
 |[],i,as,h,j,c=>by rw[SL]at h;simp at h;omega
 |o::l,i,[],h,j,c=>by simp at c
 |o::l,i,a::r,h,j,c=>by
  by_cases q:a=i
  .subst q;rw[We]at h ⊢;cases j with
   |zero=>exact⟨0,J,J⟩
   |succ j=>obtain⟨b,d,e⟩:=LF l (a+1) r (by simpa using h) j (by simpa using c);exact⟨b+1,by rw[List.getElem_cons_succ,d];exact jL a 1 b,by simpa using e⟩
  .rw[Wf _ _ _ _ _ q]at h ⊢;obtain⟨b,d,e⟩:=LF l (i+1) (a::r) h j c;exact⟨b+1,by rw[d];exact jL i 1 b,by simpa using e⟩
def live(o:Obj):Bool:=match o with|⟨_,_,.freed,_⟩=>δ|_=>γ
def Wg{h:Heap}{as:List Addr}{K:Frag}(e:as=K.map (·.1))(x:(vx h.objs.toList 0 as,K.all λp=>live p.2)=(K.map (·.2),γ)):K.In h:=by
 obtain⟨i,r⟩:=rJ x;refine Frag.in_of e (mj λj=>?_);rw[bx,bx];by_cases a:j<as.length
 .have q:(vx h.objs.toList 0 as).length=as.length:=by rw[i,e,ag,ag]
  obtain⟨b,l,m⟩:=LF _ _ _ q j a;have f:j<K.length:=by rw[e,ag]at a;exact a
  rw[bh a,bh f,gp,gp,l,i5];have o:h.objs[b]?=Z (K[j].2):=by rw[<-iA,m,i,bx,bh f];rfl
  have lv:live K[j].2=γ:=aQ.1 r _ (gn f);refine bw Z ?_;unfold Heap.get?;rw[o];revert lv;cases K[j].2 with
  |mk c d data t=>cases data<;>intro lv<;>first|rfl|cases lv
 .rw[gQ (by omega),gQ (by rw[e,ag]at a;omega)];rfl
noncomputable def ac9(K:Params->Frag) (as:List Addr) (e:∀P,as=(K P).map (·.1)):Hook:=
 ⟨List Obj×Bool,λs=>(vx s.heap.objs.toList 0 as,γ),λw=>((K w.params).map (·.2),(K w.params).all λp=>live p.2),InK K,λw s x=>Wg (e w.params) (by
  obtain⟨a,b⟩:=rJ x;rw[a,<- b]),InK.keeps⟩
end L5
section
open PySem PySem.W PyProof.Rows
local macro_rules|`(tactic|o_head ($f:ident $k $as $e))=>`(tactic|o_head ((L5.ac9 $k $as (fun _=>by kernel_rfl)):W.Hook))
local macro_rules|`(command|#where)=>do
 let mut r:=#[]
 for n in [43:1756] do
  let x:=Lean.mkIdent (.mkSimple s!"tw{((Lean.Name.mkSimple "hd").str s!"o_{n}").hash}")
  r:=r.push ((<-`(command|noncomputable def $x:ident:=0)).raw.rewriteBottomUp (·.setInfo .none))
 return Lean.mkNullNode r
noncomputable section
namespace PySem.W.Fast
def tw691281587763399003:=0
def tw986278823301348609:=0
def tw18024389773316472385:=0
def tw7509227932087631458:=0
def tw13406377419850843074:=0
def tw12153786506974362371:=0
def tw9867714693123648676:=0
def tw18111853076867884516:=0
def tw11610452036141022277:=0
def tw1765523129119087622:=0
def tw9849869762977856838:=0
def tw11434388955981004326:=0
def tw89577637782428743:=0
def tw3494157933751787943:=0
def tw6265987150890485897:=0
def tw10374632558016547081:=0
def tw13241994064123699754:=0
def tw938635154573522699:=0
def tw17712571637424770508:=0
def tw8726500145642417389:=0
def tw16828129974981846989:=0
def tw3237361815906912622:=0
def tw7774113678449685934:=0
def tw1828242887104783695:=0
def tw17072552323307216689:=0
def tw861502493610598483:=0
def tw1765020489040221299:=0
def tw15813021780557525363:=0
def tw18012095229114074420:=0
def tw13845010673617018999:=0
def tw15069464655358999481:=0
def tw18093534095739291932:=0
def tw17499200519749734940:=0
def tw2146936875351578237:=0
def tw1186011676593774846:=0
def tw4921153656708216350:=0
def tw7351761721107533599:=0
def tw2142731249730873150:=0
def tw17491350339408036281:=0
def tw13038230264168806847:=0
def tw17604796021258186780:=0
def tw6869078856192417158:=0
def tw4461559142613894602:=0
def tw227868461261401545:=0
def tw13347621489011750686:=0
def tw8997383693586321770:=0
def tw2714383194993059839:=0
def tw11456407014558801769:=0
def tw7871255557477498301:=0
def tw13322777563574152365:=0
def tw15514331714962229615:=0
#where
end PySem.W.Fast
end
def zvp:=PySem.Challenge.pw_tellworld_k39_whole_a_tree
noncomputable def zvq:=PySem.W.view zvp [183]
local macro_rules|`(tactic|refine $t)=>do
 if t.raw[0].getId != ``PySem.W.holds_open||t.raw[1][0][3].getId.eraseMacroScopes== `zvq then Lean.Macro.throwUnsupported
 let n:=fun (i:Nat) (x:Lean.Term) (a:Array Lean.Syntax)=>a.set! i (a[i]!.setArg 3 x)
 `(tactic|refine $(Lean.TSyntax.mk (t.raw.setArg 1 (Lean.mkNullNode (n 0 (<-`(zvq)) (n 1 (<-`(zvp.boundNames)) (n 2 (<-`(fun s=>PySem.W.xlAt zvq [] s&&PySem.W.recOk [] s)) (n 3 (<-`(PySem.W.XL zvq [])) t.raw[1].getArgs))))))))
set_option maxRecDepth 100000 in
set_option maxHeartbeats 0 in
open_top hd for PySem.Challenge.rw_tellworld_k39_whole_a_tree
end
set_option tactic.hygienic false
set_option maxRecDepth 100000
namespace L2
open PySem PySem.Spec PyProof.Rows
abbrev dr:=Sum Int Str
def IR:dr->aa->Bool
 |.inl k,v=>rK k v
 |.inr x,v=>gY x v
def keyH(w:aw):dr->Int
 |.inl k=>hashInt k
 |.inr x=>hashStr w x
def wt:∀{k:dr} {v:aa},IR k v=γ->(∃i t,k=Sum.inl i/\v=Value.int i t)\/(∃x t,k=Sum.inr x/\v=Value.str x t)
 |.inl i,v,h=>by obtain⟨t,e⟩:=Value.isInt_shape (k:=i) (v:=v) h;exact .inl ⟨i,t,J,e⟩
 |.inr x,v,h=>by obtain⟨t,e⟩:=Value.isStrOf_shape (x:=x) (v:=v) h;exact .inr ⟨x,t,J,e⟩
def Q7(i:Int)(t:Tok):IR (.inl i) (.int i t)=γ:=by simp[IR,rK]
def Q8(x:Str)(t:Tok):IR (.inr x) (.str x t)=γ:=by simp[IR,gY]
def Zf(a b:Int):decide ((Sum.inl a:dr)=Sum.inl b)=(a==b):=by
 by_cases e:a=b
 .subst e;simp
 .have h:¬(Sum.inl a:dr)=Sum.inl b:=λq=>e (Sum.inl.inj q);rw[bq h];exact(beq_eq_false_iff_ne.2 e).symm
def Zg(a b:Str):decide ((Sum.inr a:dr)=Sum.inr b)=decide (a=b):=by
 by_cases e:a=b
 .subst e;simp
 .have h:¬(Sum.inr a:dr)=Sum.inr b:=λq=>e (hU q);rw[bq h,bq e]
def Zh(a:Int)(b:Str):decide ((Sum.inl a:dr)=Sum.inr b)=δ:=bq (λq=>nomatch q)
def Zi(a:Str)(b:Int):decide ((Sum.inr a:dr)=Sum.inl b)=δ:=bq (λq=>nomatch q)
def vv(prog:aB)(w:aw):qW prog w dr where
 is:=IR
 hash:=keyH w
 inj:=λv a b ha hb=>by
  rcases wt ha with ⟨i,t,rfl,rfl⟩|⟨x,t,rfl,rfl⟩
  .rcases wt hb with ⟨j,u,rfl,e⟩|⟨y,u,rfl,e⟩
   .injection e with c _;rw[c]
   .exact nomatch e
  .rcases wt hb with ⟨j,u,rfl,e⟩|⟨y,u,rfl,e⟩
   .exact nomatch e
   .injection e with c _;rw[c]
 byValue:=λk v h=>by rcases wt h with ⟨i,t,rfl,rfl⟩|⟨x,t,rfl,rfl⟩<;>rfl
 pyHash:=λd h=>by
  rcases wt d with ⟨i,t,rfl,rfl⟩|⟨x,t,rfl,rfl⟩
  .exact wpAny_pyHash_int h
  .exact p9 h
 eqBool:=λf d h=>by
  rcases wt f with ⟨i,t,rfl,rfl⟩|⟨x,t,rfl,rfl⟩
  .rcases wt d with ⟨j,u,rfl,rfl⟩|⟨y,u,rfl,rfl⟩
   .rw[Zf]at h;exact wpAny_eqBool_int h
   .rw[Zh]at h;exact pj i t y u _ _ _ _ h
  .rcases wt d with ⟨j,u,rfl,rfl⟩|⟨y,u,rfl,rfl⟩
   .rw[Zi]at h;exact pq x t j u _ _ _ _ h
   .rw[Zg]at h;exact wpAny_eqBool_str h
 «strs»:=λk x t v h=>by
  rcases wt h with ⟨i,u,rfl,e⟩|⟨y,u,rfl,e⟩
  .exact nomatch e
  .injection e with c _;subst c;cases v<;>rfl
def MM(prog:aB)(w:aw)(i:Int)(t:Tok):(vv prog w).is (.inl i) (.int i t)=γ:=Q7 i t
def MN(prog:aB)(w:aw)(x:Str)(t:Tok):(vv prog w).is (.inr x) (.str x t)=γ:=Q8 x t
inductive V where
 |J|U (b:Bool)|int (i:Int)|str (x:Str)|π (b:Array UInt8)|flt (b:UInt64)|ref (a:Addr)|ty (n:String)
 deriving DecidableEq
abbrev bA:=List V
def dg:V->aa->Prop
 |.J,u=>u=Value.none
 |.U b,u=>u=Value.bool b
 |.int i,u=>∃t,u=Value.int i t
 |.str x,u=>∃t,u=Value.str x t
 |.π b,u=>∃t,u=Value.bytes b t
 |.flt b,u=>∃t,u=Value.float b t
 |.ref a,u=>u=Value.ref a
 |.ty n,u=>u=Value.type n
abbrev de:bA->List aa->Prop:=ic dg
theorem de.length(r:de xs a):xs.length=a.length:=mS r
theorem de.get:∀{b:bA} {a:List aa} {i:Nat} {x:V},de b a->b[i]?=Z x->∃u,a[i]?=Z u/\dg x u
 |_,_,_,_,.nil,e=>by simp at e
 |_,_,0,_,.cons r _,e=>by simp at e;subst e;exact⟨_,J,r⟩
 |_,_,i+1,x,.cons _ t,e=>by obtain⟨u,c,d⟩:=de.get (i:=i) (x:=x) t (by simpa using e);exact⟨u,by simpa using c,d⟩
theorem de.set(r:dg x u):∀{b:bA} {a:List aa} (i:Nat),de b a->de (b.set i x) (a.set i u)
 |_,_,_,.nil=>.nil
 |_,_,0,.cons _ t=>.cons r t
 |_,_,i+1,.cons q t=>.cons q (de.set r i t)
theorem de.append:∀{b c:bA} {a ws:List aa},de b a->de c ws->de (b++c) (a++ws)
 |_,_,_,_,.nil,s=>s
 |_,_,_,_,.cons r t,s=>.cons r (de.append t s)
theorem de.take:∀{xs:bA} {a:List aa} (n:Nat),de xs a->de (xs.take n) (a.take n)
 |_,_,0,_=>.nil
 |_,_,_+1,.nil=>.nil
 |_,_,n+1,.cons r t=>.cons r (de.take n t)
theorem de.drop:∀{xs:bA} {a:List aa} (n:Nat),de xs a->de (xs.drop n) (a.drop n)
 |_,_,0,r=>r
 |_,_,_+1,.nil=>.nil
 |_,_,n+1,.cons _ t=>de.drop n t
def CT:Option V->Option aa->Prop
 |some v,Z u=>dg v u
 |none,O=>True
 |_,_=>False
def KV{a:Type}:List (a×V)->List (a×aa)->Prop:=ic λ(p:a×V) (q:a×aa)=>p.1=q.1/\dg p.2 q.2
def kV:dr->V
 |.inl i=>.int i
 |.inr x=>.str x
inductive HO where
 |b4 (xs:bA)
 |c4 (xs:bA)
 |dK (kvs:List (dr×V))|dT (kvs:List (List dr×V))
 |set (S:Int->Bool) (n:Nat)
 |ka (C dx:Addr) (fs:List (Str×V))
 |fl (x:Addr)
 |xd (fs:List (Str×V))
 |met (f x:Addr)
 |rng (lo hi:Int)
 |lb (o:Obj) (u:HO)
 |tbl (ps:Array aa)
 |ext (φ:Heap->Prop)
abbrev Hp:=Addr->Option HO
def eg(H:Hp)(a:Addr)(o:HO):Hp:=λb=>if b=a then Z o else H b
def uZ:eg H a o a=Z o:=by unfold eg;rw[aj J]
def vb(h:b≠a):eg H a o b=H b:=by unfold eg;rw[ak h]
def adb{H:Hp}{a b:Addr}{o u:HO}(h:H a=Z o)(c:H b=Z u)(d:o≠u):a≠b:=by intro e;subst e;rw[h]at c;exact d (cJ c)
def xS{H:Hp}{a b:Addr}{o:HO}(h:H a=Z o)(c:H b=O):a≠b:=by intro e;subst e;rw[h]at c;cases c
section
variable(P:aB)(w:aw)
def ef(H:Hp)(h:Heap)(a:Addr):HO->Prop
 |.b4 c=>c.length<=aF/\∃(b:List aa) (n:Nat),de c b/\h.get? a=Z { cls:=.type "list", data:=.seq b.toArray n }
 |.c4 c=>c.length<=aF/\∃b:List aa,de c b/\eD h a b.toArray/\∀o,h.get? a=Z o->o.dict=O
 |.dK kvs=>kvs.length<=aF/\(a==cU)=δ/\∃m,KV kvs m/\h.DictOf (vv P w) a m
 |.dT kvs=>kvs.length<=aF/\(a==cU)=δ/\∃c:List (List dr×Addr×aa),
   ic (λ(p:List dr×V) (q:List dr×Addr×aa)=>p.1=q.1/\H q.2.1=Z (.c4 (p.1.map kV))/\dg p.2 q.2.2) kvs c/\
   ∃o i r,h.get? a=Z o/\o.ExactDict/\o.data=.dict i r/\i.toList=c.map (entryOfKey (tupleKind (vv P w)))/\(c.map (·.1)).Nodup
 |.set S n=>h.SetOf (intKind P w) a S n
 |.ka C d fs=>H d=Z (.fl a)/\fs.length<=1000/\d≠a/\h.get? a=Z (fo C d)/\
   ∃mA,h.Ns1 d mA/\(∀f,CT (fs.lookup f) (mA f))/\m7 mA (fs.map (·.1))
 |.fl _=>∃o,h.get? a=Z o
 |.xd fs=>∃mA,h.Ns1 a mA/\∀f,CT (fs.lookup f) (mA f)
 |.rng lo y=>∃t u v,h.get? a=Z { cls:=.type "range", data:=.fields #[.int lo t,.int y u,.int 1 v] }
 |.lb o u=>h.get? a=Z o/\ef H h a u
 |.tbl z=>h.get? a=Z { cls:=.none,data:=.fields z }
 |.met f x=>h.get? a=Z (nv (.ref f) (.ref x))
 |.ext e=>e h/\(∃o,h.get? a=Z o)/\∀j l:Heap,e j->(∀o,j.get? a=Z o->l.get? a=Z o)->e l
def nj(H:Hp)(h:Heap):Prop:=∀a o,H a=Z o->ef P w H h a o
end
section
variable{P:aB}{w:aw}{H H':Hp}{h h':Heap}{a:Addr}{o:HO}
theorem ef.lt(x:ef P w H h a o):a<h.objs.size:=by
 cases o with
 |b4 b=>obtain⟨_,_,_,_,e⟩:=x;exact aL e
 |c4 b=>obtain⟨_,_,_,p,_⟩:=x;exact p.lt
 |dK kvs=>obtain⟨_,_,_,_,o,_,_,e,_⟩:=x;exact aL e
 |dT kvs=>obtain⟨_,_,_,_,o,_,_,e,_⟩:=x;exact aL e
 |set S n=>obtain⟨o,_,_,_,e,_⟩:=x;exact aL e
 |ka C c fs=>obtain⟨_,_,_,e,_⟩:=x;exact aL e
 |fl y=>obtain⟨_,e⟩:=x;exact aL e
 |xd fs=>obtain⟨_,⟨_,_,_,e,_⟩,_⟩:=x;exact aL e
 |rng lo d=>obtain⟨_,_,_,e⟩:=x;exact aL e
 |lb i u=>obtain⟨e,_⟩:=x;exact aL e
 |tbl j=>exact aL (show h.get? a=Z _ from x)
 |met f y=>exact aL (show h.get? a=Z _ from x)
 |ext l=>obtain⟨_,⟨_,e⟩,_⟩:=x;exact aL e
theorem Paired.mapP{e i:Type}{F G:e->i->Prop}:∀{c:List e} {d:List i},ic F c d->(∀a b,F a b->G a b)->ic G c d
 |_,_,.nil,_=>.nil
 |_,_,.cons r t,f=>.cons (f _ _ r) (Paired.mapP t f)
def ef.H4(x:ef P w H h a o)(k:∀b u,(b=a\/H b=Z (.fl a))->h.get? b=Z u->h'.get? b=Z u)
  (I:∀b,H b=Z (.fl a)->H' b=Z (.fl a)) (M:∀b A,H b=Z (.c4 A)->H' b=Z (.c4 A)):ef P w H' h' a o:=by
 induction o with
 |b4 A=>obtain⟨z,m,n,r,e⟩:=x;exact⟨z,m,n,r,k _ _ (.inl J) e⟩
 |c4 A=>obtain⟨z,m,r,⟨i,e,c⟩,f⟩:=x;exact⟨z,m,r,⟨i,k _ _ (.inl J) e,c⟩,λW E=>by rw[k _ _ (.inl J) e]at E;cases E;exact f _ e⟩
 |dK kvs=>obtain⟨z,y,R,r,i,l,j,e,c⟩:=x;exact⟨z,y,R,r,i,l,j,k _ _ (.inl J) e,c⟩
 |dT kvs=>obtain⟨z,y,A,r,i,l,j,e,c⟩:=x;exact⟨z,y,A,Paired.mapP r λp q z=>⟨z.1,M _ _ z.2.1,z.2.2⟩,i,l,j,k _ _ (.inl J) e,c⟩
 |set S n=>obtain⟨i,l,j,t,e,c⟩:=x;exact⟨i,l,j,t,k _ _ (.inl J) e,c⟩
 |ka C T fs=>obtain⟨d,z,Q,e,mA,⟨B,l,j,G,c⟩,r⟩:=x;exact⟨I _ d,z,Q,k _ _ (.inl J) e,mA,⟨B,l,j,k _ _ (.inr d) G,c⟩,r⟩
 |fl y=>obtain⟨i,e⟩:=x;exact⟨i,k _ _ (.inl J) e⟩
 |xd fs=>obtain⟨mA,⟨B,l,j,e,c⟩,r⟩:=x;exact⟨mA,⟨B,l,j,k _ _ (.inl J) e,c⟩,r⟩
 |rng lo U=>obtain⟨t,u,v,e⟩:=x;exact⟨t,u,v,k _ _ (.inl J) e⟩
 |lb i u N=>obtain⟨e,q⟩:=x;exact⟨k _ _ (.inl J) e,N q⟩
 |tbl F=>have e:h.get? a=Z { cls:=.none,data:=.fields F }:=x;show h'.get? a=Z { cls:=.none,data:=.fields F };exact k a _ (.inl J) e
 |met f y=>have e:h.get? a=Z (nv (.ref f) (.ref y)):=x;show h'.get? a=Z (nv (.ref f) (.ref y));exact k a _ (.inl J) e
 |ext X=>obtain⟨p,⟨o,e⟩,st⟩:=x;exact⟨st _ _ p λo q=>k _ _ (.inl J) q,⟨o,k _ _ (.inl J) e⟩,st⟩
theorem nj.lt(x:nj P w H h)(e:H a=Z o):a<h.objs.size:=(x a o e).lt
def nj.fresh(x:nj P w H h)(e:h.objs.size<=a):H a=O:=by
 cases q:H a with
 |none=>rfl
 |some u=>exact ar (ck (x.lt q) e) (d8 _)
def nj.fc(x:nj P w H h)(k:∀b u,h.get? b=Z u->h'.get? b=Z u):nj P w H h':=λa o e=>
 (x a o e).H4 (λb u y q=>k b u q) (λy q=>q) λy y q=>q
def nj.laid(x:nj P w H h)(k:∀b u,h.get? b=Z u->h'.get? b=Z u)(i:h.objs.size<=a)(new:ef P w (eg H a o) h' a o):nj P w (eg H a o) h':=λb u e=>by
 have f:=x.fresh i;by_cases d:b=a
 .subst d;rw[uZ]at e;cases e;exact new
 .rw[vb d]at e;exact(x b u e).H4 (λc v y q=>k c v q) (λc q=>by rw[vb (xS q f)];exact q) λc j q=>by rw[vb (xS q f)];exact q
end
def Rd(H:Hp)(a:Addr)(u:HO):Prop:=H a=Z u\/∃o,H a=Z (.lb o u)
def Rd.ok(r:Rd H a u)(x:nj P w H h):ef P w H h a u:=by
 rcases r with r|⟨o,r⟩
 .exact x a u r
 .obtain⟨_,q⟩:=x a _ r;exact q
def Mut:Option HO->Prop
 |some (.b4 _)=>True
 |some (.dK _)=>True
 |some (.dT _)=>True
 |some (.set _ _)=>True
 |some (.ka _ _ _)=>True
 |some (.ext _)=>True
 |_=>False
section
variable{P:aB}{w:aw}{H:Hp}{h h':Heap}{x e:Addr}{o':HO}
def nj.rf(ok:nj P w H h)(f:Mut (H x))(j:e=x\/H e=Z (.fl x))(k:∀b u,b≠e->h.get? b=Z u->h'.get? b=Z u)(heo:∃u,h'.get? e=Z u)
  (new:ef P w (eg H x o') h' x o'):nj P w (eg H x o') h':=λb u q=>by
 have nown:∀c y,H c=Z (.fl y)->c≠x:=λc y r z=>by subst z;rw[r]at f;exact f
 have ntup:∀c i,H c=Z (.c4 i)->c≠x:=λc i r z=>by subst z;rw[r]at f;exact f
 by_cases a:b=x
 .subst a;rw[uZ]at q;cases q;exact new
 .rw[vb a]at q;by_cases hbe:b=e
  .have l:H b=Z (.fl x):=by
    rcases j with z|z
    .exact ar (hbe.t z) a
    .rw[hbe];exact z
   rw[q]at l;cases l;obtain⟨v,m⟩:=heo;exact⟨v,by rw[hbe];exact m⟩
  .refine(ok b u q).H4 (λc v d r=>k c v ?_ r) (λc r=>by rw[vb (nown c b r)];exact r) λc i r=>by rw[vb (ntup c i r)];exact r
   rcases d with rfl|d
   .exact hbe
   .rintro rfl;rcases j with z|z
    .exact nown c b d z
    .rw[d]at z;cases z;exact a J
end
structure Un(fs ex:List Addr)(H H':Hp)(h h':Heap):Prop where
 keep:∀b o,h.get? b=Z o->H b=O->b∉fs->b∉ex->h'.get? b=Z o
 slot:∀b o,h.get? b=Z o->H b=O->b∈fs->b∉ex->∃sl,h'.get? b=Z { o with slots:=sl }
 free:∀b o,h.get? b=Z o->H b=O->b∉ex->H' b=O
 there:∀b o,h.get? b=Z o->b∉ex->∃o',h'.get? b=Z o'
 tz:∀b xs,H b=Z (.c4 xs)->H' b=Z (.c4 xs)
 vj:∀b o u,H b=Z (.lb o u)->H' b=Z (.lb o u)
 B?:∀b ps,H b=Z (.tbl ps)->∃more,H' b=Z (.tbl (ps++more))
section
variable{fs fs' ex ex':List Addr}{H H1 H2:Hp}{h h1 h2 h':Heap}{a x e:Addr}{o:HO}
def Un.any(u:Un fs ex H H1 h h1)(q:h.get? b=Z ob)(n:H b=O)(c:b∉ex):∃sl,h1.get? b=Z { ob with slots:=sl }:=by
 by_cases hb:b∈fs
 .exact u.slot b ob q n hb c
 .exact⟨ob.slots,u.keep b ob q n hb c⟩
def Un.fc(k:∀b u,h.get? b=Z u->h'.get? b=Z u):Un fs ex H H h h':=
 ⟨λb c q y y y=>k b c q,λb c q y y y=>⟨c.slots,k b c q⟩,λy y y n y=>n,λb c q y=>⟨c,k b c q⟩,λy y q=>q,λy y y q=>q,λy d q=>⟨#[],by rw[q];simp⟩⟩
def Un.refl:Un fs ex H H h h:=Un.fc λy y q=>q
def Un.laid(k:∀b u,h.get? b=Z u->h'.get? b=Z u)(c:h.objs.size<=a)(hn:H a=O):Un fs ex H (eg H a o) h h' where
 keep:=λb u q y y y=>k b u q
 slot:=λb u q y y y=>⟨u.slots,k b u q⟩
 free:=λb u q n y=>by rw[vb (aT (ck (aL q) c))];exact n
 there:=λb u q y=>⟨u,k b u q⟩
 tz:=λb xs q=>by rw[vb (xS q hn)];exact q
 vj:=λb u xs q=>by rw[vb (xS q hn)];exact q
 B?:=λb ps q=>⟨#[],by rw[vb (xS q hn),q];simp⟩
def Un.rf(c:Mut (H x))(j:e=x\/H e=Z (.fl x))(k:∀b u,b≠e->h.get? b=Z u->h'.get? b=Z u)(heo:∃u,h'.get? e=Z u):Un fs ex H (eg H x o) h h':=by
 have i:∀b,H b=O->b≠x:=λb n z=>by subst z;rw[n]at c;exact c
 have f:∀b,H b=O->b≠e:=λb n z=>by
  subst z;rcases j with r|r
  .exact i b n r
  .rw[n]at r;cases r
 have d:∀b u,H b=Z u->¬Mut (Z u)->b≠x:=λb u q l z=>by subst z;rw[q]at c;exact l c
 refine⟨λb u q n y y=>k b u (f b n) q,λb u q n y y=>⟨u.slots,k b u (f b n) q⟩,λb u q n y=>by rw[vb (i b n)];exact n,λb u q y=>?_,
  λb m q=>by rw[vb (d b _ q λz=>z)];exact q,λb u m q=>by rw[vb (d b _ q λz=>z)];exact q,λb p q=>⟨#[],by rw[vb (d b _ q λz=>z),q];simp⟩⟩
 by_cases hbe:b=e
 .subst hbe;exact heo
 .exact⟨u,k b u hbe q⟩
end
def trk(h:Heap)(H:Hp):List Addr:=(bf h.objs.size).filter λa=>(H a).isSome
def LG(h:Heap)(H:Hp):Heap:=W.hideAll h (trk h H)
def Q9(h:Heap)(H:Hp):(LG h H).objs.size=h.objs.size:=W.hideAll_size _ _
def SM{h:Heap}(e:h.get? b=Z o)(n:H b=O):(LG h H).get? b=Z o:=
 W.hideAll_get _ e λa=>by have q:(H b).isSome=γ:=(aS.1 a).2;rw[n]at q;simp at q
def Wh(e:(LG h H).get? b=Z o):h.get? b=Z o/\H b=O:=by
 have a:h.get? b=Z o:=W.of_hideAll (trk h H) e;refine⟨a,?_⟩;cases q:H b with
 |none=>rfl
 |some x=>have c:b∈trk h H:=aS.2 ⟨bN.2 (aL a),by simp[q]⟩;have z:(LG h H).get? b=O:=W.hideAll_none (trk h H) c;rw[z]at e;cases e
def Wi(g h:Heap)(L:Addr):cE:=(bf h.objs.size).filterMap λa=>if a=L\/(g.get? a).isSome=γ then O else (h.get? a).map λo=>(a,o)
def ey(g h:Heap)(L d:Addr):cE:=(Wi g h L).filter λp=>decide (p.1≠d)
structure Mod(K:av)(mg:Str->Option aa)(b1:Heap):Prop where
 kin:K.In b1
 vo:b1.Ns aZ mg
 blt:∃mb,b1.Ns builtinsNs mb/\∀x:Str,x≠"__name__" -> mb x=d9 x
 nolimit:b1.NoLimit
structure Cx where
 prog:aB
 w:aw
 K:av
 mg:Str->Option aa
 b1:Heap
 A:aG
 N:aC
 s₀:af
 H₀:Hp
 b3:Env
 cf:List Env
 stack:List Env
 ex:List Addr
 fn:Str->Bool
 j0:Bool
 pn:cE
 xe:aa->af->Prop
def frs(l:List Env):List Addr:=l.filterMap (·.frame)
abbrev Cx.fs(X:Cx):List Addr:=frs X.cf
def Vis(a:cQ)(x:Str):Prop:=a.names.lookup x=Z .local\/a.names.lookup x=Z .cell\/a.names.lookup x=Z .free
def Loc(a:cQ)(x:Str):Prop:=a.names.lookup x=Z .local\/a.names.lookup x=Z .cell
def Look(b3:Env)(h:Heap)(m:Str->Option aa)(x:Str)(u:aa):Prop:=
 (b3.kindOf x=Z .local/\m x=Z u)\/((b3.kindOf x=Z .cell\/b3.kindOf x=Z .free)/\∃c,b3.cells.lookup x=Z c/\h.IsCell c (Z u))
structure Cx.Ok(X:Cx):Prop where
 xo:Mod X.K X.mg X.b1
 kind:X.b3.scope.kind=.function
 vo:X.b3.globals=aZ
 blt:X.b3.builtins=builtinsNs
 above:X.s₀.heap.objs.size<=X.b3.locals
 inj:∀x y c,X.b3.cells.lookup x=Z c->X.b3.cells.lookup y=Z c->x=y
 has:∀x,(X.b3.kindOf x=Z .cell\/X.b3.kindOf x=Z .free)->∃c,X.b3.cells.lookup x=Z c
 cab:∀x c,X.fn x=γ->X.b3.cells.lookup x=Z c->X.s₀.heap.objs.size<=c
 hd:X.j0=γ->X.A.handled=O
 frames:X.A.frames=Z X.stack
 stk:X.stack=X.cf\/(X.stack=X.b3::X.cf/\X.b3.frame=Z X.b3.locals)
 exf:∀b∈X.ex,b≠X.b3.locals/\∀x c,X.b3.cells.lookup x=Z c->c≠b
 bs:∀b o,X.b1.get? b=Z o->X.s₀.heap.get? b=Z o/\X.H₀ b=O
 bsz:X.b1.objs.size<=X.s₀.heap.objs.size
 ε:∀b o,X.b1.get? b=Z o->b∉X.ex
 X?:∀b∈X.ex,b∉X.fs
 p?:X.s₀.heap.FunFrames X.b1 X.cf
 frf:∀b∈X.fs,X.H₀ b=O
structure cb(X:Cx)(pins:cE)(σ:List (Option V))(H:Hp)(s:af):Prop where
 ok:X.Ok
 os:s.os=X.s₀.os
 gi:fw s.gens
 b1:Un X.fs X.ex X.H₀ H X.s₀.heap s.heap
 Dx:∃m,s.heap.Ns X.b3.locals m/\∀(i:Nat) (x:Str) (v:V),X.N[i]?=Z x->σ[i]?=Z (Z v)->Vis X.b3.scope x->∃u,dg v u/\Look X.b3 s.heap m x u
 cell:∀x c,X.b3.cells.lookup x=Z c->∃v,s.heap.IsCell c v
 free:H X.b3.locals=O
 j4:∀x c,X.b3.cells.lookup x=Z c->H c=O
 E?:∀p∈X.pn++pins,s.heap.get? p.1=Z p.2/\H p.1=O/\p.1≠X.b3.locals/\p.1∉X.fs/\∀v,p.2.data≠.cell v
 er:nj X.prog X.w H s.heap
 len:σ.length=X.N.length
section
variable{X:Cx}{pins:cE}{σ:List (Option V)}{H H':Hp}{s:af}{h':Heap}
def Cx.Ok.nofr(ok:X.Ok)(e:X.b1.get? b=Z o):b∉X.fs:=λa=>by have:=(ok.p?.mem a).1;rw[e]at this;cases this
theorem cb.bs(I:cb X pins σ H s):∀b o,X.b1.get? b=Z o->s.heap.get? b=Z o/\H b=O:=λb o e=>
 ⟨I.b1.keep b o (I.ok.bs b o e).1 (I.ok.bs b o e).2 (I.ok.nofr e) (I.ok.ε b o e),I.b1.free b o (I.ok.bs b o e).1 (I.ok.bs b o e).2 (I.ok.ε b o e)⟩
def cb.bk(I:cb X pins σ H s):∀b o,X.b1.get? b=Z o->s.heap.get? b=Z o:=λb o e=>(I.bs b o e).1
theorem cb.xo(I:cb X pins σ H s):Mod X.K X.mg X.b1:=I.ok.xo
def cb.kx(I:cb X pins σ H s):X.K.In s.heap:=I.ok.xo.kin.keeps I.bk
def cb.fr(I:cb X pins σ H s):∃m,Fr X.b1 X.b3.locals s.heap m:=
 let ⟨m,a,_⟩:=I.Dx
 ⟨m,a,I.bk,bC I.ok.bsz I.ok.above⟩
theorem cb.lt(I:cb X pins σ H s):X.b3.locals<s.heap.objs.size:=let ⟨_,a,_⟩:=I.Dx;a.lt
def cb.sz(I:cb X pins σ H s):X.s₀.heap.objs.size<=s.heap.objs.size:=bC I.ok.above (gx I.lt)
def cb.nofs(I:cb X pins σ H s)(h:s.heap.objs.size<=a):a∉X.fs:=λb=>by obtain⟨_,o,c,_⟩:=I.ok.p?.mem b;exact ar (ck (aL c) (bC I.sz h)) (d8 _)
def cb.cne(I:cb X pins σ H s):∀x c,X.b3.cells.lookup x=Z c->c≠X.b3.locals:=λx c e z=>by obtain⟨v,o,d,hd⟩:=I.cell x c e;obtain⟨m,⟨i,h,f,b,a,_⟩,_⟩:=I.Dx;rw[z,b]at d;cases d;rw[a]at hd;cases hd
theorem cb.p?(I:cb X pins σ H s):s.heap.FunFrames X.b1 X.cf:=by
 have all:∀(l:List Env),(∀b∈frs l,b∈X.fs)->X.s₀.heap.FunFrames X.b1 l->s.heap.FunFrames X.b1 l:=by
  intro l
  induction l with
  |nil=>intro _ _;trivial
  |cons b3 r p=>intro d h;obtain⟨f,⟨L,o,c,i,j,hd⟩,m⟩:=h;have hL:L∈X.fs:=d L (by unfold frs;rw[eL,c];exact ba);obtain⟨q,e⟩:=I.b1.slot L o j (I.ok.frf L hL) hL λz=>I.ok.X? L z hL;exact⟨f,⟨L,_,c,i,e,hd⟩,p (λb a=>d b (by unfold frs;rw[eL,c];exact bc _ a)) m⟩
 exact all X.cf (λy a=>a) I.ok.p?
theorem cb.stack(I:cb X pins σ H s):s.heap.FunFrames X.b1 X.stack:=by
 rcases I.ok.stk with e|⟨e,a⟩
 .rw[e];exact I.p?
 .rw[e];obtain⟨m,b,_⟩:=I.Dx;refine .cons (by rw[I.ok.kind];decide) a b ?_ I.p?;exact Heap.get?_none_of_le (bC I.ok.bsz I.ok.above)
def cb.Rl(I:cb X pins σ H s):∀b∈frs X.stack,b∈X.b3.locals::X.fs:=λb a=>by
 rcases I.ok.stk with e|⟨e,c⟩
 .rw[e]at a;exact bc _ a
 .rw[e]at a;unfold frs at a;rw[eL,c]at a;exact a
def cb.T'(I:cb X pins σ H s):∀b∈frs X.stack,H b=O:=λb hb=>by
 rcases aM.1 (I.Rl b hb)with e|hb
 .rw[e];exact I.free
 .obtain⟨_,o,a,_⟩:=I.ok.p?.mem hb;exact I.b1.free b o a (I.ok.frf b hb) λz=>I.ok.X? b z hb
def cb.step{g':Array fq}{t':Nat}{d':Drawn}{ch:List Addr}(I:cb X pins σ H s)
  (hch:∀b∈ch,(b∈X.ex\/X.s₀.heap.objs.size<=b)/\b≠X.b3.locals/\(∀x c,X.b3.cells.lookup x=Z c->c≠b)/\∀p∈X.pn++pins,p.1≠b)
  (keep:∀b o,b≠X.b3.locals->b∉X.fs->b∉ch->s.heap.get? b=Z o->H b=O->h'.get? b=Z o)
  (slot:∀b o,b≠X.b3.locals->b∈X.fs->b∉ch->s.heap.get? b=Z o->H b=O->∃sl,h'.get? b=Z { o with slots:=sl }) (free:∀b o,b∉ch->s.heap.get? b=Z o->H b=O->H' b=O)
  (there:∀b o,b∉ch->s.heap.get? b=Z o->∃t,h'.get? b=Z t)
  (tz:∀b xs,H b=Z (.c4 xs)->H' b=Z (.c4 xs)) (vj:∀b o u,H b=Z (.lb o u)->H' b=Z (.lb o u)) (B?:∀b ps,H b=Z (.tbl ps)->∃more,H' b=Z (.tbl (ps++more)))
  (ns:∀m,s.heap.Ns X.b3.locals m->h'.Ns X.b3.locals m) (er:nj X.prog X.w H' h') (hg:fw g'):
  cb X pins σ H' { s with heap:=h',gens:=g',drawn:=d',toks:=t' }:=by
 have neL:∀b o,X.s₀.heap.get? b=Z o->b≠X.b3.locals:=λb o e=>aT (ck (aL e) I.ok.above);have neC:∀b o,X.s₀.heap.get? b=Z o->b∉X.ex->b∉ch:=λb o e a hb=>by
  rcases(hch b hb).1 with z|z
  .exact a z
  .exact ar (ck (aL e) z) (d8 _)
 have cellK:∀x c,X.b3.cells.lookup x=Z c->∀v,s.heap.IsCell c v->h'.IsCell c v:=λx c e v ⟨o,h,hd⟩=>by
  have nch:c∉ch:=λz=>(hch c z).2.2.1 x c e J;by_cases A:c∈X.fs
  .obtain⟨sl,q⟩:=slot c o (I.cne x c e) A nch h (I.j4 x c e);exact⟨_,q,hd⟩
  .exact⟨o,keep c o (I.cne x c e) A nch h (I.j4 x c e),hd⟩
 refine⟨I.ok,I.os,hg,⟨λb o e n hb a=>?_,λb o e n hb a=>?_,λb o e n a=>?_,λb o e a=>?_,λb xs e=>tz b xs (I.b1.tz b xs e),λb o xs e=>vj b o xs (I.b1.vj b o xs e),λb ps e=>?_⟩,?_,λx c e=>?_,?_,λx c e=>?_,λp B=>?_,er,I.len⟩
 .exact keep b o (neL b o e) hb (neC b o e a) (I.b1.keep b o e n hb a) (I.b1.free b o e n a)
 .obtain⟨sl,f⟩:=I.b1.slot b o e n hb a;obtain⟨y,j⟩:=slot b _ (neL b o e) hb (neC b o e a) f (I.b1.free b o e n a);exact⟨y,j⟩
 .obtain⟨t,f⟩:=I.b1.there b o e a;exact free b t (neC b o e a) f (I.b1.free b o e n a)
 .obtain⟨t,f⟩:=I.b1.there b o e a;exact there b t (neC b o e a) f
 .obtain⟨F,f⟩:=I.b1.B? b ps e;obtain⟨G,j⟩:=B? b _ f;exact⟨F++G,by rw[j,Array.append_assoc]⟩
 .obtain⟨m,hn,E⟩:=I.Dx;refine⟨m,ns m hn,λi x v f j C=>?_⟩;obtain⟨u,r,l⟩:=E i x v f j C;refine⟨u,r,?_⟩;rcases l with l|⟨k,c,e,z⟩
  .exact .inl l
  .exact .inr ⟨k,c,e,cellK x c e _ z⟩
 .obtain⟨v,z⟩:=I.cell x c e;exact⟨v,cellK x c e v z⟩
 .obtain⟨m,⟨o,_,_,h,_⟩,_⟩:=I.Dx;exact free _ o (λz=>(hch _ z).2.1 J) h I.free
 .obtain⟨v,o,h,hd⟩:=I.cell x c e;exact free c o (λz=>(hch c z).2.2.1 x c e J) h (I.j4 x c e)
 .obtain⟨e,n,ne,nf,d⟩:=I.E? p B;have nch:p.1∉ch:=λz=>(hch p.1 z).2.2.2 p B J;exact⟨keep p.1 p.2 ne nf nch e n,free p.1 p.2 nch e n,ne,nf,d⟩
def cb.un(I:cb X pins σ H s)(u:Un X.fs [] H H' s.heap h')(er:nj X.prog X.w H' h'):cb X pins σ H' { s with heap:=h',toks:=t' }:=by
 obtain⟨m,⟨o,es,ep,d,r⟩,_⟩:=id I.Dx;obtain⟨sl,hL⟩:=u.any d I.free (by simp);exact I.step (g':=s.gens) (d':=s.drawn) (ch:=[]) (λy z=>nomatch z) (λb o y hb y e n=>u.keep b o e n hb (by simp)) (λb o y hb y e n=>u.slot b o e n hb (by simp)) (λb o y e n=>u.free b o e n (by simp)) (λb o y e=>u.there b o e (by simp)) u.tz u.vj u.B? (λj hm=>by
  obtain⟨l,es',c,a,f⟩:=hm;rw[d]at a;cases a;exact⟨_,es',c,hL,f⟩) er I.gi
def cb.call(I:cb X pins σ H s)(u:Un (frs X.stack) ch H H' s.heap h')(er:nj X.prog X.w H' h')(hg:fw g')
  (hch:∀b∈ch,(b∈X.ex\/X.s₀.heap.objs.size<=b)/\b≠X.b3.locals/\(∀x c,X.b3.cells.lookup x=Z c->c≠b)/\∀p∈X.pn++pins,p.1≠b):
  cb X pins σ H' { s with heap:=h',gens:=g',drawn:=d',toks:=t' }:=by
 obtain⟨m,⟨o,es,ep,h,r⟩,_⟩:=id I.Dx;obtain⟨sl,hL⟩:=u.any h I.free λz=>(hch _ z).2.1 J;exact I.step (ch:=ch) hch (λb o hL hb a e n=>u.keep b o e n (λz=>(aM.1 (I.Rl b z)).elim hL hb) a) (λb o y y a e n=>u.any e n a) (λb o a e n=>u.free b o e n a) (λb o a e=>u.there b o e a) u.tz u.vj u.B? (λj hm=>by
  obtain⟨l,es',f,d,i⟩:=hm;rw[h]at d;cases d;exact⟨_,es',f,hL,i⟩) er hg
def cb.gh(I:cb X pins σ H s)(k:∀b o,b≠it->s.heap.get? b=Z o->h'.get? b=Z o)(hn:H it=O)(hL:it≠X.b3.locals)
  (h1:it∈X.ex\/X.s₀.heap.objs.size<=it) (h2:∀x c,X.b3.cells.lookup x=Z c->c≠it) (h3:∀p∈X.pn++pins,p.1≠it):cb X pins σ H { s with heap:=h',toks:=t' }:=by
 have nit:∀b u,H b=Z u->b≠it:=λb u e z=>by rw[z,hn]at e;cases e
 refine I.step (g':=s.gens) (d':=s.drawn) (ch:=[it]) (λb hb=>?_) (λb o y y a e y=>k b o (λz=>a (by simp[z])) e) (λb o y y a e y=>⟨o.slots,k b o (λz=>a (by simp[z])) e⟩) (λy y y y n=>n)
  (λb o a e=>⟨o,k b o (λz=>a (by simp[z])) e⟩) (λy y e=>e) (λy y y e=>e) (λb ps e=>⟨#[],by rw[e];simp⟩) (λm hm=>?_) (λb u e=>?_) I.gi
 .have e:b=it:=by simpa using hb
  subst e;exact⟨h1,hL,h2,h3⟩
 .obtain⟨o,es,ep,d,r⟩:=hm;exact⟨o,es,ep,k _ o (dB hL) d,r⟩
 .refine(I.er b u e).H4 (λc v a q=>k c v ?_ q) (λy q=>q) λy y q=>q;rcases a with z|z
  .rw[z];exact nit b u e
  .exact nit c _ z
def cb.pa(I:cb X pins σ H s)(t:Nat):cb X pins σ H { s with toks:=t }:=I.un (h':=s.heap) (t':=t) Un.refl I.er
theorem cb.fc(I:cb X pins σ H s)(k:∀b u,s.heap.get? b=Z u->h'.get? b=Z u):cb X pins σ H { s with heap:=h',toks:=t' }:=I.un (Un.fc k) (I.er.fc k)
theorem cb.laid(I:cb X pins σ H s)(k:∀b u,s.heap.get? b=Z u->h'.get? b=Z u)(c:s.heap.objs.size<=a)(new:ef X.prog X.w (eg H a o) h' a o):
  cb X pins σ (eg H a o) { s with heap:=h',toks:=t' }:=I.un (Un.laid k c (I.er.fresh c)) (I.er.laid k c new)
theorem cb.rf(I:cb X pins σ H s)(c:Mut (H x))(a:e=x\/H e=Z (.fl x))(k:∀b u,b≠e->s.heap.get? b=Z u->h'.get? b=Z u)(heo:∃u,h'.get? e=Z u)
  (new:ef X.prog X.w (eg H x o) h' x o):cb X pins σ (eg H x o) { s with heap:=h',toks:=d }:=I.un (Un.rf c a k heo) (I.er.rf c a k heo new)
def cb.dd{a:List (Option V)}(I:cb X pins σ H s)(f:a.length=σ.length)(w:∀(i:Nat) v,a[i]?=Z (Z v)->σ[i]?=Z (Z v)):cb X pins a H s:=
 ⟨I.ok,I.os,I.gi,I.b1,let ⟨m,h,b⟩:=I.Dx;⟨m,h,λi x v c d e=>b i x v c (w i v d) e⟩,I.cell,I.free,I.j4,I.E?,I.er,f.t I.len⟩
def cb.U'(I:cb X pins σ H s)(h:∀p∈a,s.heap.get? p.1=Z p.2/\H p.1=O/\p.1≠X.b3.locals/\p.1∉X.fs/\∀v,p.2.data≠.cell v):cb X a σ H s:=
 ⟨I.ok,I.os,I.gi,I.b1,I.Dx,I.cell,I.free,I.j4,λp b=>(aV.1 b).elim (λz=>I.E? p (bI _ z)) (h p),I.er,I.len⟩
def MO{N:aC}(hN:N.Nodup){i j:Nat}{x:Str}(a:N[i]?=Z x)(b:N[j]?=Z x):i=j:=by obtain⟨e,c⟩:=bX.1 a;obtain⟨f,d⟩:=bX.1 b;exact(mw hN).1 (c.t d.symm)
def Rb(I:cb X pins σ H s)(hN:X.N.Nodup)(hi:X.N[i]?=Z x)(t:Loc X.b3.scope x)(r:dg v u)
  (h:∀s',cb X pins (σ.set i (Z v)) H s'->(∃a,dA a s.heap s'.heap/\(a=X.b3.locals\/X.b3.cells.lookup x=Z a))->Q () s') (hf:X.fn x=γ\/X.b3.scope.names.lookup x=Z .local:=by first|exact .inl J|exact .inr J|assumption):ah M A (storeName X.b3 x u) Q E s:=by
 obtain⟨m,hn,hl⟩:=id I.Dx;have hcls:(X.b3.scope.kind==.class||(X.b3.scope.kind==.module&&X.b3.locals != X.b3.globals))=δ:=by rw[I.ok.kind];rfl
 have hiσ:i<σ.length:=by rw[I.len];exact(bX.1 hi).1
 have cne:=I.cne;have tracked:∀{a:Addr} {h':Heap},(∃o,s.heap.get? a=Z o/\H a=O)->dA a s.heap h'->nj X.prog X.w H h':=λ{a h'} ha hs b ob e=>by
  obtain⟨_,_,hfree⟩:=ha;refine(I.er b ob e).H4 (λc R l q=>(hs.2 c ?_).t q) (λ_ q=>q) λ_ _ q=>q;rintro rfl;rcases l with rfl|l
  .rw[hfree]at e;cases e
  .rw[hfree]at l;cases l
 rcases t with C|C
 .refine wpAny_storeName_local C hn (λh' T hs=>?_) hcls;obtain⟨oL,_,_,hoL,_⟩:=id hn;refine h _ ⟨I.ok,I.os,I.gi,⟨λb o e n hb t=>?_,λb o e n hb t=>?_,I.b1.free,λb o e t=>?_,I.b1.tz,I.b1.vj,I.b1.B?⟩,⟨_,T,λj y v' f B S=>?_⟩,λy c e=>?_,I.free,I.j4,λp U=>?_,tracked ⟨oL,hoL,I.free⟩ hs,by simpa using I.len⟩ ⟨_,hs,.inl J⟩
  .exact(hs.2 b (aT (ck (aL e) I.ok.above))).t (I.b1.keep b o e n hb t)
  .obtain⟨sl,f⟩:=I.b1.slot b o e n hb t;exact⟨sl,(hs.2 b (aT (ck (aL e) I.ok.above))).t f⟩
  .obtain⟨W,f⟩:=I.b1.there b o e t;exact⟨W,(hs.2 b (aT (ck (aL e) I.ok.above))).t f⟩
  .by_cases F:j=i
   .subst F;rw[hi]at f;cases f;rw[jG hiσ]at B;cases B;exact⟨u,r,.inl ⟨C,by simp⟩⟩
   .rw[lZ (dB F)]at B;obtain⟨u',Y,q⟩:=hl j y v' f B S;refine⟨u',Y,?_⟩;rcases q with ⟨k,e⟩|⟨k,c,e,z⟩
    .refine .inl ⟨k,?_⟩;have:y≠x:=λe=>F (MO hN f (e▸hi));simp[this,e]
    .exact .inr ⟨k,c,e,z.sameBut hs (cne y c e)⟩
  .obtain⟨R,z⟩:=I.cell y c e;exact⟨R,z.sameBut hs (cne y c e)⟩
  .obtain⟨e,n,ne,nf,d⟩:=I.E? p U;exact⟨(hs.2 p.1 ne).t e,n,ne,nf,d⟩
 .have hfn:X.fn x=γ:=by
   rcases hf with z|z
   .exact z
   .rw[z]at C;cases C
  obtain⟨c,l⟩:=I.ok.has x (.inl C);obtain⟨R,z⟩:=I.cell x c l;refine wpAny_storeName_cell I.ok.kind C l z (λh' G hs=>?_);obtain⟨oc,hoc,hocd⟩:=id z;refine h { s with heap:=h' } ⟨I.ok,I.os,I.gi,⟨λb o e n hb t=>?_,λb o e n hb t=>?_,I.b1.free,λb o e t=>?_,I.b1.tz,I.b1.vj,I.b1.B?⟩,⟨m,hn.sameBut hs (dB (cne x c l)),λj y v' f B S=>?_⟩,λy P e=>?_,I.free,I.j4,λp U=>?_,tracked ⟨oc,hoc,I.j4 x c l⟩ hs,by simpa using I.len⟩ ⟨c,hs,.inr l⟩
  .exact(hs.2 b (aT (ck (aL e) (I.ok.cab x c hfn l)))).t (I.b1.keep b o e n hb t)
  .obtain⟨sl,f⟩:=I.b1.slot b o e n hb t;exact⟨sl,(hs.2 b (aT (ck (aL e) (I.ok.cab x c hfn l)))).t f⟩
  .obtain⟨W,f⟩:=I.b1.there b o e t;exact⟨W,(hs.2 b (aT (ck (aL e) (I.ok.cab x c hfn l)))).t f⟩
  .by_cases F:j=i
   .subst F;rw[hi]at f;cases f;rw[jG hiσ]at B;cases B;exact⟨u,r,.inr ⟨.inl C,c,l,G⟩⟩
   .rw[lZ (dB F)]at B;obtain⟨u',Y,q⟩:=hl j y v' f B S;refine⟨u',Y,?_⟩;rcases q with q|⟨k,P,e,z'⟩
    .exact .inl q
    .refine .inr ⟨k,P,e,z'.sameBut hs ?_⟩;rintro rfl;exact F (MO hN f (I.ok.inj _ _ _ e l▸hi))
  .by_cases hcc:P=c
   .subst hcc;exact⟨_,G⟩
   .obtain⟨w2,z2⟩:=I.cell y P e;exact⟨w2,z2.sameBut hs hcc⟩
  .obtain⟨e,n,ne,nf,d⟩:=I.E? p U;refine⟨(hs.2 p.1 ?_).t e,n,ne,nf,d⟩;intro q;rw[q,hoc]at e;have q':oc=p.2:=cJ e;exact d R (by rw[<-q'];exact hocd)
def MP(I:cb X pins σ H s)(hN:X.N.Nodup)(d:X.N[i]?=Z x)(e:Loc X.b3.scope x)(r:dg v u)
  (h:∀a,cb X pins (σ.set i (Z v)) H a->Q () a) (c:X.fn x=γ\/X.b3.scope.names.lookup x=Z .local:=by first|exact .inl J|exact .inr J|assumption):ah M A (storeName X.b3 x u) Q E s:=
 Rb I hN d e r (λa b y=>h a b) c
def cb.call'{a:af}(I:cb X pins σ H s)(l:a.os=s.os)(u:Un (frs X.stack) i H H' s.heap a.heap)(er:nj X.prog X.w H' a.heap)(j:fw a.gens)
  (hch:∀b∈i,(b∈X.ex\/X.s₀.heap.objs.size<=b)/\b≠X.b3.locals/\(∀x c,X.b3.cells.lookup x=Z c->c≠b)/\∀p∈X.pn++pins,p.1≠b):cb X pins σ H' a:=by
 obtain⟨h',f,d,h,m⟩:=a;have e:m=s.os:=l;subst e;exact I.call (g':=f) (t':=h) (d':=d) u er j hch
end
abbrev XK:=aa->Option Addr->Hp->Prop
abbrev St:=List (Option V)
abbrev VK:=V->Hp->Prop
abbrev TE:=St->Hp->VK->Prop
abbrev TT:=St->Hp->(Bool->Hp->Prop)->Prop
abbrev TA:=St->Hp->(bA->Hp->Prop)->Prop
structure Q' where
 nx:St->Hp->Prop
 rt:VK
 bk:St->Hp->Prop:=λy y=>False
 ct:St->Hp->Prop:=λy y=>False
abbrev TS:=Q'->St->Hp->Prop
def EP(X:Cx)(a:cE)(d:St)(Q:VK)(u:aa)(c:af):Prop:=∃v b,cb X a d b c/\dg v u/\Q v b
def TP(X:Cx)(a:cE)(e:St)(Q:Bool->Hp->Prop)(b:Bool)(d:af):Prop:=∃c,cb X a e c d/\Q b c
def AP(X:Cx)(a:cE)(f:St)(Q:bA->Hp->Prop)(e:List aa)(d:af):Prop:=∃c b,cb X a f b d/\de c e/\Q c b
def SP(X:Cx)(b:cE)(D:Q')(f:Flow)(d:af):Prop:=
 match f with
 |.next=>∃a c,cb X b a c d/\D.nx a c
 |.brk=>∃a c,cb X b a c d/\D.bk a c
 |.cont=>∃a c,cb X b a c d/\D.ct a c
 |.ret u=>∃v a c,cb X b a c d/\dg v u/\D.rt v c
def PE(X:Cx)(e:Expr)(t:TE):Prop:=
 ∀(a:cE) (s:af) (b:St) (H:Hp) (Q:VK),cb X a b H s->t b H Q->ah (model X.prog X.w) X.A (eval e X.b3) (EP X a b Q) X.xe s
def PT(X:Cx)(e:Expr)(t:TT):Prop:=
 ∀(a:cE) (s:af) (b:St) (H:Hp) (Q:Bool->Hp->Prop),cb X a b H s->t b H Q->ah (model X.prog X.w) X.A (isTrue e X.b3 (eval e X.b3)) (TP X a b Q) X.xe s
def PW(X:Cx)(e:Expr)(t:TT):Prop:=
 ∀(whole:Sem aa) (a:cE) (s:af) (b:St) (H:Hp) (Q:Bool->Hp->Prop),cb X a b H s->t b H Q->ah (model X.prog X.w) X.A (isTrue e X.b3 whole) (TP X a b Q) X.xe s
def PW.pt(h:PW X e t):PT X e t:=h _
def PA(X:Cx)(c:List Expr)(t:TA):Prop:=
 ∀(pos:Pos) (a:cE) (s:af) (b:St) (H:Hp) (Q:bA->Hp->Prop),cb X a b H s->t b H Q->ah (model X.prog X.w) X.A (spliced (bG pos (az c X.b3))) (AP X a b Q) X.xe s
def PS(X:Cx)(st:Stmt)(t:TS):Prop:=
 ∀(a:cE) (s:af) (b:St) (H:Hp) (D:Q'),cb X a b H s->t D b H->ah (model X.prog X.w) X.A (exec st X.b3) (SP X a D) X.xe s
def k?(X:Cx)(st:List Stmt)(t:TS):Prop:=
 ∀(a:cE) (s:af) (b:St) (H:Hp) (D:Q'),cb X a b H s->t D b H->ah (model X.prog X.w) X.A (execs st X.b3) (SP X a D) X.xe s
def e0{c:Type}{t:Sem c}{Q b:c->af->Prop}{M:Model}{A:aG}{E:aa->af->Prop}{s:af}(h:ah M A t Q E s)(hQ:∀a s,Q a s->b a s):ah M A t b E s:=cq h hQ λy y x=>x
section
variable{X:Cx}
def bin{a b:Expr}{o p:TE}(z:PE X a o)(B:PE X b p){c:cE}{s:af}{e:St}{H:Hp}{R:V->V->Hp->Prop}(I:cb X c e H s)(h:o e H λx m=>p e m λy d=>R x y d)
  {q:Type} {Q:q->af->Prop} {f:aa->aa->Sem q}
  (C:∀v u l x y d,cb X c e d l->dg x v->dg y u->R x y d->ah (model X.prog X.w) X.A (f v u) Q X.xe l):
  ah (model X.prog X.w) X.A (eval a X.b3) (λv i=>ah (model X.prog X.w) X.A (eval b X.b3) (λu j=>ah (model X.prog X.w) X.A (f v u) Q X.xe j) X.xe i) X.xe s:=by
 refine e0 (z c s e H _ I h) λv N zz=>?_;obtain⟨x,m,r,G,E⟩:=zz;refine e0 (B c N e m _ r E) λu l zz=>?_;obtain⟨y,d,t,M,F⟩:=zz;exact C v u l x y d t G M F
def BU(i:Nat):TE:=λa H Q=>∃v,a[i]?=Z (Z v)/\Q v H
def tC(v:V):TE:=λy H Q=>Q v H
def Zj(hN:X.N[i]?=Z x)(p:Vis X.b3.scope x)(hd:(x==("__debug__" : Str))=δ:=by decide)(hcd:(x==("__classdict__" : Str))=δ:=by decide):PE X (.Name x pos) (BU i):=by
 intro b s q H Q I h;obtain⟨v,e,h⟩:=h;obtain⟨m,o,f⟩:=I.Dx;obtain⟨u,r,l⟩:=f i x v hN e p;have fin:EP X b q Q u s:=⟨v,H,I,r,h⟩;rcases l with ⟨a,j⟩|⟨a,c,d,hcell⟩
 .exact nH (wpAny_loadName_local I.ok.kind a o j fin) hd
 .rcases a with a|a
  .exact nH (wpAny_loadName_cell I.ok.kind a d hcell fin) hd
  .exact nH (wpAny_loadName_free I.ok.kind a d hcell fin hcd) hd
def LH{i j pos}:PE X (.Constant (.int i) j pos) (tC (.int i)):=λy y y H y I h=>wpAny_Constant_int ⟨.int i,H,I.pa _,⟨_,J⟩,h⟩
def ade{b j pos}:PE X (.Constant (.bool b) j pos) (tC (.U b)):=λy y y H y I h=>Constant_bool ⟨.U b,H,I,J,h⟩
def Zk{j pos}:PE X (.Constant .none j pos) (tC .J):=λy y y H y I h=>Constant_none ⟨.J,H,I,J,h⟩
def Zl{x j pos}:PE X (.Constant (.str x) j pos) (tC (.str x)):=λy y y H y I h=>Calls.Constant_str ⟨.str x,H,I.pa _,⟨_,J⟩,h⟩
def Gl(X:Cx)(x:Str):Prop:=X.b3.kindOf x=Z .globalImplicit
def E3(I:cb X a d H s)(b:Gl X x)(c:X.mg x=Z u)(h:Q u s)
  (hd:(x==("__debug__" : Str))=δ:=by decide):ah (model X.prog X.w) X.A (eval (.Name x pos) X.b3) Q E s:=
 oo I.ok.kind b (Calls.loadGlobal_global (by rw[I.ok.vo];exact I.xo.vo.keeps I.bk) c h) hd
def Be(I:cb X a l H s)(d:Gl X x)(e:X.mg x=O)(i:d9 x=Z u)(h:Q u s)
  (f:x≠"__name__" := by decide) (hd:(x==("__debug__" : Str))=δ:=by decide):ah (model X.prog X.w) X.A (eval (.Name x pos) X.b3) Q E s:=by
 obtain⟨j,b,c⟩:=I.xo.blt;exact oo I.ok.kind d (Calls.loadGlobal_builtin (by rw[I.ok.vo];exact I.xo.vo.keeps I.bk) e (by rw[I.ok.blt];exact b.keeps I.bk) ((c x f).t i) h) hd
def IE(a:Gl X x)(b:X.mg x=Z u)(r:dg v u)(hd:(x==("__debug__" : Str))=δ:=by decide):PE X (.Name x pos) (tC v):=
 λy y y H y I h=>E3 I a b ⟨v,H,I,r,h⟩ hd
def Wj(a:Gl X x)(b:X.mg x=O)(d:d9 x=Z u)(r:dg v u)(c:x≠"__name__" := by decide)(hd:(x==("__debug__" : Str))=δ:=by decide):PE X (.Name x pos) (tC v):=
 λy y y H y I h=>Be I a b d ⟨v,H,I,r,h⟩ c hd
variable{a b:Expr}{ta tb:TE}{pos:Pos}
def PC(X:Cx)(h:CmpOp)(a b:Expr)(t:TE):Prop:=
 ∀(c:cE) (s:af) (f:St) (H:Hp) (Q:VK),cb X c f H s->t f H Q->
  ah (model X.prog X.w) X.A (eval a X.b3) (λv d=>ah (model X.prog X.w) X.A (eval b X.b3) (λu e=>ah (model X.prog X.w) X.A (bz h v u) (EP X c f Q) X.xe e) X.xe d) X.xe s
def tB(t:TE):TT:=λe H Q=>t e H λx d=>∃c,x=.U c/\Q c d
def afh(h:PC X i a b t)(f:gr i b=δ:=by first|exact nobehind _ (by decide) (by decide)|rfl):PT X (.Compare a [i] [b] pos) (tB t):=by intro e s w H Q I o;refine oN (e0 (h e s w H _ I o) λv y f=>e0 f λu z m=>e0 m λc A zz=>?_) f;obtain⟨x,j,l,r,p⟩:=zz;obtain⟨d,rfl,q⟩:=p;cases r;exact dF ⟨j,l,q⟩
def Zm(h:PE X e t)(j:∀whole,isTrue e X.b3 whole=(do let v<-whole;standAt e.pos;holding [v] (truthy v)):=by intro _;rfl):PT X e (tB t):=by intro c s p H Q I l;refine isTrue_plain (e0 (h c s p H _ I l) λv r zz=>?_) (j _);obtain⟨x,f,i,o,m⟩:=zz;obtain⟨d,rfl,q⟩:=m;cases o;exact dF ⟨f,i,q⟩
variable{tA tB':TT}{ey:List Expr}
def tAnd(t u:TT):TT:=λe H Q=>t e H λc d=>if c=γ then u e d Q else Q δ d
def tOr(t u:TT):TT:=λe H Q=>t e H λc d=>if c=γ then Q γ d else u e d Q
def tNot(t:TT):TT:=λe H Q=>t e H λc d=>Q (!c) d
def Wk(f:PT X a tA):PW X (.BoolOp .And [a] pos) tA:=by
 intro l d s i H Q I h;refine isTrue_and (e0 (f d s i H Q I h) λc j e=>?_);cases c with
 |true=>exact isTrue_and_nil e
 |false=>exact e
def Zn(f:PT X a tA):PW X (.BoolOp .Or [a] pos) tA:=by
 intro l d s i H Q I h;refine isTrue_or (e0 (f d s i H Q I h) λc j e=>?_);cases c with
 |false=>exact isTrue_or_nil e
 |true=>exact e
def Zo(l:PT X a tA)(m:PW X (.BoolOp .And (b::ey) pos) tB'):PW X (.BoolOp .And (a::b::ey) pos) (tAnd tA tB'):=by
 intro p d s j H Q I h;refine isTrue_and (e0 (l d s j H _ I h) λc o zz=>?_);obtain⟨e,f,i⟩:=zz;cases c with
 |true=>exact m p d o j e Q f i
 |false=>exact⟨e,f,i⟩
def adg(l:PT X a tA)(m:PW X (.BoolOp .Or (b::ey) pos) tB'):PW X (.BoolOp .Or (a::b::ey) pos) (tOr tA tB'):=by
 intro p d s j H Q I h;refine isTrue_or (e0 (l d s j H _ I h) λc o zz=>?_);obtain⟨e,f,i⟩:=zz;cases c with
 |true=>exact⟨e,f,i⟩
 |false=>exact m p d o j e Q f i
def Zp(f:PT X a tA):PT X (.UnaryOp .Not a pos) (tNot tA):=by intro d s i H Q I h;exact isTrue_not (f d s i H (λc e=>Q (!c) e) I h)
def adh(ta tb:TE):TE:=λe H Q=>ta e H λx d=>∃c,x=.U c/\if c=γ then tb e d Q else Q (.U δ) d
def tOrV(ta tb:TE):TE:=λe H Q=>ta e H λx d=>∃c,x=.U c/\if c=γ then Q (.U γ) d else tb e d Q
def adi(ta:TE):TE:=λe H Q=>ta e H λx d=>∃c,x=.U c/\Q (.U (!c)) d
def Zq{e}(h:PE X a t):PE X (.BoolOp e [a] pos) t:=λc s f H Q I d=>BoolOp_one (h c s f H Q I d)
def Zr(l:PE X a ta)(m:PE X (.BoolOp .And (b::ey) pos) tb):PE X (.BoolOp .And (a::b::ey) pos) (adh ta tb):=by
 intro d s j H Q I h;refine BoolOp_and (e0 (l d s j H _ I h) λv p zz=>?_);obtain⟨x,f,i,o,e⟩:=zz;obtain⟨c,rfl,e⟩:=e;cases o;refine dF ?_;cases c with
 |true=>exact m d p j f Q i e
 |false=>exact⟨.U δ,f,i,J,e⟩
def adj(l:PE X a ta)(m:PE X (.BoolOp .Or (b::ey) pos) tb):PE X (.BoolOp .Or (a::b::ey) pos) (tOrV ta tb):=by
 intro d s j H Q I h;refine BoolOp_or (e0 (l d s j H _ I h) λv p zz=>?_);obtain⟨x,f,i,o,e⟩:=zz;obtain⟨c,rfl,e⟩:=e;cases o;refine dF ?_;cases c with
 |false=>exact m d p j f Q i e
 |true=>exact⟨.U γ,f,i,J,e⟩
def Zs(j:PE X a ta):PE X (.UnaryOp .Not a pos) (adi ta):=by intro d s m H Q I h;refine UnaryOp_ (e0 (j d s m H _ I h) λv o zz=>?_);obtain⟨x,f,i,l,e⟩:=zz;obtain⟨c,rfl,e⟩:=e;cases l;exact not_of (dF ⟨.U (!c),f,i,J,e⟩)
def tIf(t:TT)(ta tb:TE):TE:=λd H Q=>t d H λc e=>if c=γ then ta d e Q else tb d e Q
def SN(q:PT X c tA)(o:PE X a ta)(p:PE X b tb):PE X (.IfExp c a b pos) (tIf tA ta tb):=by
 intro e s f H Q I h;refine wpAny_IfExp (e0 (q e s f H _ I h) λd m zz=>?_);obtain⟨i,j,l⟩:=zz;cases d with
 |true=>exact o e m f i Q j l
 |false=>exact p e m f i Q j l
end
def fb(K:av)(H:Hp)(a:Addr)(c:bA):Prop:=
 Rd H a (.b4 c)\/
  ∃(o:Obj) (b:Array aa) (n:Nat),K.lookup a=Z o/\o.cls=.type "list" /\ o.dict=O/\o.data=.seq b n/\b.size<=aF/\de c b.toList
def e?(K:av)(H:Hp)(a:Addr)(c:bA):Prop:=
 Rd H a (.c4 c)\/
  ∃(o:Obj) (b:Array aa) (n:Nat),K.lookup a=Z o/\o.cls=.type "tuple" /\ o.data=.seq b n/\b.size<=aF/\de c b.toList
def absV:aa->Option V
 |.none=>Z .J
 |.bool b=>Z (.U b)
 |.int i _=>Z (.int i)
 |.str x _=>Z (.str x)
 |.bytes b _=>Z (.π b)
 |.float b _=>Z (.flt b)
 |.ref a=>Z (.ref a)
 |.type n=>Z (.ty n)
 |_=>O
def dg.abs(r:dg x u):absV u=Z x:=by
 cases x with
 |J=>cases r;rfl
 |U _=>cases r;rfl
 |int _=>obtain⟨t,rfl⟩:=r;rfl
 |str _=>obtain⟨t,rfl⟩:=r;rfl
 |π _=>obtain⟨t,rfl⟩:=r;rfl
 |flt _=>obtain⟨t,rfl⟩:=r;rfl
 |ref _=>cases r;rfl
 |ty _=>cases r;rfl
def dg.inj(r:dg x u)(q:dg y u):x=y:=cJ (r.abs.symm.t q.abs)
theorem de.inj:∀{b c:bA} {a:List aa},de b a->de c a->b=c
 |_,_,_,.nil,.nil=>rfl
 |_,_,_,.cons r t,.cons d e=>by rw[r.inj d,de.inj t e]
section
variable{X:Cx}{pins:cE}{σ:St}{H:Hp}{s:af}{a:Addr}{xs ys:bA}
def fb.of{K:av}(h:H a=Z (.b4 xs)):fb K H a xs:=.inl (.inl h)
def e?.of{K:av}(h:H a=Z (.c4 xs)):e? K H a xs:=.inl (.inl h)
def cb.list(I:cb X pins σ H s)(h:fb X.K H a xs):∃b:List aa,de xs b/\PlainL s.heap a b.toArray/\xs.length<=aF:=by
 rcases h with h|⟨o,b,n,d,c,hd,f,i,r⟩
 .obtain⟨z,b,n,r,e⟩:=h.ok I.er;exact⟨b,r,⟨_,n,e,J,J,J⟩,z⟩
 .refine⟨b.toList,r,⟨o,n,I.kx a o d,c,hd,by simpa using f⟩,?_⟩;have e:=r.length;simp only[bJ]at e;omega
def cb.tuple(I:cb X pins σ H s)(h:e? X.K H a xs):∃b:List aa,de xs b/\eD s.heap a b.toArray/\xs.length<=aF:=by
 rcases h with h|⟨o,b,n,d,c,f,i,r⟩
 .obtain⟨z,b,r,p,_⟩:=h.ok I.er;exact⟨b,r,p,z⟩
 .refine⟨b.toList,r,⟨o,I.kx a o d,c,n,by simpa using f⟩,?_⟩;have e:=r.length;simp only[bJ]at e;omega
def cb.H?(I:cb X pins σ H s)(h:fb X.K H a xs)(l:fb X.K H a ys):xs=ys:=by
 obtain⟨c,r,⟨o,n,e,_,_,d⟩,_⟩:=I.list h;obtain⟨b,m,⟨q,p,i,_,_,f⟩,_⟩:=I.list l;rw[e]at i;cases i;rw[d]at f;injection f with j _;have:c=b:=by simpa using bw rp j
 subst this;exact r.inj m
def cb.v?(I:cb X pins σ H s)(h:e? X.K H a xs)(l:e? X.K H a ys):xs=ys:=by
 obtain⟨c,r,⟨o,e,_,n,d⟩,_⟩:=I.tuple h;obtain⟨b,m,⟨q,i,_,p,f⟩,_⟩:=I.tuple l;rw[e]at i;cases i;rw[d]at f;injection f with j _;have:c=b:=by simpa using bw rp j
 subst this;exact r.inj m
end
abbrev Cx.u?(X:Cx)(E:aa->af->Prop):Cx:={ X with xe:=E }
abbrev Cx.nox(X:Cx):Cx:=X.u? λy y=>False
theorem Cx.Ok.u?{X:Cx}(ok:X.Ok)(E:aa->af->Prop):(X.u? E).Ok:=
 ⟨ok.xo,ok.kind,ok.vo,ok.blt,ok.above,ok.inj,ok.has,ok.cab,ok.hd,ok.frames,ok.stk,ok.exf,ok.bs,ok.bsz,ok.ε,ok.X?,ok.p?,ok.frf⟩
def Cx.Ok.la{X:Cx}(ok:(X.u? E).Ok):X.Ok:=
 ⟨ok.xo,ok.kind,ok.vo,ok.blt,ok.above,ok.inj,ok.has,ok.cab,ok.hd,ok.frames,ok.stk,ok.exf,ok.bs,ok.bsz,ok.ε,ok.X?,ok.p?,ok.frf⟩
section
variable{X:Cx}{pins:cE}{σ:St}{H:Hp}{s:af}{E:aa->af->Prop}
theorem cb.u?(I:cb X pins σ H s)(E:aa->af->Prop):cb (X.u? E) pins σ H s:=⟨I.ok.u? E,I.os,I.gi,I.b1,I.Dx,I.cell,I.free,I.j4,I.E?,I.er,I.len⟩
theorem cb.la(I:cb (X.u? E) pins σ H s):cb X pins σ H s:=⟨I.ok.la,I.os,I.gi,I.b1,I.Dx,I.cell,I.free,I.j4,I.E?,I.er,I.len⟩
theorem SP.la(h:SP (X.u? E) pins D f c):SP X pins D f c:=by
 cases f with
 |next=>obtain⟨a,b,I,q⟩:=h;exact⟨a,b,I.la,q⟩
 |brk=>obtain⟨a,b,I,q⟩:=h;exact⟨a,b,I.la,q⟩
 |cont=>obtain⟨a,b,I,q⟩:=h;exact⟨a,b,I.la,q⟩
 |ret u=>obtain⟨v,a,b,I,r,q⟩:=h;exact⟨v,a,b,I.la,r,q⟩
theorem k?.nox{st:List Stmt}{t:TS}(h:k? X.nox st t):k? X st t:=λpins s σ H D I a=>
 cq (h pins s σ H D (I.u? _) a) (λy y q=>q.la) λy y z=>c7 z
end
section
variable{X:Cx}{st:Stmt}{ey:List Stmt}{t u:TS}{e:Expr}{te:TE}{pos:Pos}
def adk:TS:=λD a H=>D.nx a H
def tSeq(t u:TS):TS:=λD σ H=>t { D with nx:=u D } σ H
def Wl:k? X [] adk:=λy y a H y I h=>jX ⟨a,H,I,h⟩
def IS(h1:PS X st t)(h2:k? X ey u):k? X (st::ey) (tSeq t u):=by
 intro pins s σ H D I h;refine qa (e0 (h1 pins s σ H { D with nx:=u D } I h) λf b q=>?_);cases f with
 |next=>obtain⟨σ',H',a,q⟩:=q;exact h2 pins b σ' H' D a q
 |ret v=>exact q
 |brk=>exact q
 |cont=>exact q
def LI(b:PS X st t):k? X [st] t:=by
 intro a s c H D I h;refine qa (e0 (b a s c H D I h) λf d q=>?_);cases f with
 |next=>exact jX q
 |ret v=>exact q
 |brk=>exact q
 |cont=>exact q
def cb.quiet(I:cb X a b H s):interactive X.b3=δ:=by simp[interactive,I.ok.kind]
def YE(te:TE):TS:=λD a H=>te a H λy b=>D.nx a b
def PB(f:PE X e te)(i:dO e O pos.line X.b3=pure δ:=by rfl):PS X (.Expr e pos) (YE te):=by intro a s b H D I h;exact wpAny_Expr_any (e0 (f a s b H _ I h) λv m ⟨x,c,d,l,j⟩=>⟨b,c,d,j⟩) I.quiet i
def tRet(te:TE):TS:=λD a H=>te a H D.rt
def Ol(f:PE X e te):PS X (.Return (Z e) pos) (tRet te):=by intro a s b H D I h;exact wpAny_Return_some (e0 (f a s b H _ I h) λv l ⟨x,c,d,j,i⟩=>⟨x,b,c,d,j,i⟩)
def tIfS(c:TT)(t u:TS):TS:=λD a H=>c a H λb d=>if b=γ then t D a d else u D a d
def adm(r:PT X c w)(p:k? X a t)(q:k? X b u):PS X (.If c a b pos) (tIfS w t u):=by
 intro f s i H D I h;refine wpAny_If (e0 (r f s i H _ I h) λd o zz=>?_);obtain⟨j,l,m⟩:=zz;cases d with
 |true=>exact p f o i j D l m
 |false=>exact q f o i j D l m
end
abbrev TG:=V->St->Hp->(St->Hp->Prop)->Prop
abbrev TGs:=bA->St->Hp->(St->Hp->Prop)->Prop
def PG(X:Cx)(target:Expr)(t:TG):Prop:=
 ∀(a:cE) (s:af) (d:St) (H:Hp) (v:V) (u:aa) (Q:St->Hp->Prop),cb X a d H s->dg v u->t v d H Q->
  ah (model X.prog X.w) X.A (assign target X.b3 u) (λy e=>∃b c,cb X a b c e/\Q b c) X.xe s
def I'(X:Cx)(i:List Expr)(t:TGs):Prop:=
 ∀(a:cE) (s:af) (f:St) (H:Hp) (e:bA) (d:List aa) (Q:St->Hp->Prop),cb X a f H s->de e d->t e f H Q->
  ah (model X.prog X.w) X.A (assignInOrder ((cu i X.b3).map (·.2)) d) (λy h=>∃b c,cb X a b c h/\Q b c) X.xe s
abbrev TSet:=V->V->V->Hp->(Hp->Prop)->Prop
def PSet(X:Cx)(t:TSet):Prop:=
 ∀(a:cE) (s:af) (e:St) (H:Hp) (o i v:V) (d c u:aa) (Q:Hp->Prop),cb X a e H s->dg o d->dg i c->dg v u->t o i v H Q->
  ah (model X.prog X.w) X.A (setItem d c u) (λy f=>∃b,cb X a e b f/\Q b) X.xe s
section
variable{X:Cx}{pos:Pos}
def AR(i:Nat):TG:=λv a H Q=>Q (a.set i (Z v)) H
def PD(hN:X.N.Nodup)(d:X.N[i]?=Z x)(e:Loc X.b3.scope x)(c:X.fn x=γ\/X.b3.scope.names.lookup x=Z .local:=by first|exact .inl J|exact .inr J|assumption):PG X (.Name x pos) (AR i):=by intro a s j H v u Q I r h;exact wpAny_assign_Name (MP I hN d e r (λf b=>⟨_,H,b,h⟩) c)
def gNil:TGs:=λa b H Q=>a=[]/\Q b H
def YF(t:TG)(u:TGs):TGs:=λc d H Q=>∃v r,c=v::r/\t v d H λa b=>u r a b Q
def Wm:I' X [] gNil:=by intro a s b H d c Q I r h;obtain⟨e,h⟩:=h;subst e;cases r;exact assignInOrder_nil ⟨b,H,I,h⟩
def SO(j:PG X e t)(l:I' X b u)
  (m:(cu (e::b) X.b3).map (·.2)=assign e X.b3::(cu b X.b3).map (·.2):=by rfl):I' X (e::b) (YF t u):=by
 intro a s w H z x Q I r h;obtain⟨v,y,i,h⟩:=h;subst i;cases r with
 |cons r p=>rw[m];refine assignInOrder_cons (e0 (j a s w H _ _ _ I r h) λ_ q zz=>?_);obtain⟨c,d,f,o⟩:=zz;exact l a q c d _ _ Q f p o
def Zt(K:av)(n:Nat)(t:TGs):TG:=λv c H Q=>∃a b,v=.ref a/\e? K H a b/\b.length=n/\t b c H Q
def Zu(i:X.j0=γ)(h:I' X es t)
  (hn:(cu es X.b3).length=n:=by rfl) (hst:(cu es X.b3).findIdx? (·.1)=O:=by rfl):PG X (.Tuple es k pos) (Zt X.K n t):=by
 intro pins s σ H v u Q I r hw;obtain⟨a,xs,f,l,j,hw⟩:=hw;subst f;cases r;obtain⟨q,c,m,w⟩:=I.tuple l;refine assign_Tuple_tuple (I.ok.hd i) m (by simp[hn,<- j,c.length]) hst λh' p=>?_;have d:cb X pins σ H { s with heap:=h' }:=I.fc (t':=s.toks) λb o e=>p b o (aT (aL e)) e;exact h pins _ σ H xs _ Q d (by simpa using c) hw
def gSub(to e:TE)(t:TSet):TG:=λv a H Q=>to a H λo b=>e a b λi c=>t o i v c λd=>Q a d
def Zv(z:PE X o to)(w:PE X i N)(A:PSet X t)
  (q:∀v,assign (.Subscript o i pos) X.b3 v=(do
   let b<-holding [v] (eval o X.b3);let c<-holding [v,b] (eval i X.b3)
   standAt pos
   holding [v,b,c] (setItem b c v)
   release [v,b,c] []):=by intro _;rfl):PG X (.Subscript o i pos) (gSub to N t):=by
 intro a s d H v u Q I r h;rw[q];refine ae (bK (e0 (z a s d H _ I h) λb G zz=>?_));obtain⟨x,e,l,E,B⟩:=zz;refine ae (bK (e0 (w a G d e _ l B) λc M zz=>?_));obtain⟨y,f,m,F,C⟩:=zz;refine ae (j9 (ae (bK (e0 (A a M d f x y v b c u _ m E F r C) λ_ P zz=>?_))));obtain⟨j,p,q3⟩:=zz;exact wpAny_release ⟨d,j,p,q3⟩
def EB(c:TE)(g:TG):TS:=λD a H=>c a H λx b=>g x a b D.nx
def SQ(j:PE X e u)(l:PG X b g)(m:swapsWithSole [b] e pos.line X.b3=pure δ:=by rfl)(o:swappedStores [b] e X.b3=pure O:=by rfl)
  (i:(cu [b] X.b3).map (·.2)=[assign b X.b3]:=by rfl):PS X (.Assign [b] e pos) (EB u g):=by
 intro a s c H D I h;refine wpAny_Assign_stores (e0 (j a s c H _ I h) λv t zz=>?_) m o;obtain⟨x,d,f,r,p⟩:=zz;rw[i];exact e0 (l a t c d x v _ f r p) λy w q=>q
def Zw(hN:X.N.Nodup)(l:X.N[i]?=Z x)(o:Loc X.b3.scope x)(f:PE X e r)(m:dO e (Z (.Name x pos')) pos.line X.b3=pure δ:=by rfl)(j:X.fn x=γ\/X.b3.scope.names.lookup x=Z .local:=by first|exact .inl J|exact .inr J|assumption):
  PS X (.Assign [.Name x pos'] e pos) (EB r (AR i)):=by
 intro a s t H D I h;refine wpAny_Assign_Name (e0 (f a s t H _ I h) λv u zz=>?_) m;obtain⟨y,b,c,q,p⟩:=zz;exact MP c hN l o q (λw d=>⟨_,b,d,p⟩) j
end
section
variable{X:Cx}{pos:Pos}
def SR(c:TT)(d:TS):TS:=λD σ H=>∃W:Nat->St->Hp->Prop,(∃m,W m σ H)/\∀m σ H,W m σ H->
 c σ H λb H1=>if b=γ then ∃N:St->Hp->Prop,(∀σ' H',N σ' H'->∃a,a<m/\W a σ' H')/\d { D with nx:=N,ct:=N,bk:=D.nx } σ H1 else D.nx σ H1
def SU(y:ky (model X.prog X.w) X.A X.b3 X.xe)(C:PT X c Q)(B:k? X body P):PS X (.While c body [] pos) (SR Q P):=by
 intro a s T H D I h;obtain⟨W,⟨E,R⟩,turn⟩:=h;refine wpAny_While (codeAny_whileLoop (λn F=>∃j r,cb X a j r F/\W n j r) ?_ E ⟨T,H,I,R⟩);rintro n G ⟨e,t,z,S⟩;refine gq y (e0 (C a G e t _ z (turn n e t S)) λb M zz=>?_);obtain⟨u,x,l⟩:=zz;cases b with
 |true=>
  obtain⟨N,hN,l⟩:=l;rw[aj J];refine gq y (e0 (B a M e u _ x l) λf U q3=>?_);cases f with
  |next=>obtain⟨d,i,m,q⟩:=q3;obtain⟨p,o,w3⟩:=hN d i q;exact⟨p,o,d,i,m,w3⟩
  |cont=>obtain⟨d,i,m,q⟩:=q3;obtain⟨p,o,w3⟩:=hN d i q;exact⟨p,o,d,i,m,w3⟩
  |brk=>exact q3
  |ret v=>exact q3
 |false=>rw[ak br];exact jX ⟨e,u,x,l⟩
end
structure It where
 go:Nat->Hp->Prop
 yld:Nat->Hp->V->Hp->Prop
 stop:Nat->Hp->Prop
def Kk(X:Cx)(a:cE)(H:Hp)(b:Addr):Prop:=
 H b=O/\b≠X.b3.locals/\b∉X.fs/\(b∈X.ex\/X.s₀.heap.objs.size<=b)/\(∀x c,X.b3.cells.lookup x=Z c->c≠b)/\∀p∈X.pn++a,p.1≠b
def cb.K3(I:cb X d j H s)(a:s.heap.objs.size<=b)(h:f b=O):Kk X d f b:=by
 refine⟨h,dM (ck I.lt a),I.nofs a,.inr (bC I.sz a),λx c e z=>?_,λp i z=>?_⟩
 .obtain⟨v,q⟩:=I.cell x c e;exact ar (ck q.lt (by rw[z];exact a)) (d8 _)
 .exact ar (ck (aL (I.E? p i).1) (by rw[z];exact a)) (d8 _)
structure O?(P:aB)(w:aw)(K:av)(tg:Expr)(A':It)(fp:List Addr)(it:Addr)(tn:Nat->Heap->Prop):Prop where
 mem:it∈fp
 obj:∀i h,tn i h->∀b∈fp,∃o,h.get? b=Z o/\∀v,o.data≠.cell v
 keep:∀i h h',tn i h->(∀b∈fp,∀o,h.get? b=Z o->h'.get? b=Z o)->tn i h'
 item:∀(X:Cx),X.prog=P->X.w=w->X.K=K->X.j0=γ->∀(i:Nat) (pins:cE) (s:af) (σ:St) (H:Hp) (E:aa->af->Prop),cb X pins σ H s->(∀b∈fp,Kk X pins H b)->tn i s.heap->A'.go i H->
  ah (model P w) X.A (pyNext (.ref it)) (λr s1=>∃u,r=Z u/\
   ah (model P w) X.A (iW tg (.ref it) u) (λy s2=>∃x H',cb X pins σ H' s2/\dg x u/\A'.yld i H x H'/\tn (i+1) s2.heap/\∀b∈fp,H' b=O) E s1) E s
 done:∀(X:Cx),X.prog=P->X.w=w->X.K=K->X.j0=γ->∀(i:Nat) (pins:cE) (s:af) (σ:St) (H:Hp) (E:aa->af->Prop),cb X pins σ H s->(∀b∈fp,Kk X pins H b)->tn i s.heap->A'.stop i H->
  ah (model P w) X.A (pyNext (.ref it)) (λr s1=>r=O/\cb X pins σ H s1) E s
 self:∀(A:aG) (i:Nat) (s:af) (Q:aa->af->Prop) (E:aa->af->Prop),tn i s.heap->Q (.ref it) s->ah (model P w) A (pyIter (.ref it)) Q E s
abbrev TI:=St->Hp->(It->Hp->Prop)->Prop
def PIE(X:Cx)(a:cE)(l:St)(j:Expr)(R:It->Hp->Prop)(itv:aa)(h:af):Prop:=
 ∃(f:Addr) (e:List Addr) (i:Nat->Heap->Prop) (d:It) (c:Hp),itv=.ref f/\cb X a l c h/\O? X.prog X.w X.K j d e f i/\i 0 h.heap/\(∀b∈e,Kk X a c b)/\R d c
def PI(X:Cx)(d iter:Expr)(e:TI):Prop:=
 ∀(a:cE) (s:af) (b:St) (H:Hp) (R:It->Hp->Prop),cb X a b H s->e b H R->
  ah (model X.prog X.w) X.A (eval iter X.b3) (λv c=>ah (model X.prog X.w) X.A (pyIter v) (PIE X a b d R) X.xe c) X.xe s
def PF{s:af}(c:s.heap.get? d=Z o)(a:o.cls=.type n)(hd:o.data=.fields f)
  (b:["enumerate", "zip", "dict_itemiterator", "dict_reverseitemiterator", "odict_iterator", "itertools.zip_longest", "itertools.pairwise"].contains n=δ) (hQ:Q () s):ah M A (iW e (.ref d) u) Q E s:=by
 unfold iW;cases e<;>first
  |exact aq hQ
  |(cases u<;>first
    |exact aq hQ
    |(refine ae (wpAny_load c ?_)
      rw[a,hd];show ah M A (if (["enumerate", "zip", "dict_itemiterator", "dict_reverseitemiterator", "odict_iterator", "itertools.zip_longest", "itertools.pairwise"].contains n&&f[0]?==Z (rawInt _))=γ then _ else _) Q E s;rw[ak (by intro h;rw[b,Bool.false_and]at h;cases h)];exact aq hQ))
def Itl(K:av)(a:Addr):It:=
 ⟨λi H=>∃b x,fb K H a b/\b[i]?=Z x,λi H x c=>c=H/\∀b,fb K H a b->b[i]?=Z x,λi H=>∃b,fb K H a b/\b.length<=i⟩
def Itt(K:av)(a:Addr):It:=
 ⟨λi H=>∃b x,e? K H a b/\b[i]?=Z x,λi H x c=>c=H/\∀b,e? K H a b->b[i]?=Z x,λi H=>∃b,e? K H a b/\b.length<=i⟩
def Itr(lo:Int)(n:Nat):It:=⟨λi y=>i<n,λi H x a=>a=H/\x=.int (lo+i),λi y=>n<=i⟩
def Re{P:aB}{w:aw}{K:av}{tg:Expr}(a it:Addr):O? P w K tg (Itl K a) [it] it (λi h=>h.IsListIter it a i) where
 mem:=by simp
 obj:=λi h st b hb=>by
  have e:b=it:=by simpa using hb
  subst e;obtain⟨o,e,c,d⟩:=st;exact⟨o,e,λv z=>by rw[d]at z;cases z⟩
 keep:=λi h h' st k=>st.at λo e=>k it (by simp) o e
 item:=by intro X hP hw hK C i pins s σ H E I hf st hg;subst hP hw hK;obtain⟨xs,x,j,y⟩:=hg;obtain⟨A,B,p,R⟩:=I.list j;obtain⟨u,N,S⟩:=B.get y;obtain⟨l,m,M,q,r,t⟩:=hf it (by simp);refine oH st p.isList (x:=u) (by simpa using N) λh' f T=>?_;have F:cb X pins σ H { s with heap:=h' }:=I.gh (t':=s.toks) (λb o hb e=>(T.2 b hb).t e) l m q r t;obtain⟨o,e,c,d⟩:=id f;exact⟨u,J,PF (s:={ s with heap:=h' }) e c d (by decide) ⟨x,H,F,S,⟨J,λY Q=>by rw[I.H? Q j];exact y⟩,f,λb hb=>(hf b hb).1⟩⟩
 done:=by intro X hP hw hK C i pins s σ H E I hf st hg;subst hP hw hK;obtain⟨xs,j,y⟩:=hg;obtain⟨A,B,p,R⟩:=I.list j;obtain⟨l,m,M,q,r,t⟩:=hf it (by simp);have W:=B.length;exact oO (I.ok.hd C) st p.isList (by simp;omega) λh' G=>⟨J,I.gh (t':=s.toks) (λb o hb e=>G b o hb e) l m q r t⟩
 self:=λ_ _ _ _ _ st h=>wpAny_pyIter_listiter st h
def Om{P:aB}{w:aw}{K:av}{tg:Expr}(a it:Addr):O? P w K tg (Itt K a) [it] it (λi h=>h.IsTupleIter it a i) where
 mem:=by simp
 obj:=λi h st b hb=>by
  have e:b=it:=by simpa using hb
  subst e;obtain⟨o,e,c,d⟩:=st;exact⟨o,e,λv z=>by rw[d]at z;cases z⟩
 keep:=λi h h' st k=>st.at λo e=>k it (by simp) o e
 item:=by intro X hP hw hK C i pins s σ H E I hf st hg;subst hP hw hK;obtain⟨xs,x,l,A⟩:=hg;obtain⟨f,B,p,R⟩:=I.tuple l;obtain⟨u,N,S⟩:=B.get A;obtain⟨m,q,M,r,t,y⟩:=hf it (by simp);refine wpAny_pyNext_tuple_item st (show s.heap.IsTuple a f.toArray from p) (x:=u) (by simpa using N) λh' j T=>?_;have F:cb X pins σ H { s with heap:=h' }:=I.gh (t':=s.toks) (λb o hb e=>(T.2 b hb).t e) m q r t y;obtain⟨o,e,c,d⟩:=id j;exact⟨u,J,PF (s:={ s with heap:=h' }) e c d (by decide) ⟨x,H,F,S,⟨J,λY Q=>by rw[I.v? Q l];exact A⟩,j,λb hb=>(hf b hb).1⟩⟩
 done:=by intro X hP hw hK C i pins s σ H E I hf st hg;subst hP hw hK;obtain⟨xs,l,A⟩:=hg;obtain⟨f,B,p,R⟩:=I.tuple l;obtain⟨m,q,M,r,t,y⟩:=hf it (by simp);have W:=B.length;exact wpAny_pyNext_tuple_end (I.ok.hd C) st (show s.heap.IsTuple a f.toArray from p) (by simp;omega) λh' G=>⟨J,I.gh (t':=s.toks) (λb o hb e=>G b o hb e) m q r t y⟩
 self:=λ_ _ _ _ _ st h=>wpAny_pyIter_tupleiter st h
def On{P:aB}{w:aw}{K:av}{tg:Expr}(it:Addr)(lo:Int)(n:Nat):O? P w K tg (Itr lo n) [it] it (λi h=>IsRangeIter h it (lo+(i:Nat) * 1) ((n:Int) - (i:Nat)) 1) where
 mem:=by simp
 obj:=λi h st b hb=>by
  have e:b=it:=by simpa using hb
  subst e;exact⟨_,st,λv z=>by
   have y:Data.fields _=Data.cell v:=z;cases y⟩
 keep:=λi h h' st k=>k it (by simp) _ st
 item:=by intro X hP hw hK m i pins s σ H E I hf st hg;subst hP hw hK;obtain⟨c,d,r,f,j,l⟩:=hf it (by simp);have W:=Walks.range (prog:=X.prog) (w:=X.w) (I.ok.hd m) it lo 1 n;refine W.item i s _ _ hg st λv h' tk u a x=>?_;obtain⟨t,rfl⟩:=u;have p:cb X pins σ H { s with heap:=h',toks:=tk }:=I.gh (λb o hb e=>x b o (by simpa using hb) e) c d f j l;refine⟨_,J,PF (s:={ s with heap:=h',toks:=tk }) (n:="range_iterator") a rfl J (by decide) ⟨.int (lo+i),H,p,⟨t,?_⟩,⟨J,J⟩,a,λb hb=>(hf b hb).1⟩⟩;rw[Int.mul_one]
 done:=by intro X hP hw hK m i pins s σ H E I hf st hg;subst hP hw hK;obtain⟨c,d,r,f,j,l⟩:=hf it (by simp);exact wpAny_pyNext_range_end (I.ok.hd m) st (by have:n<=i:=hg;omega) λh' q=>⟨J,I.gh (t':=s.toks) (λb o hb e=>q b o hb e) c d f j l⟩
 self:=λ_ _ _ _ _ st h=>wpAny_pyIter_rangeiter st h
section
variable{X:Cx}{tg:Expr}
def SV(K:av)(c:TE):TI:=λe H R=>c e H λx b=>∃a,x=.ref a/\(∃d,fb K b a d)/\R (Itl K a) b
def Zx(K:av)(c:TE):TI:=λe H R=>c e H λx b=>∃a,x=.ref a/\(∃d,e? K b a d)/\R (Itt K a) b
def Wn{l:Expr}{i:TE}(r:PE X l i):PI X tg l (SV X.K i):=by
 intro c s z H R I h;refine e0 (r c s z H _ I h) λv f zz=>?_;obtain⟨x,j,d,y,w⟩:=zz;obtain⟨a,e,⟨E,t⟩,q⟩:=w;subst e;cases y;obtain⟨u,B,p,A⟩:=d.list t;refine fG p.isList ?_;refine⟨f.heap.objs.size,[f.heap.objs.size],_,_,j,J,d.fc (t':=f.toks) λb o e=>aA _ e,Re a _,⟨_,aX _ J,J,J⟩,λb m=>?_,q⟩;have e:b=f.heap.objs.size:=by simpa using m
 subst e;exact d.K3 (aJ _) (d.er.fresh (aJ _))
def Zy{l:Expr}{j:TE}(t:PE X l j):PI X tg l (Zx X.K j):=by
 intro c s z H R I h;refine e0 (t c s z H _ I h) λv d zz=>?_;obtain⟨x,m,f,y,w⟩:=zz;obtain⟨a,e,⟨E,u⟩,q⟩:=w;subst e;cases y;obtain⟨i,B,p,A⟩:=f.tuple u;refine jM (show d.heap.IsTuple a i.toArray from p) ?_;refine⟨d.heap.objs.size,[d.heap.objs.size],_,_,m,J,f.fc (t':=d.toks) λb o e=>aA _ e,Om a _,⟨_,aX _ J,J,J⟩,λb r=>?_,q⟩;have e:b=d.heap.objs.size:=by simpa using r
 subst e;exact f.K3 (aJ _) (f.er.fresh (aJ _))
def MQ{pins:cE}{σ:St}{H:Hp}{s:af}{R:It->Hp->Prop}{E:aa->af->Prop}{lo hi:Int}{t u v:Tok}{tk:Nat}(I:cb X pins σ H s)(h1:-(2 ^ 62)<=lo)(h2:lo<2 ^ 62)(h3:-(2 ^ 62)<=hi)(h4:hi<2 ^ 62)
  (q:R (Itr lo (hi - lo).toNat) H):ah (model X.prog X.w) X.A (pyIter (.ref s.heap.objs.size)) (PIE X pins σ tg R) E { s with heap:=s.heap.push { cls:=.type "range", data:=.fields #[.int lo t,.int hi u,.int 1 v] },toks:=tk }:=by
 refine wpAny_pyIter_range (IsRange.new ..) (small_one h1 h2 h3 h4) ?_;have a:cb X pins σ H { s with heap:=s.heap.push { cls:=.type "range", data:=.fields #[.int lo t,.int hi u,.int 1 v] },toks:=tk }:=I.fc λb o e=>aA _ e;refine⟨(s.heap.push { cls:=.type "range", data:=.fields #[.int lo t,.int hi u,.int 1 v] }).objs.size,[(s.heap.push { cls:=.type "range", data:=.fields #[.int lo t,.int hi u,.int 1 v] }).objs.size],_,_,H,J,
  a.fc (t':=tk) λb o e=>aA _ e,On _ lo (hi - lo).toNat,?_,λb hb=>?_,q⟩
 .have c:lo+((0:Nat):Int) * 1=lo:=by simp
  have d:(((hi - lo).toNat:Nat):Int) - ((0:Nat):Int)=tY lo hi 1:=by rw[rangeSize_one];split<;>omega
  show IsRangeIter _ _ (lo+((0:Nat):Int) * 1) ((((hi - lo).toNat:Nat):Int) - ((0:Nat):Int)) 1;rw[c,d];exact aX _ J
 .have e:b=(s.heap.push { cls:=.type "range", data:=.fields #[.int lo t,.int hi u,.int 1 v] }).objs.size:=by simpa using hb
  subst e;exact a.K3 (aJ _) (a.er.fresh (aJ _))
def YG(b:TA):TI:=λd H R=>b d H λc a=>∃j:Int,c=[.int j]/\-(2 ^ 62)<=j/\j<2 ^ 62/\R (Itr 0 j.toNat) a
def YH(b:TA):TI:=λd H R=>b d H λc a=>∃i j:Int,c=[.int i,.int j]/\(-(2 ^ 62)<=i/\i<2 ^ 62/\-(2 ^ 62)<=j/\j<2 ^ 62)/\R (Itr i (j - i).toNat) a
def Rf{a:Expr}{d:TA}{p pos:Pos}(l:Gl X "range")(m:X.mg "range" = O)(i:PA X [a] d)(o:az [a] X.b3=[(δ,eval a X.b3)]:=by rfl):PI X tg (.Call (.Name "range" p) [a] [] pos) (YG d):=by
 intro b s y H R I h;refine Call_ (Be I l m boot_range (callWith_type1 (e0 (i pos b s y H _ I h) λB A zz=>?_) o J));obtain⟨C,z,f,w,c⟩:=zz;obtain⟨j,e,c,u,q⟩:=c;subst e;cases w with
 |cons r x=>cases x;obtain⟨t,rfl⟩:=r;exact call_range_1 (MQ f (by omega) (by omega) c u (by simpa using q))
def Rg(u:Gl X "range")(w:X.mg "range" = O)(o:PA X [a,b] C)(x:az [a,b] X.b3=[(δ,eval a X.b3),(δ,eval b X.b3)]:=by rfl)(c:az [b] X.b3=[(δ,eval b X.b3)]:=by rfl):
  PI X tg (.Call (.Name "range" p) [a,b] [] pos) (YH C):=by
 intro d s E H R I h;refine Call_ (Be I u w boot_range (callWith_type1 (e0 (o pos d s E H _ I h) λN G zz=>?_) (by rw[x,c]) (by rw[c];rfl)));obtain⟨P,F,m,B,f⟩:=zz;obtain⟨i,j,e,⟨f,y,q3,z⟩,q⟩:=f;subst e;cases B with
 |cons r l=>
  cases l with
  |cons A l=>cases l;obtain⟨t,rfl⟩:=r;obtain⟨M,rfl⟩:=A;exact call_range_2 (MQ m f y q3 z q)
def Zz(d:TI)(g:TG)(c:TS):TS:=λD σ H=>d σ H λA' H1=>∃W:Nat->Nat->St->Hp->Prop,(∃m,W 0 m σ H1)/\∀i m σ H,W i m σ H->
 (A'.stop i H/\D.nx σ H)\/(A'.go i H/\∃N:St->Hp->Prop,(∀σ' H',N σ' H'->∃b,b<m/\W (i+1) b σ' H')/\∀x H',A'.yld i H x H'->g x σ H' λa H2=>c { D with nx:=N,ct:=N,bk:=D.nx } a H2)
def IT(a:List Addr)(h:Heap):cE:=a.filterMap λb=>(h.get? b).map λo=>(b,o)
def Aq{h:Heap}(c:b∈a)(e:h.get? b=Z o):(b,o)∈IT a h:=iJ.2 ⟨b,c,by rw[e];rfl⟩
def Rh(f:p∈IT c h):p.1∈c/\h.get? p.1=Z p.2:=by
 obtain⟨b,d,e⟩:=iJ.1 f;cases q:h.get? b with
 |none=>rw[q]at e;cases e
 |some o=>rw[q]at e;have a:(b,o)=p:=cJ e;subst a;exact⟨d,q⟩
def cb.Ra(I:cb X a t H s)(m:∀b∈f,Kk X a H b)(q:∀b∈f,∃o,s.heap.get? b=Z o/\∀v,o.data≠.cell v):cb X (a++IT f s.heap) t H s:=
 I.U' λp r=>(aV.1 r).elim (λz=>I.E? p (bB _ z)) λz=>by obtain⟨h,e⟩:=Rh z;obtain⟨i,j,l,_⟩:=m p.1 h;obtain⟨o,c,d⟩:=q p.1 h;rw[e]at c;cases c;exact⟨e,i,j,l,d⟩
def cb.ki(I:cb X (a++pl) c H s):cb X a c H s:=I.U' λp b=>I.E? p (bB _ (bI _ b))
def SW(F:ky (model X.prog X.w) X.A X.b3 X.xe)(hc:X.j0=γ)(hi:PI X tg iter wi)(hg:PG X tg g)(p:k? X body tb)
  (hs:∀x,iN iter X.b3 x=pure x:=by intro _;rfl):PS X (.For tg iter body [] pos) (Zz wi g tb):=by
 intro a s σ H D I h;refine wpAny_For (e0 (hi a s σ H _ I h) λv s1 h1=>e0 h1 λitv s2 h2=>?_) hs;obtain⟨it,C,tn,A',H2,e,I2,T,Y,f2,W,⟨m0,w0⟩,turn⟩:=h2;subst e;have stat:∀{y:Hp},(∀b∈C,y b=O)->∀b∈C,Kk X a y b:=λhn b p=>⟨hn b p,(f2 b p).2⟩;refine codeAny_forLoop_any (λn s'=>∃i q y,cb X a q y s'/\tn i s'.heap/\(∀b∈C,y b=O)/\W i n q y) ?_ m0 ⟨0,σ,H2,I2,Y,λb p=>(f2 b p).1,w0⟩;rintro n s3 ⟨i,t,P,I3,M,E,w3⟩;rcases turn i n t P w3 with ⟨stop,qn⟩|⟨go,N,hN,step⟩
 .refine gq F (e0 (T.done X J J J hc i a s3 t P X.xe I3 (stat E) M stop) λr s4 zz=>?_);obtain⟨S,I4⟩:=zz;subst S;exact jX ⟨t,P,I4,qn⟩
 .refine gq F (e0 (T.item X J J J hc i a s3 t P X.xe I3 (stat E) M go) λr s4 zz=>?_);obtain⟨u,S,h4⟩:=zz;subst S;refine gq F (e0 h4 λ_ s5 zz=>?_);obtain⟨x,H5,I5,r5,y5,B,R⟩:=zz;have Q:=I5.Ra (stat R) (T.obj _ _ B);refine gq F (e0 (hg _ s5 t H5 x u _ Q r5 (step x H5 y5)) λ_ s6 zz=>?_);obtain⟨σ6,H6,I6,q6⟩:=zz;refine gq F (e0 (p _ s6 σ6 H6 _ I6 q6) λf U z=>?_);have again:∀{c:St} {j:Hp},cb X (a++IT C s5.heap) c j U->N c j->∃m,m<n/\∃i q y,cb X a q y U/\tn i U.heap/\(∀b∈C,y b=O)/\W i m q y:=λ{c j} l G=>by obtain⟨m',hm,w7⟩:=hN c j G;refine⟨m',hm,i+1,c,j,l.ki,T.keep _ _ _ B λb p o e=>(l.E? (b,o) (bB _ (bB _ (Aq p e)))).1,λb p=>?_,w7⟩;obtain⟨o,e,d⟩:=T.obj _ _ B b p;exact(l.E? (b,o) (bB _ (bB _ (Aq p e)))).2.1
  cases f with
  |next=>obtain⟨c,j,l,G⟩:=z;exact again l G
  |cont=>obtain⟨c,j,l,G⟩:=z;exact again l G
  |brk=>obtain⟨c,j,l,z⟩:=z;exact⟨c,j,l.ki,z⟩
  |ret v=>obtain⟨x7,c,j,l,r7,z⟩:=z;exact⟨x7,c,j,l.ki,r7,z⟩
end
abbrev R2:=V->V->Hp->VK->Prop
def fu(X:Cx)(f:aa->aa->Sem aa)(r:R2):Prop:=
 ∀(a:cE) (s:af) (b:St) (H:Hp) (x y:V) (v u:aa) (Q:VK),cb X a b H s->dg x v->dg y u->r x y H Q->
  ah (model X.prog X.w) X.A (f v u) (EP X a b Q) X.xe s
def wM(X:Cx)(f:aa)(r:bA->Hp->VK->Prop):Prop:=
 ∀(a:cE) (s:af) (d:St) (H:Hp) (c:bA) (b:List aa) (Q:VK),cb X a d H s->de c b->r c H Q->
  ah (model X.prog X.w) X.A (call f b) (EP X a d Q) X.xe s
def tOp(r:R2)(d e:TE):TE:=λa H Q=>d a H λx b=>e a b λy c=>r x y c Q
def rI(C:Int->Int->Prop)(g:Int->Int->V):R2:=λx y H Q=>∃i j,x=.int i/\y=.int j/\C i j/\Q (g i j) H
def M'(g:Int->Int->V):R2:=λx y H Q=>∃i j,x=.int i/\y=.int j/\Q (g i j) H
section
variable{X:Cx}{a b c:Expr}{ta tb tc:TE}{pos:Pos}
def ZC(r:PE X a ta)(t:PE X b tb){d:cE}{s:af}{i:St}{H:Hp}{R:V->V->Hp->Prop}(I:cb X d i H s)
  (h:ta i H λx o=>tb i o λy e=>R x y e) {Q:aa->af->Prop} {f:aa->aa->Sem aa}
  (z:∀v u m x y e,cb X d i e m->dg x v->dg y u->R x y e->ah (model X.prog X.w) X.A (f v u) Q X.xe m):
  ah (model X.prog X.w) X.A (eval a X.b3) (λv j=>ah (model X.prog X.w) X.A (eval b X.b3) (λu l=>ah (model X.prog X.w) X.A (f v u) Q X.xe l) X.xe j) X.xe s:=by
 refine e0 (r d s i H _ I h) λv G zz=>?_;obtain⟨x,o,p,E,B⟩:=zz;refine e0 (t d G i o _ p B) λu m zz=>?_;obtain⟨y,e,q,F,C⟩:=zz;exact z v u m x y e q E F C
def PH(l:fu X (cO m) r)(i:PE X a ta)(j:PE X b tb):PE X (.BinOp a m b pos) (tOp r ta tb):=by intro d s w H Q I h;exact wpAny_BinOp (ZC i j I h λv u t x y e f o p q=>l d t w e x y v u Q f o p q)
def opI{f:aa->aa->Sem aa}{C:Int->Int->Prop}{g:Int->Int->Int}
  (rule:∀(i j:Int) (t u:Tok) (s:af) (Q:aa->af->Prop) (E:aa->af->Prop),C i j->Q (.int (g i j) s.toks) { s with toks:=s.toks+1 }->ah (model X.prog X.w) X.A (f (.int i t) (.int j u)) Q E s):
  fu X f (rI C λi j=>.int (g i j)):=by
 intro pins s σ H x y v u Q I e l h;obtain⟨i,j,rfl,rfl,d,q⟩:=h;obtain⟨t,rfl⟩:=e;obtain⟨m,rfl⟩:=l;exact rule i j t m s _ _ d ⟨.int (g i j),H,I.pa _,⟨_,J⟩,q⟩
def opI0{f:aa->aa->Sem aa}{g:Int->Int->Int}
  (rule:∀(i j:Int) (t u:Tok) (s:af) (Q:aa->af->Prop) (E:aa->af->Prop),Q (.int (g i j) s.toks) { s with toks:=s.toks+1 }->ah (model X.prog X.w) X.A (f (.int i t) (.int j u)) Q E s):
  fu X f (M' λi j=>.int (g i j)):=by
 intro pins s σ H x y v u Q I d e h;obtain⟨i,j,rfl,rfl,q⟩:=h;obtain⟨t,rfl⟩:=d;obtain⟨l,rfl⟩:=e;exact rule i j t l s _ _ ⟨.int (g i j),H,I.pa _,⟨_,J⟩,q⟩
def Wo{f:aa->aa->Sem aa}{g:Int->Int->Bool}
  (rule:∀(i j:Int) (t u:Tok) (s:af) (Q:aa->af->Prop) (E:aa->af->Prop),Q (.bool (g i j)) s->ah (model X.prog X.w) X.A (f (.int i t) (.int j u)) Q E s):
  fu X f (M' λi j=>.U (g i j)):=by
 intro d s o H x y v u Q I e l h;obtain⟨i,j,rfl,rfl,q⟩:=h;obtain⟨t,rfl⟩:=e;obtain⟨m,rfl⟩:=l;exact rule i j t m s _ _ ⟨.U (g i j),H,I,J,q⟩
def ZD(i j:Int):Prop:=0<j/\j<1073741824
def CPow(i j:Int):Prop:=0<=j/\j<=1000000/\i.natAbs<2 ^ 64
def Wp(i j:Int):Prop:=(-(2 ^ 64)<i/\i<2 ^ 64)\/(-(2 ^ 64)<j/\j<2 ^ 64)
def Wp.ok(h:Wp i j):IntMulOk i j:=by
 rcases h with ⟨d,e⟩|⟨d,e⟩
 .exact .of_left (qX d e)
 .exact .of_right (qX d e)
def ZJ:fu X (cO .Add) (M' λi j=>.int (i+j)):=opI0 λy y y y y y y q=>add_int q
def ZL:fu X (cO .Sub) (M' λi j=>.int (i - j)):=opI0 λy y y y y y y q=>sub_int q
def ZM:fu X (cO .Mult) (rI Wp λi j=>.int (i * j)):=opI λy y y y y y y d q=>mul_int q d.ok
def Wq:fu X (cO .FloorDiv) (rI ZD λi j=>.int (i / j)):=opI λi j y y y y y d q=>by have e:(0:Int)<j:=d.1;have f:j<1073741824:=d.2;exact floordiv_int (by omega) (by rw[Int.fdiv_eq_ediv_of_nonneg i (by omega)];exact q) (.inl (PyProof.noPylong_small (by omega)))
def ZP:fu X (cO .Mod) (rI (λy j=>0<j) λi j=>.int (i % j)):=opI λi j y y y y y d q=>by have e:(0:Int)<j:=d;exact mod_int' (by omega) (by rw[Int.fmod_eq_emod_of_nonneg i (by omega)];exact q)
def ZQ:fu X (cO .Pow) (rI CPow λi j=>.int (i ^ j.toNat)):=opI λy y y y y y y d q=>pow_int_small d.1 d.2.1 d.2.2 q
end
def SX:V->V->Bool
 |.J,.J=>γ|.J,.int _=>γ|.int _,.J=>γ|.J,.U _=>γ|.U _,.J=>γ|.J,.str _=>γ|.str _,.J=>γ
 |.int _,.int _=>γ|.U _,.U _=>γ|.str _,.str _=>γ|.π _,.π _=>γ
 |.int _,.str _=>γ|.str _,.int _=>γ|.U _,.str _=>γ|.str _,.U _=>γ
 |_,_=>δ
def rEq:R2:=λx y H Q=>SX x y=γ/\Q (.U (decide (x=y))) H
def rNe:R2:=λx y H Q=>SX x y=γ/\Q (.U (!decide (x=y))) H
def PJ:decide (V.int i=V.int j)=(i==j):=by rw[du];simp
def SY:decide (V.U i=V.U j)=(i==j):=by rw[du];simp
def PK:decide (V.str i=V.str j)=(i==j):=by rw[du];simp
def PM:decide (V.π i=V.π j)=(i.toList==j.toList):=by rw[du];cases i;cases j;simp
section
variable{X:Cx}{a b c:Expr}{ta tb tc:TE}{pos:Pos}
def vR(I:cb X d h H s)(q:Q (.U k) H)(e:k=f):EP X d h Q (.bool f) s:=by subst e;exact⟨.U k,H,I,J,q⟩
def adu:fu X (bz .Eq) rEq:=by
 intro m s o H x y v u Q I l d h;obtain⟨f,q⟩:=h;cases x with
 |J=>
  cases l;cases y with
  |J=>cases d;exact sT (vR I q (by simp))
  |U j=>cases d;exact sU (vR I q (by simp))
  |int j=>obtain⟨e,rfl⟩:=d;exact tI (vR I q (by simp))
  |str j=>obtain⟨e,rfl⟩:=d;exact tJ (vR I q (by simp))
  |_=>exact ar (show δ=γ from f) br
 |U i=>
  cases l;cases y with
  |J=>cases d;exact sV (vR I q (by simp))
  |U j=>cases d;exact eq_bool (vR I q SY)
  |str j=>obtain⟨e,rfl⟩:=d;exact sW (vR I q (by simp))
  |_=>exact ar (show δ=γ from f) br
 |int i=>
  obtain⟨t,rfl⟩:=l;cases y with
  |J=>cases d;exact tK (vR I q (by simp))
  |int j=>obtain⟨e,rfl⟩:=d;exact eq_int (vR I q PJ)
  |str j=>obtain⟨e,rfl⟩:=d;exact tL (vR I q (by simp))
  |_=>exact ar (show δ=γ from f) br
 |str i=>
  obtain⟨t,rfl⟩:=l;cases y with
  |J=>cases d;exact tN (vR I q (by simp))
  |U j=>cases d;exact sX (vR I q (by simp))
  |int j=>obtain⟨e,rfl⟩:=d;exact tP (vR I q (by simp))
  |str j=>obtain⟨e,rfl⟩:=d;exact eq_str (vR I q PK)
  |_=>exact ar (show δ=γ from f) br
 |π i=>
  obtain⟨t,rfl⟩:=l;cases y with
  |π j=>obtain⟨e,rfl⟩:=d;exact W.eq_bytes (vR I q PM)
  |_=>exact ar (show δ=γ from f) br
 |_=>cases y<;>exact ar (show δ=γ from f) br
def adv:fu X (bz .NotEq) rNe:=by
 intro m s o H x y v u Q I l d h;obtain⟨f,q⟩:=h;cases x with
 |J=>
  cases l;cases y with
  |J=>cases d;exact sY (vR I q (by simp))
  |U j=>cases d;exact sZ (vR I q (by simp))
  |int j=>obtain⟨e,rfl⟩:=d;exact tQ (vR I q (by simp))
  |str j=>obtain⟨e,rfl⟩:=d;exact tR (vR I q (by simp))
  |_=>exact ar (show δ=γ from f) br
 |U i=>
  cases l;cases y with
  |J=>cases d;exact tu (vR I q (by simp))
  |U j=>cases d;exact ne_bool (vR I q (bw not SY))
  |str j=>obtain⟨e,rfl⟩:=d;exact tw (vR I q (by simp))
  |_=>exact ar (show δ=γ from f) br
 |int i=>
  obtain⟨t,rfl⟩:=l;cases y with
  |J=>cases d;exact tS (vR I q (by simp))
  |int j=>obtain⟨e,rfl⟩:=d;exact ne_int (vR I q (bw not PJ))
  |str j=>obtain⟨e,rfl⟩:=d;exact tT (vR I q (by simp))
  |_=>exact ar (show δ=γ from f) br
 |str i=>
  obtain⟨t,rfl⟩:=l;cases y with
  |J=>cases d;exact tU (vR I q (by simp))
  |U j=>cases d;exact tD (vR I q (by simp))
  |int j=>obtain⟨e,rfl⟩:=d;exact tV (vR I q (by simp))
  |str j=>obtain⟨e,rfl⟩:=d;exact ne_str (vR I q (bw not PK))
  |_=>exact ar (show δ=γ from f) br
 |π i=>
  obtain⟨t,rfl⟩:=l;cases y with
  |π j=>obtain⟨e,rfl⟩:=d;exact W.ne_bytes (vR I q (bw not PM))
  |_=>exact ar (show δ=γ from f) br
 |_=>cases y<;>exact ar (show δ=γ from f) br
def adw:fu X (bz .Lt) (M' λi j=>.U (decide (i<j))):=Wo λy y y y y y y q=>lt_int q
def adx:fu X (bz .LtE) (M' λi j=>.U (decide (i<=j))):=Wo λy y y y y y y q=>le_int q
def ady:fu X (bz .Gt) (M' λi j=>.U (decide (j<i))):=Wo λy y y y y y y q=>gt_int q
def adz:fu X (bz .GtE) (M' λi j=>.U (decide (j<=i))):=Wo λy y y y y y y q=>ge_int q
def ZR:fu X (bz .Is) (λx y H Q=>y=.J/\Q (.U (decide (x=.J))) H):=by
 intro d s i H x y v u Q I e f h;obtain⟨rfl,q⟩:=h;cases f;refine is_none_gen (vR I q ?_);cases x<;>first
  |(cases e;rfl)
  |(obtain⟨t,rfl⟩:=e;rfl)
def Wr:fu X (bz .IsNot) (λx y H Q=>y=.J/\Q (.U (!decide (x=.J))) H):=by
 intro d s i H x y v u Q I e f h;obtain⟨rfl,q⟩:=h;cases f;refine isnot_none_gen (vR I q ?_);cases x<;>first
  |(cases e;rfl)
  |(obtain⟨t,rfl⟩:=e;rfl)
def Wt(o:fu X (bz e) r)(j:PE X a ta)(l:PE X b tb)(m:gr e b=δ):PE X (.Compare a [e] [b] pos) (tOp r ta tb):=by intro d s z H Q I h;exact wpAny_Compare1 (ZC j l I h λv u w x y f i p t q=>o d w z f x y v u Q i p t q) m
def SZ(t:TE):TT:=λe H Q=>t e H λx d=>∃k,x=.U k/\Q k d
def Wu(B:fu X (bz i) r)(t:PE X a ta)(w:PE X b tb)(A:gr i b=δ):PT X (.Compare a [i] [b] pos) (SZ (tOp r ta tb)):=by
 intro d s f H Q I h;refine oN (e0 (t d s f H _ I h) λv N ⟨x,j,o,F,C⟩=>e0 (w d N f j _ o C) λu P ⟨y,l,p,G,E⟩=>
  e0 (B d P f l x y v u _ p F G E) λc R ⟨z,m,q,M,k,e,q3⟩=>?_) A
 subst e;cases M;exact dF ⟨m,q,q3⟩
def Oo(r j:R2)(ta tb tc:TE):TE:=λd H Q=>ta d H λx f=>tb d f λy h=>r x y h λz e=>∃k,z=.U k/\
 (if k=γ then tc d e λl i=>j y l i Q else Q (.U δ) e)
def S0(P:fu X (bz p) r)(l:fu X (bz i) U)(F:PE X a ta)(G:PE X b tb)(M:PE X c tc)
  (N:lastMarks [p,i] [b,c]=δ:=by with_unfolding_all rfl):PE X (.Compare a [p,i] [b,c] pos) (Oo r U ta tb tc):=by
 intro f s j H Q I h;refine Compare_chain (e0 (F f s j H _ I h) λv s1 ⟨x,t,B,W,R⟩=>chain_link (e0 (G f s1 j t _ B R) λu s2 ⟨y,w,C,q,S⟩=>
  e0 (P f s2 j w x y v u _ C W q S) λd s3 ⟨z,m,o,Y,k,e,q3⟩=>?_)) N
 subst e;cases Y;refine dF ?_;cases k with
 |false=>exact ite_ff ⟨.U δ,m,o,J,q3⟩
 |true=>exact ite_tt (chain_last (e0 (M f s3 j m _ o q3) λw' s4 ⟨z',A,E,r4,T⟩=>l f s4 j A y z' u w' Q E q r4 T))
def S4(U:fu X (bz p) r)(l:fu X (bz i) r')(P:PE X a ta)(R:PE X b tb)(S:PE X c tc)
  (T:lastMarks [p,i] [b,c]=δ:=by with_unfolding_all rfl):PT X (.Compare a [p,i] [b,c] pos) (SZ (Oo r r' ta tb tc)):=by
 intro f s j H Q I h;refine isTrue_chain (e0 (P f s j H _ I h) λv s1 ⟨x,t,C,r1,Y⟩=>test_link (e0 (R f s1 j t _ C Y) λu s2 ⟨y,w,E,q,q2⟩=>
  e0 (U f s2 j w x y v u _ E r1 q q2) λd s3 ⟨z,m,o,r3,k,e,q3⟩=>?_)) T
 subst e;cases r3;refine dF ?_;cases k with
 |false=>obtain⟨k',M,W⟩:=q3;cases M;exact ite_ff ⟨m,o,W⟩
 |true=>refine ite_tt (test_last (e0 (S f s3 j m _ o q3) λw' s4 ⟨z',A,F,r4,q4⟩=>e0 (l f s4 j A y z' u w' _ F q r4 q4) λd' s5 ⟨z2,B,G,r5,k2,N,q5⟩=>?_));subst N;cases r5;exact dF ⟨B,G,q5⟩
def Gk:(aF:Nat)<2 ^ 63:=by rw[bO];decide
def Oq:fu X (cO .Add) (λx y H Q=>∃i j,x=.str i/\y=.str j/\i.length+j.length<=aF/\Q (.str (i++j)) H):=by intro d s p H x y v u Q I f l h;obtain⟨i,j,rfl,rfl,e,q⟩:=h;obtain⟨t,rfl⟩:=f;obtain⟨m,rfl⟩:=l;exact add_str (λm o=>⟨.str (i++j),H,I.pa _,⟨_,J⟩,q⟩) e
def gk(r:de [x] f):∃u,f=[u]/\dg x u:=by
 cases r with
 |cons d e=>cases e;exact⟨_,J,d⟩
def za(r:de [x,y] j):∃u d,j=[u,d]/\dg x u/\dg y d:=by
 cases r with
 |cons e f=>
  cases f with
  |cons h i=>cases i;exact⟨_,_,J,e,h⟩
def Rj(l:X.j0=γ):wM X (.builtin "max") (λf H Q=>∃i j,f=[.int i,.int j]/\Q (.int (if j > i then j else i)) H):=by
 intro e s y H f w Q I r h;obtain⟨i,j,rfl,q⟩:=h;obtain⟨u,x,rfl,⟨t,rfl⟩,⟨o,rfl⟩⟩:=za r;refine max_two_ints (I.ok.hd l) λm p k=>⟨_,H,I.fc k,?_,q⟩;by_cases d:j > i
 .rw[aj d,aj d];exact⟨_,J⟩
 .rw[ak d,ak d];exact⟨_,J⟩
def Rm(l:X.j0=γ):wM X (.builtin "min") (λf H Q=>∃i j,f=[.int i,.int j]/\Q (.int (if j<i then j else i)) H):=by
 intro e s y H f w Q I r h;obtain⟨i,j,rfl,q⟩:=h;obtain⟨u,x,rfl,⟨t,rfl⟩,⟨o,rfl⟩⟩:=za r;refine min_two_ints (I.ok.hd l) λm p k=>⟨_,H,I.fc k,?_,q⟩;by_cases d:j<i
 .rw[aj d,aj d];exact⟨_,J⟩
 .rw[ak d,ak d];exact⟨_,J⟩
def Ro:wM X (.type "int") (λd H Q=>(∃i,d=[.int i]/\Q (.int i) H)\/∃k,d=[.U k]/\Q (.int (if k then 1 else 0)) H):=by
 intro e s l H d j Q I r h;rcases h with ⟨i,rfl,q⟩|⟨k,rfl,q⟩
 .obtain⟨u,rfl,t,rfl⟩:=gk r;exact call_int_int ⟨.int i,H,I,⟨_,J⟩,q⟩
 .obtain⟨u,rfl,f⟩:=gk r;cases f;exact call_int_bool ⟨.int (if k then 1 else 0),H,I.pa _,⟨_,J⟩,q⟩
def LJ:wM X (.type "str") (λe H Q=>∃i,e=[.int i]/\i.natAbs.log2<1920/\Q (.str (toString i)) H):=by intro d s l H e j Q I r h;obtain⟨i,rfl,f,q⟩:=h;obtain⟨u,rfl,t,rfl⟩:=gk r;exact PySem.P.str_of_int f ⟨.str _,H,I.pa _,⟨_,J⟩,q⟩
end
structure Os(h:Heap)(x dx C:Addr)(mA:Str->Option aa):Prop where
 obj:h.get? x=Z (fo C dx)
 ns:h.Ns1 dx mA
 ne:dx≠x
set_option tactic.hygienic true
def Rp{h:Heap}(n:h.Ns1 f mA):∃c,h.get? f=Z c/\∀name,kz name c=Z (mA name):=by
 obtain⟨o,b,p,l,hd,i,_,j⟩:=n;refine⟨o,l,λname=>?_⟩;have e:=j name;unfold nsFind findBy at e;rw[<-Array.find?_toList]at e;unfold kz;rw[hd];dsimp only;split
 .rename_i y q;rw[q]at e;exact bw Z e
 .rename_i q;rw[q]at e;have a:b.toList.any (·.refKey)=δ:=by rw[pJ];intro y m;obtain⟨z,t,hkey⟩:=i y (Array.mem_toList_iff.1 m);simp[DictEntry.refKey,hkey]
  have d:¬b.toList.any (·.refKey)=γ:=by rw[a];exact br
  rw[ak d];exact bw Z e
set_option tactic.hygienic false
def Os.look(I:Os h x b C mA):∃a,W.InstAt h x (fo C b) C (Z a)/\∀name,kz name a=Z (mA name):=
 let ⟨a,d,c⟩:=Rp I.ns
 ⟨a,⟨I.obj,J,J,d⟩,c⟩
section
variable{prog:aB}{w:aw}{A:aG}{E:aa->af->Prop}{s:af}{K:av}{x dx C f:Addr}{mA:Str->Option aa}{name:Str}{v:aa}
def get_map(X:K.In s.heap)(I:Os s.heap x dx C mA)(hg:ko K C name=γ)(b:ny K C=γ)
  (ha:cW K (.ref C) name=Z O) (d:mA name=Z v) (a:W.handedIn v=γ) (h:Q v { s with toks:=s.toks+1 }):
  ah (model prog w) A (getAttr (.ref x) name expr) Q E s:=by
 obtain⟨od,A',c⟩:=I.look;exact W.get_value X A' (mT hg).1 (W.findObj_own b ha J (by rw[c,d])) a h
def S5(X:K.In s.heap)(I:Os s.heap x dx C mA)(a:ko K C name=γ)
  (c:cW K (.ref C) name=Z (Z (.ref f))) (e:kC K (.ref f)=γ) (i:mA name=O) (h:Q (.ref f,[.ref x]) s):
  ah (model prog w) A (getMethod (.ref x) name pl) Q E s:=by
 obtain⟨j,b,d⟩:=I.look;exact W.method_fn X b (mT a).1 (mT a).2 c (beq_iff_eq.mp e) (by show (kz name j).map (·.isSome)=Z δ;rw[d,i];rfl) h
def Wv(X:K.In s.heap)(I:Os s.heap x dx C mA)
  (hs:cW K (.ref C) "__setattr__" = Z (Z (.builtin "object.__setattr__"))) (l:rL K C=γ) (o:nP K C name=Z O) (j:ny K C=γ)
  (hw:m7 mA ns) (m:ns.length<=aF)
  (h:∀h',Os h' x dx C (λy=>if y=name then Z v else mA y)->dA dx s.heap h'->Q () { s with heap:=h',toks:=s.toks+2 }):
  ah (model prog w) A (setAttr (.ref x) name v) Q E s:=by
 obtain⟨od,A',t⟩:=I.look;refine W.set_plain X A' hs (W.osa_open (s:={ s with toks:=s.toks+1 }) (r:=O) X A' l o λb=>?_);obtain⟨q,i,e⟩:=W.any_some j;have p:s.heap.get? x=Z ⟨.ref C,Z dx,.plain,#[]⟩:=I.obj;refine ae (aq (ae (ae (wpAny_loadPart p (ae (W.Looks.here (s:={ s with toks:=s.toks+1 }) (W.looks_clsIn X i) ?_))))));rw[e];refine aq (a:=Z dx) (ae (aq (ae ?_)));refine wpAny_nsSet1 (s:={ s with toks:=s.toks+1 }) I.ns λh' c d=>?_;obtain⟨oD,esD,epD,hoD,hdD,hcD⟩:=c.count (uH name v hw);refine ae (wpAny_lookBehind hoD (by rw[hdD];exact pastItsLine_dict (bC hcD (by rw[aN];omega))) ?_);exact aq (h _ ⟨(d.2 _ (dB I.ne)).t I.obj,c,I.ne⟩ d)
def S6(X:K.In s.heap)(hm:nQ K C=γ)
  (hi:cW K (.ref C) "__init__" = Z (Z (.ref f))) (hf:W.typeIn K (.ref f)=Z (.type "function"))
  (h:cz (model prog w) (A.under (.builtin "type.__call__" ⟨.ref C::vs,a⟩)) (.call (.ref f) ⟨.ref (s.heap.objs.size+1)::vs,a⟩) (W.InitBack (s.heap.objs.size+1) R)
   { s with heap:=(s.heap.push ee).push (fo C s.heap.objs.size) }):
  cz (model prog w) A (.call (.ref C) ⟨vs,a⟩) R s:=by
 obtain⟨b,g,d,t,os⟩:=s;exact rM (nO X hm) (qK X hi) (λself=>W.bind_fn X self hf) (.inl J) h
def Rq(X:K.In s.heap)(hm:nQ K C=γ)
  (hi:cW K (.ref C) "__init__" = Z (Z (.builtin "object.__init__")))
  (hb:∀self,W.Looks (model prog w) s.heap (bindSpecial (.builtin "object.__init__") self) (.builtin "object.__init__", [self]))
  (h:cz (model prog w) (A.under (.builtin "type.__call__" ⟨[.ref C],[]⟩)) (.call (.builtin "object.__init__") ⟨[.ref (s.heap.objs.size+1)],[]⟩) (W.InitBack (s.heap.objs.size+1) R)
   { s with heap:=(s.heap.push ee).push (fo C s.heap.objs.size) }):
  cz (model prog w) A (.call (.ref C) ⟨[],[]⟩) R s:=by
 obtain⟨a,g,d,t,os⟩:=s;exact rM (nO X hm) (qK X hi) hb (.inr ⟨J,J⟩) h
end
def Bv(f:Str)(v:V):List (Str×V)->List (Str×V)
 |[]=>[(f,v)]
 |(g,x)::r=>if g=f then (g,v)::r else (g,x)::Bv f v r
theorem G3(f g:Str)(v:V):∀fs:List (Str×V),(Bv f v fs).lookup g=if g=f then Z v else fs.lookup g
 |[]=>by
  show dN g [(f,v)]=_;by_cases h:g=f
  .have a:(g==f)=γ:=beq_iff_eq.mpr h;simp only[dN,a,aj h]
  .have a:(g==f)=δ:=beq_eq_false_iff_ne.2 h;simp only[dN,a,ak h]
 |(k,x)::r=>by
  have c:=G3 f g v r;rw[show Bv f v ((k,x)::r)=(if k=f then (k,v)::r else (k,x)::Bv f v r) from J];by_cases b:k=f
  .rw[aj b];by_cases h:g=k
   .have a:(g==k)=γ:=beq_iff_eq.mpr h;simp only[dN,a,aj (h.t b)]
   .have a:(g==k)=δ:=beq_eq_false_iff_ne.2 h;simp only[dN,a,ak (λe:g=f=>h (e.t b.symm))]
  .rw[ak b];by_cases h:g=k
   .have a:(g==k)=γ:=beq_iff_eq.mpr h;simp only[dN,a,ak (λe:g=f=>b (h.symm.t e))]
   .have a:(g==k)=δ:=beq_eq_false_iff_ne.2 h;simp only[dN,a];exact c
theorem Gm(f:Str)(v:V):∀fs:List (Str×V),f∈(Bv f v fs).map (·.1)/\∀g,g∈fs.map (·.1)->g∈(Bv f v fs).map (·.1)
 |[]=>⟨by simp[Bv],λg h=>by simp at h⟩
 |(k,x)::r=>by
  obtain⟨b,c⟩:=Gm f v r;rw[show Bv f v ((k,x)::r)=(if k=f then (k,v)::r else (k,x)::Bv f v r) from J];by_cases a:k=f
  .rw[aj a];subst a;exact⟨by simp,λg h=>by simpa using h⟩
  .rw[ak a];refine⟨?_,λg h=>?_⟩
   .rw[aI];exact bc _ b
   .rw[aI]at h ⊢;rcases aM.1 h with e|e
    .exact aM.2 (.inl e)
    .exact bc _ (c g e)
theorem G4(f:Str)(v:V):∀fs:List (Str×V),(Bv f v fs).length<=fs.length+1
 |[]=>by simp[Bv]
 |(k,x)::r=>by
  have b:=G4 f v r;rw[show Bv f v ((k,x)::r)=(if k=f then (k,v)::r else (k,x)::Bv f v r) from J];by_cases a:k=f
  .rw[aj a,aN,aN];omega
  .rw[ak a,aN,aN];omega
def CT.B'(r:CT (Z v) o):∃u,o=Z u/\dg v u:=by
 cases o with
 |none=>exact(show False from r).elim
 |some u=>exact⟨u,J,r⟩
def CT.none_of(r:CT O o):o=O:=by
 cases o with
 |none=>rfl
 |some u=>exact(show False from r).elim
def Rr(r:dg v u):W.handedIn u=γ:=by
 cases v with
 |J=>cases (show u=Value.none from r);rfl
 |U b=>cases (show u=Value.bool b from r);rfl
 |int i=>obtain⟨t,e⟩:=(show ∃t,u=Value.int i t from r);cases e;rfl
 |str x=>obtain⟨t,e⟩:=(show ∃t,u=Value.str x t from r);cases e;rfl
 |π b=>obtain⟨t,e⟩:=(show ∃t,u=Value.bytes b t from r);cases e;rfl
 |flt b=>obtain⟨t,e⟩:=(show ∃t,u=Value.float b t from r);cases e;rfl
 |ref a=>cases (show u=Value.ref a from r);rfl
 |ty n=>cases (show u=Value.type n from r);rfl
section
variable{P:aB}{w:aw}{H H':Hp}{h h':Heap}{a C dx:Addr}{fs fs':List (Str×V)}
def E4(er:nj P w H h)(e:H a=Z (.ka C dx fs)):∃mA,Os h a dx C mA/\(∀f,CT (fs.lookup f) (mA f))/\m7 mA (fs.map (·.1))/\fs.length<=1000/\H dx=Z (.fl a):=by obtain⟨d,z,b,c,mA,n,r,q⟩:=(show ef P w H h a (.ka C dx fs) from er a _ e);exact⟨mA,⟨c,n,b⟩,r,q,z,d⟩
end
structure Q?(K:av)(C:Addr):Prop where
 pg:ko K C Str.empty=γ
 hd:ny K C=γ
 po:rL K C=γ
 sa:cW K (.ref C) "__setattr__" = Z (Z (.builtin "object.__setattr__"))
def Q?.get{K:av}{C:Addr}(c:Q? K C)(f:Str):ko K C f=γ:=c.pg
def Bf(K:av)(C:Addr)(f:Str):Prop:=cW K (.ref C) f=Z O
def Bf.taker{K:av}{C:Addr}{f:Str}(n:Bf K C f):nP K C f=Z O:=by unfold nP;rw[show cW K (.ref C) f=Z O from n];rfl
structure Meth(K:av)(C:Addr)(m:Str)(f:Addr):Prop where
 fi:cW K (.ref C) m=Z (Z (.ref f))
 fn:kC K (.ref f)=γ
 kp:eB K (.ref f)=γ
section
variable{X:Cx}{pins:cE}{σ:St}{H:Hp}{s:af}{a C dx:Addr}{fs:List (Str×V)}{f:Str}{v:V}{A:aG}{E:aa->af->Prop}
def Ot(I:cb X pins σ H s)(e:H a=Z (.ka C dx fs))(c:Q? X.K C)(n:Bf X.K C f)(l:fs.lookup f=Z v)
  (h:∀u i,cb X pins σ H i->dg v u->Q u i):ah (model X.prog X.w) A (getAttr (.ref a) f b) Q E s:=by
 obtain⟨mA,j,r,_,_,_⟩:=E4 I.er e;obtain⟨u,m,d⟩:=CT.B' (v:=v) (o:=mA f) (by rw[<-l];exact r f);exact get_map I.kx j (c.get f) c.hd n m (Rr d) (h u _ (I.pa _) d)
def IU(I:cb X pins σ H s)(e:H a=Z (.ka C dx fs))(c:Q? X.K C)(k:Meth X.K C m g)(l:fs.lookup m=O)
  (h:Q (.ref g,[.ref a]) s):ah (model X.prog X.w) A (getMethod (.ref a) m pl) Q E s:=by
 obtain⟨mA,b,r,_,_,_⟩:=E4 I.er e;have d:mA m=O:=CT.none_of (by rw[<-l];exact r m);exact S5 I.kx b (c.get m) k.fi k.fn d h
def Ou(I:cb X pins σ H s)(e:H a=Z (.ka C dx fs))(c:Q? X.K C)(n:Bf X.K C f)(P:fs.length<1000)(M:dg y u)
  (h:∀l,cb X pins σ (eg H a (.ka C dx (Bv f y fs))) l->Q () l):ah (model X.prog X.w) A (setAttr (.ref a) f u) Q E s:=by
 obtain⟨mA,d,r,m,_,j⟩:=E4 I.er e;have G:(fs.map (·.1)).length<=aF:=by rw[ag,bO];omega
 refine Wv I.kx d c.sa c.po n.taker c.hd m G λt i N=>h _ ?_;have hd:∃o,t.get? dx=Z o:=let ⟨o,_,_,p,_⟩:=i.ns;⟨o,p⟩;refine I.rf (x:=a) (e:=dx) (by rw[e];exact True.intro) (.inr j) (λb q B z=>(N.2 b B).t z) hd ?_;refine⟨by rw[vb d.ne];exact j,?_,d.ne,i.obj,_,i.ns,λg=>?_,λg F=>?_⟩
 .have:=G4 f y fs;omega
 .show CT ((Bv f y fs).lookup g) (if g=f then Z u else mA g);rw[G3];by_cases q:g=f
  .rw[aj q,aj q];exact M
  .rw[ak q,ak q];exact r g
 .by_cases q:g=f
  .rw[q];exact(Gm f y fs).1
  .refine(Gm f y fs).2 g (m g λz=>F ?_);show (if g=f then Z u else mA g)=O;rw[ak q];exact z
def cb.made(I:cb X pins σ H s):cb X pins σ (eg (eg H s.heap.objs.size (.fl (s.heap.objs.size+1))) (s.heap.objs.size+1) (.ka C s.heap.objs.size []))
  { s with heap:=(s.heap.push ee).push (fo C s.heap.objs.size) }:=by
 have c:(s.heap.push ee).get? s.heap.objs.size=Z ee:=aX s.heap J;have h:((s.heap.push ee).push (fo C s.heap.objs.size)).get? (s.heap.objs.size+1)=Z (fo C s.heap.objs.size):=by
  have:=aX (s.heap.push ee) (o:=fo C s.heap.objs.size) J
  rwa [cy]at this
 have i:(s.heap.push ee).Ns s.heap.objs.size (λw=>O):=⟨ee,#[],_,c,J,(λe j=>ar j (by simp)),λw=>J⟩;have d:=I.laid (a:=s.heap.objs.size) (o:=.fl (s.heap.objs.size+1)) (h':=s.heap.push ee) (t':=s.toks) (λb u q=>aA _ q) (aJ _) ⟨_,c⟩;refine d.laid (a:=s.heap.objs.size+1) (o:=.ka C s.heap.objs.size []) (t':=s.toks) (λb u q=>aA _ q) (rq (cy _ _)) ?_;have ne:s.heap.objs.size≠s.heap.objs.size+1:=aT (dG _);refine⟨by rw[vb ne,uZ],cp _,ne,h,λw=>O,(Heap.Ns1.of_empty i).at λo q=>aA _ q,λw=>True.intro,λy l=>ar J l⟩
def Ww(c:fN e f b3 (eval e b3)=eval e b3)
  (h:ah (model prog w) A (eval e b3) (λo b=>ah (model prog w) A (getAttr o f γ) Q E b) E s):ah (model prog w) A (eval (.Attribute e f pos) b3) Q E s:=
 Attribute_any_ h (by rw[arm_eval_Attribute,c])
end
def tFld(K:av)(d:TE)(f:Str):TE:=λe H Q=>d e H λx b=>∃a C c fs v,x=.ref a/\b a=Z (.ka C c fs)/\Q? K C/\Bf K C f/\fs.lookup f=Z v/\Q v b
def sFld(K:av)(h i:TE)(f:Str):TS:=λD b H=>i b H λy e=>h b e λx c=>∃a C d fs,x=.ref a/\c a=Z (.ka C d fs)/\Q? K C/\Bf K C f/\fs.length<1000/\
 D.nx b (eg c a (.ka C d (Bv f y fs)))
section
variable{X:Cx}{o e value:Expr}{f:Str}{pos pos' tpos:Pos}{ta tv:TE}
def ZU(t:PE X e ta)(r:fN e f X.b3 (eval e X.b3)=eval e X.b3):PE X (.Attribute e f pos) (tFld X.K ta f):=by intro b s z H Q I h;refine Ww r (e0 (t b s z H _ I h) λu B zz=>?_);obtain⟨x,d,i,y,a,C,A,fs,v,p,m,c,n,l,q⟩:=zz;subst p;obtain rfl:u=Value.ref a:=y;exact Ot i m c n l λF E j w=>⟨v,d,j,w,q⟩
def ZZ(w:PE X o ta)(A:PE X value tv)(z:dO value (Z (.Attribute o f pos')) pos.line X.b3=pure δ):PS X (.Assign [.Attribute o f pos'] value pos) (sFld X.K ta tv f):=by intro b s d H D I h;refine plainObj_wpAny_Assign_Attribute (e0 (A b s d H _ I h) λu M ⟨y,i,j,G,q⟩=>e0 (w b M d i _ j q) λB Q zz=>?_) z;obtain⟨x,N,m,F,a,C,P,fs,t,r,c,n,l,E⟩:=zz;subst t;obtain rfl:B=Value.ref a:=F;exact Ou m r c n l G λR p=>⟨d,_,p,E⟩
end
section
variable{X:Cx}{pins:cE}{σ:St}{H:Hp}{s:af}{A:aG}{E:aa->af->Prop}{Q:aa->af->Prop}{c:aa}{b:Bool}
inductive Ip(K:av) (H:Hp):V->aa->Prop where
 |J:Ip K H .J (.type "NoneType")
 |U (x:Bool):Ip K H (.U x) (.type "bool")
 |int (i:Int):Ip K H (.int i) (.type "int")
 |str (x:Str):Ip K H (.str x) (.type "str")
 |flt (x:UInt64):Ip K H (.flt x) (.type "float")
 |b4 {a:Addr} {xs:bA} (e:H a=Z (.b4 xs)):Ip K H (.ref a) (.type "list")
 |lb {a:Addr} {o:Obj} {xs:bA} (e:H a=Z (.lb o (.b4 xs))):Ip K H (.ref a) (.type "list")
 |c4 {a:Addr} {xs:bA} (e:H a=Z (.c4 xs)):Ip K H (.ref a) (.type "tuple")
 |dK {a:Addr} {kvs:List (dr×V)} (e:H a=Z (.dK kvs)):Ip K H (.ref a) (.type "dict")
 |dT {a:Addr} {kvs:List (List dr×V)} (e:H a=Z (.dT kvs)):Ip K H (.ref a) (.type "dict")
 |ka {a C dx:Addr} {fs:List (Str×V)} (e:H a=Z (.ka C dx fs)) (cl:Q? K C) (ha:cW K (.ref C) "__class__" = Z (Z (.builtin "object.__class__")))
   (hn:rN K (.builtin "object.__class__") "__get__" = Z (Z (.builtin "getset_descriptor.__get__"))) (htk:W.takesIn K (.builtin "object.__class__")=Z γ)
   (hm:W.mroIn K C (.type "object")=Z γ):Ip K H (.ref a) (.ref C)
def Ak(I:cb X pins σ H s)(f:dg x u)(ty:Ip X.K H x t)(e:cX X.K t c=Z b)(h:∀tk,Q (.bool b) { s with toks:=tk }):
  ah (model X.prog X.w) A (call (.builtin "isinstance") [u,c]) Q E s:=by
 cases ty with
 |J=>cases (show u=Value.none from f);exact cN rO I.kx True.intro e (λz=>nomatch z) h
 |U y=>cases (show u=Value.bool y from f);exact cN rP I.kx True.intro e (λz=>nomatch z) h
 |int i=>obtain⟨t,q⟩:=(show ∃t,u=Value.int i t from f);cases q;exact cN W.kitx_int I.kx True.intro e (λz=>nomatch z) h
 |str y=>obtain⟨t,q⟩:=(show ∃t,u=Value.str y t from f);cases q;exact cN W.kitx_str I.kx True.intro e (λz=>nomatch z) h
 |flt y=>obtain⟨t,q⟩:=(show ∃t,u=Value.float y t from f);cases q;exact cN W.kitx_float I.kx True.intro e (λz=>nomatch z) h
 |@b4 a xs d=>cases (show u=Value.ref a from f);obtain⟨_,_,n,_,h1⟩:=(show ef X.prog X.w H s.heap a (.b4 xs) from I.er a _ d);exact cN i9 I.kx ⟨_,h1,J⟩ e (λz=>nomatch z) h
 |@lb a ob xs d=>cases (show u=Value.ref a from f);obtain⟨_,_,_,n,_,h1⟩:=(show ef X.prog X.w H s.heap a (.lb ob (.b4 xs)) from I.er a _ d);exact cN i9 I.kx ⟨_,h1,J⟩ e (λz=>nomatch z) h
 |@c4 a xs d=>cases (show u=Value.ref a from f);obtain⟨_,_,_,p,_⟩:=(show ef X.prog X.w H s.heap a (.c4 xs) from I.er a _ d);obtain⟨o,h1,h2,_⟩:=p;exact cN m8 I.kx ⟨o,h1,h2⟩ e (λz=>nomatch z) h
 |@dK a kvs d=>cases (show u=Value.ref a from f);obtain⟨_,_,vs,_,p⟩:=(show ef X.prog X.w H s.heap a (.dK kvs) from I.er a _ d);obtain⟨o,es,ep,h1,h2,_⟩:=p;exact cN hX I.kx ⟨o,h1,h2.1⟩ e (λz=>nomatch z) h
 |@dT a kvs d=>cases (show u=Value.ref a from f);obtain⟨_,_,xs,_,o,es,ep,h1,h2,_⟩:=(show ef X.prog X.w H s.heap a (.dT kvs) from I.er a _ d);exact cN hX I.kx ⟨o,h1,h2.1⟩ e (λz=>nomatch z) h
 |@ka a C dx fs d cl ha hn htk hm=>cases (show u=Value.ref a from f);obtain⟨mA,j,_⟩:=E4 I.er d;obtain⟨od,A',_⟩:=j.look;exact cN (W.kitx_own (cl.get _) cl.hd ha hn htk hm) I.kx A' e (λz=>nomatch z) h
end
structure xj(k:Nat)(A:aG):Prop where
 hd:A.handled=O
 dp:A.depth+3 * k+5<recursionLimit
 un:A.units+16 * k+200<cLine
def xj.mono(r:xj k A)(h:j<=k):xj j A:=⟨r.hd,by have:=r.dp;omega,by have:=r.un;omega⟩
theorem xj.deeper(r:xj (k+1) A)(b3:Env):xj k (A.deeper b3):=
 ⟨r.hd,by have:=r.dp;show A.depth+1+3 * k+5<_;omega,by have:=r.un;show A.units+3+16 * k+200<_;omega⟩
def Ov{A:aG}:(A.under (.builtin "type.__call__" ⟨.ref C::b,a⟩)).depth=A.depth+1:=by
 first|rfl|simp[m9,Code.weight,Code.isCreation,Code.isGuard,Code.isCaller,rQ,ng,guardIds]
def Ow{A:aG}:(A.under (.builtin "type.__call__" ⟨.ref C::b,a⟩)).units=A.units+1:=by
 first|rfl|simp[m9,Code.cUnits,rQ,ng]
def xj.make(r:xj (k+1) A)(C:Addr)(b:List aa)(a:List (Str×aa)):xj k (A.under (.builtin "type.__call__" ⟨.ref C::b,a⟩)):=
 ⟨r.hd,by have:=r.dp;rw[Ov];omega,by have:=r.un;rw[Ow];omega⟩
theorem xj.depth(r:xj k A):A.depth<recursionLimit:=by have:=r.dp;omega
theorem xj.units(r:xj k A):A.units+64<cLine:=by have:=r.un;omega
def Kl:TA:=λy H Q=>Q [] H
def Ec(d:TE)(e:TA):TA:=λa H Q=>d a H λx b=>e a b λf c=>Q (x::f) c
section
variable{X:Cx}{e:Expr}{es:List Expr}{te:TE}{t:TA}{pos:Pos}
def z6:PA X [] Kl:=λy y y y H Q I h=>gb ⟨[],H,I,.nil,h⟩
def w6(j:PE X e te)(l:PA X es t)(m:az (e::es) X.b3=(δ,eval e X.b3)::az es X.b3:=by rfl):PA X (e::es) (Ec te t):=by intro pos a s b H Q I h;rw[m];show ah _ _ (spliced ((δ,eval e X.b3)::bG pos (az es X.b3))) _ _ s;refine eO (e0 (j a s b H _ I h) λu w zz=>?_);obtain⟨x,c,f,q,o⟩:=zz;exact e0 (l pos a w b c _ f o) λA z ⟨y,d,i,r,p⟩=>⟨x::y,d,i,.cons q r,p⟩
def tTup(t:TA):TE:=λc H Q=>t c H λb a=>b.length<=aF/\∀p,a p=O->Q (.ref p) (eg a p (.c4 b))
def tLst(t:TA):TE:=λc H Q=>t c H λb a=>b.length<=aF/\∀p,a p=O->Q (.ref p) (eg a p (.b4 b))
def S7{m}(h:PA X es t):PE X (.Tuple es m pos) (tTup t):=by intro a s w H Q I j;refine wpAny_Tuple_spliced (e0 (h pos a s w H _ I j) λl c ⟨p,d,f,r,z,q⟩=>⟨by rw[<-r.length];exact z,?_⟩);have i:d c.heap.objs.size=O:=f.er.fresh (aJ _);refine⟨.ref c.heap.objs.size,eg d c.heap.objs.size (.c4 p),f.laid (t':=c.toks) (λb u e=>aA _ e) (aJ _) ?_,J,q _ i⟩;exact⟨z,l,r,⟨_,aX _ J,J,_,J⟩,λo e=>by rw[aX _ J]at e;cases e;rfl⟩
def S8(h:PA X es t):PE X (.List es pos) (tLst t):=by intro a s o H Q I j;refine wpAny_List_spliced (e0 (h pos a s o H _ I j) λl c ⟨m,d,f,r,z,q⟩=>⟨by rw[<-r.length];exact z,?_⟩);have i:d c.heap.objs.size=O:=f.er.fresh (aJ _);refine⟨.ref c.heap.objs.size,eg d c.heap.objs.size (.b4 m),f.laid (t':=c.toks) (λb u e=>aA _ e) (aJ _) ?_,J,q _ i⟩;exact⟨z,l,0,r,aX _ J⟩
end
abbrev Sp:=bA->Hp->VK->XK->Prop
abbrev CXT:=List Env->Hp->af->XK->aa->af->Prop
structure Ox(P:aB)(w:aw)(K:av)(mg:Str->Option aa)(b1:Heap)(A:aG)(cf:List Env)(s:af)(H:Hp):Prop where
 frames:A.frames=Z cf
 xo:Mod K mg b1
 bs:∀b o,b1.get? b=Z o->s.heap.get? b=Z o/\H b=O
 bsz:b1.objs.size<=s.heap.objs.size
 p?:s.heap.FunFrames b1 cf
 frf:∀b∈frs cf,H b=O
 er:nj P w H s.heap
 gi:fw s.gens
def CE(cf:List Env)(P:aB)(w:aw)(H:Hp)(s:af)(Q:VK)(u:aa)(a:af):Prop:=
 ∃v b,a.os=s.os/\fw a.gens/\Un (frs cf) [] H b s.heap a.heap/\nj P w b a.heap/\dg v u/\Q v b
def CR(CX:CXT)(cf:List Env)(P:aB)(w:aw)(H:Hp)(s:af)(Q:VK)(E:XK)(r:fT)(a:af):Prop:=
 match r with
 |.ok (.ret u)=>CE cf P w H s Q u a
 |.ok _=>False
 |.error e=>CX cf H s E e a
structure zi(P:aB)(w:aw)(K:av)(mg:Str->Option aa)(b1:Heap)(CX:CXT)(k:Nat)(f:Addr)(fd:bU)(ps:aC)(sp:Sp):Prop where
 len:∀vs H Q E,sp vs H Q E->vs.length=ps.length
 run:∀(A:aG) (cf:List Env) (s:af) (H:Hp) (args:Args) (us:List aa) (vs:bA) (Q:VK) (E:XK),xj k A->Ox P w K mg b1 A cf s H->il s fd args (ps.zip us)->de vs us->sp vs H Q E->
  cz (model P w) A (.call (.ref f) args) (CR CX cf P w H s Q E) s
theorem zi.mono{P:aB}{w:aw}{K:av}{b:Str->Option aa}{b1:Heap}{CX:CXT}{j k:Nat}{f:Addr}{a:bU}{c:aC}{d:Sp}(F:zi P w K b b1 CX j f a c d)(h:j<=k):
  zi P w K b b1 CX k f a c d:=⟨F.len,λA cf s H args i l Q E e=>F.run A cf s H args i l Q E (e.mono h)⟩
theorem zi.imp{P:aB}{w:aw}{K:av}{d:Str->Option aa}{b1:Heap}{CX:CXT}{k:Nat}{f:Addr}{c:bU}{ps:aC}{e b:Sp}(F:zi P w K d b1 CX k f c ps e)
  (h:∀a H Q E,b a H Q E->e a H Q E):zi P w K d b1 CX k f c ps b:=
 ⟨λa H Q E q=>F.len a H Q E (h _ _ _ _ q),λA cf s H args p a Q E l j i o m=>F.run A cf s H args p a Q E l j i o (h _ _ _ _ m)⟩
def Ox.make{P:aB}{w:aw}{K:av}{a:Str->Option aa}{b1:Heap}{A:aG}{cf:List Env}{s:af}{H:Hp}(e:Ox P w K a b1 A cf s H)(C:Addr)(c:List aa)(b:List (Str×aa)):
  Ox P w K a b1 (A.under (.builtin "type.__call__" ⟨.ref C::c,b⟩)) cf s H:=⟨by first|exact e.frames|(simpa [m9,Code.envs,ng,pushEnvs]using e.frames),e.xo,e.bs,e.bsz,e.p?,e.frf,e.er,e.gi⟩
section
variable{X:Cx}{pins:cE}{σ:St}{H:Hp}{s s':af}
def cb.env0(I:cb X pins σ H s):Ox X.prog X.w X.K X.mg X.b1 X.A X.stack s H:=
 ⟨I.ok.frames,I.ok.xo,I.bs,bC I.ok.bsz I.sz,I.stack,I.T',I.er,I.gi⟩
def cb.after(I:cb X pins σ H s)(h:CE X.stack X.prog X.w H s Q u s'):EP X pins σ Q u s':=by obtain⟨v,c,os,gi,un,er,r,q⟩:=h;obtain⟨e,g,d,t,a⟩:=s';obtain rfl:a=s.os:=os;exact⟨v,c,I.call (h':=e) (g':=g) (d':=d) (t':=t) (ch:=[]) un er gi (λb z=>ar z (by simp)),r,q⟩
end
def E5(b:Sp)(dvs:bA)(E:XK)(t:TA):TE:=λd H Q=>t d H λc a=>b (c++dvs) a Q E
def YI(C:Addr)(d:Sp)(dvs:bA)(E:XK)(t:TA):TE:=λf H Q=>t f H λe b=>∀x a,b x=O->b a=O->a≠x->
 d (.ref x::(e++dvs)) (eg (eg b a (.fl x)) x (.ka C a [])) (λv c=>v=.J/\Q (.ref x) c) E
def jj(K:av)(d:bU)(c:aC)(b:List aa):Prop:=
 ∀(s:af) (a:List aa),K.In s.heap->(a++b).length=c.length->il s d ⟨a,[]⟩ (c.zip (a++b))
def jj.all{K:av}{c:bU}{b:aC}(h:∀a:List aa,a.length=b.length->bindArgs c ⟨a,[]⟩=pure (b.zip a)):jj K c b []:=λs a y d=>by rw[bT]at d ⊢;exact .of_eq (h a d)
def mu(CX:CXT)(X:Cx)(E:XK):Prop:=∀(a:cE) (c:St) (H:Hp) (s:af) (e:aa) (b:af),cb X a c H s->CX X.stack H s E e b->X.xe e b
section
variable{X:Cx}{CX:CXT}{k:Nat}{f C:Addr}{fd:bU}{ps:aC}{sp:Sp}{dvs:bA}{ds:List aa}{E:XK}{x m:Str}{p pos apos:Pos}{e o:Expr}{es:List Expr}{ta:TE}{t:TA}
theorem LK(F:zi X.prog X.w X.K X.mg X.b1 CX k f fd ps sp)(q:xj k X.A)(j:jj X.K fd ps ds)(hd:de dvs ds)(y:mu CX X E)
  (I:cb X a d H s) (r:de vs us) (h:sp (vs++dvs) H Q E):ah (model X.prog X.w) X.A (call (.ref f) us) (EP X a d Q) X.xe s:=by
 have c:de (vs++dvs) (us++ds):=r.append hd;have l:(us++ds).length=ps.length:=by rw[<-c.length];exact F.len _ _ _ _ h
 refine kq (hE (F.run X.A X.stack s H ⟨us,[]⟩ (us++ds) (vs++dvs) Q E q I.env0 (j s us I.kx l) c h) λr z b=>?_);cases r with
 |error e=>exact y a d H s e z I b
 |ok i=>
  cases i with
  |ret u=>exact I.after b
  |next=>exact c7 b
  |brk=>exact c7 b
  |cont=>exact c7 b
def IF(F:zi X.prog X.w X.K X.mg X.b1 CX k f fd ps sp)(B:xj k X.A)(u:Gl X x)(z:X.mg x=Z (.ref f))(y:eB X.K (.ref f)=γ)(j:jj X.K fd ps ds)(hd:de dvs ds)(G:mu CX X E)
  (i:PA X (e::es) t) (b:(x==("__debug__" : Str))=δ:=by decide) (l:az (e::es) X.b3=(δ,eval e X.b3)::az es X.b3:=by rfl) (hpl:(bG pos (az es X.b3)).any (·.1)=δ:=by rfl):
  PE X (.Call (.Name x p) (e::es) [] pos) (E5 sp dvs E t):=by
 intro a s M H Q I h;refine dS (E3 I u z ?_ b);refine nh (h₀:=X.b1) I.ok.xo.kin y (e0 (i pos a s M H _ I h) λR P ⟨S,N,c,r,q⟩=>⟨c.kx,?_⟩) l hpl;exact LK F B j hd G c r q
def S9(F:zi X.prog X.w X.K X.mg X.b1 CX k f fd ps sp)(l:xj k X.A)(d:Gl X x)(j:X.mg x=Z (.ref f))(i:eB X.K (.ref f)=γ)(c:jj X.K fd ps ds)(hd:de dvs ds)(q:mu CX X E)
  (a:(x==("__debug__" : Str))=δ:=by decide):PE X (.Call (.Name x p) [] [] pos) (E5 sp dvs E Kl):=by
 intro b s u H Q I h;refine dS (E3 I d j ?_ a);exact mU I.kx i (LK (us:=[]) F l c hd q I .nil h)
structure Mk(K:av)(C f:Addr):Prop where
 S3:nQ K C=γ
 init:cW K (.ref C) "__init__" = Z (Z (.ref f))
 fn:kC K (.ref f)=γ
 kp:eB K (.ref C)=γ
theorem Ta(M:Mk X.K C f)(F:zi X.prog X.w X.K X.mg X.b1 CX k f fd ps sp)(T:xj (k+1) X.A)(R:jj X.K fd ps ds)(hd:de dvs ds)
  (U:mu CX X E) (I:cb X b y H s) (r:de q c)
  (h:∀x i,H x=O->H i=O->i≠x->sp (.ref x::(q++dvs)) (eg (eg H i (.fl x)) x (.ka C i [])) (λv B=>v=.J/\Q (.ref x) B) E):
  ah (model X.prog X.w) X.A (call (.ref C) c) (EP X b y Q) X.xe s:=by
 have j:=h (s.heap.objs.size+1) s.heap.objs.size (I.er.fresh (ja _)) (I.er.fresh (aJ _)) (aT (dG _));have d:=cb.made (C:=C) I;have l:de (V.ref (s.heap.objs.size+1)::(q++dvs)) (Value.ref (s.heap.objs.size+1)::(c++ds)):=.cons J (r.append hd);have S:(Value.ref (s.heap.objs.size+1)::c++ds).length=ps.length:=by have e:=l.length;rw[F.len _ _ _ _ j]at e;exact e.symm
 refine kq (S6 (f:=f) I.kx M.S3 M.init (beq_iff_eq.mp M.fn) (hE (F.run _ X.stack _ _ ⟨Value.ref (s.heap.objs.size+1)::c,[]⟩ (Value.ref (s.heap.objs.size+1)::(c++ds)) _ _ E (T.make C c [])
  (d.env0.make C c []) (R _ (Value.ref (s.heap.objs.size+1)::c) d.kx S) l j) λr Y a=>?_))
 cases r with
 |error e=>exact U b y _ _ e Y d a
 |ok P=>
  cases P with
  |ret u=>obtain⟨v,z,G,W,N,q3⟩:=d.after a;subst N;exact⟨W,⟨V.ref (s.heap.objs.size+1),z,G,J,q3⟩⟩
  |next=>exact c7 a
  |brk=>exact c7 a
  |cont=>exact c7 a
def Wx(M:Mk X.K C f)(F:zi X.prog X.w X.K X.mg X.b1 CX k f fd ps sp)(z:xj (k+1) X.A)(u:Gl X x)(y:X.mg x=Z (.ref C))(j:jj X.K fd ps ds)(hd:de dvs ds)(B:mu CX X E)
  (i:PA X (e::es) t) (b:(x==("__debug__" : Str))=δ:=by decide) (l:az (e::es) X.b3=(δ,eval e X.b3)::az es X.b3:=by rfl) (hpl:(bG pos (az es X.b3)).any (·.1)=δ:=by rfl):
  PE X (.Call (.Name x p) (e::es) [] pos) (YI C sp dvs E t):=by
 intro a s G H Q I h;refine dS (E3 I u y ?_ b);refine nh (h₀:=X.b1) I.ok.xo.kin M.kp (e0 (i pos a s G H _ I h) λR P ⟨S,N,c,r,q⟩=>⟨c.kx,?_⟩) l hpl;exact Ta M F z j hd B c r q
end
structure xl(N P:aC)(sc:cQ):Prop where
 kind:sc.kind=.function
 co:sc.isCoroutine=δ
 nr:sc.isGenerator=δ
 nd:N.Nodup
 pre:N.take P.length=P
 par:∀x∈P,sc.names.lookup x=Z .local\/sc.names.lookup x=Z .cell
 nofree:∀y∈sc.names,y.2≠.free
theorem KF{kindOf:Str->Option eC}{x:Str}:∀{oe:List (Str×aa)} {m:Str->Option aa},(∀v,(x,v)∉oe)->bindL kindOf oe m x=m x
 |[],_,_=>rfl
 |(n,v)::r,m,h=>by
  unfold bindL;rw[KF λw a=>h w (bc _ a)];split
  .have:x≠n:=by rintro rfl;exact h v ba
   simp[this]
  .rfl
theorem KG{kindOf:Str->Option eC}{x:Str}:∀{oe:List (Str×aa)} {m:Str->Option aa},(∀v,(x,v)∉oe)->bindC kindOf oe m x=m x
 |[],_,_=>rfl
 |(n,v)::r,m,h=>by
  unfold bindC;rw[KG λw a=>h w (bc _ a)];split
  .rfl
  .have:x≠n:=by rintro rfl;exact h v ba
   simp[this]
theorem KH{kindOf:Str->Option eC}{x:Str}{v:aa}:∀{P:aC} {a:List aa} {i:Nat} {m:Str->Option aa},P.Nodup->P[i]?=Z x->a[i]?=Z v->kindOf x=Z .local->
  bindL kindOf (P.zip a) m x=Z v
 |[],_,_,_,_,h,_,_=>by simp at h
 |_::_,[],_,_,_,_,h,_=>by simp at h
 |p::P,w::a,0,m,e,b,c,d=>by simp at b c;subst b;subst c;show bindL kindOf ((p,w)::P.zip a) m p=_;unfold bindL;rw[KF λv f=>(dv.1 e).1 (jY f).1,aj d];simp
 |p::P,w::a,i+1,m,e,b,c,d=>by show bindL kindOf ((p,w)::P.zip a) m x=_;unfold bindL;exact KH (i:=i) (dv.1 e).2 (by simpa using b) (by simpa using c) d
theorem KI{kindOf:Str->Option eC}{x:Str}{v:aa}:∀{P:aC} {a:List aa} {i:Nat} {m:Str->Option aa},P.Nodup->P[i]?=Z x->a[i]?=Z v->kindOf x≠Z .local->
  bindC kindOf (P.zip a) m x=Z v
 |[],_,_,_,_,h,_,_=>by simp at h
 |_::_,[],_,_,_,_,h,_=>by simp at h
 |p::P,w::a,0,m,e,b,c,d=>by simp at b c;subst b;subst c;show bindC kindOf ((p,w)::P.zip a) m p=_;unfold bindC;rw[KG λv f=>(dv.1 e).1 (jY f).1,ak d];simp
 |p::P,w::a,i+1,m,e,b,c,d=>by show bindC kindOf ((p,w)::P.zip a) m x=_;unfold bindC;exact KI (i:=i) (dv.1 e).2 (by simpa using b) (by simpa using c) d
def start(N:aC)(a:bA):St:=a.map Z++b0 (N.length - a.length) O
def MR(CX:CXT)(P:aB)(w:aw)(K:av)(mg:Str->Option aa)(b1:Heap)(N:aC)(qual:Str)(scope:cQ)(f:Addr)(b:aa)(A:aG)(cf:List Env)(s:af)(H:Hp)(E:XK):Cx where
 prog:=P
 w:=w
 K:=K
 mg:=mg
 b1:=b1
 A:=A.deeper (envOfC qual scope s.heap.objs.size f b)
 N:=N
 s₀:=s
 H₀:=H
 b3:=envOfC qual scope s.heap.objs.size f b
 cf:=cf
 stack:=envOfC qual scope s.heap.objs.size f b::cf
 ex:=[]
 j0:=γ
 fn:=λy=>γ
 pn:=[]
 xe:=λe d=>ah (model P w) (A.deeper (envOfC qual scope s.heap.objs.size f b)) (leaving (envOfC qual scope s.heap.objs.size f b) e) (λy a=>CX cf H s E e a) (λc a=>CX cf H s E c a) d
def MS{a:cQ}(h:a.names.lookup x=Z .cell):∃c,(cellsFrom n a.names []).lookup x=Z c:=by have q:=qb a.names n [] (.inl h);exact Option.isSome_iff_exists.1 q
def Rt{CX:CXT}{P:aB}{w:aw}{K:av}{G:Str->Option aa}{b1:Heap}{N m:aC}{qual:Str}{scope:cQ}{f:Addr}{B:aa}{A:aG}{cf:List Env}{s R:af}{H:Hp}{E:XK}{I:List aa}{o:bA}
  (S:xl N m scope) (hd:A.handled=O) (j:Ox P w K G b1 A cf s H) (X:o.length=m.length) (r:de o I)
  (x:InCallC s s.heap.objs.size (bindL (envOfC qual scope s.heap.objs.size f B).kindOf (m.zip I) λ_=>O) (cellsFrom (s.heap.objs.size+1) scope.names []) (bindC (envOfC qual scope s.heap.objs.size f B).kindOf (m.zip I) λ_=>O) R):
  cb (MR CX P w K G b1 N qual scope f B A cf s H E) [] (start N o) H R:=by
 have hpl:m.length<=N.length:=by have:=bw cK S.pre;rw[bZ]at this;omega
 obtain⟨C,Y,rfl,M⟩:=x.done;have noA:∀b:Addr,b∉(MR CX P w K G b1 N qual scope f B A cf s H E).ex:=λb z=>ar (show b∈([]:List Addr) from z) (by simp);refine⟨⟨j.xo,S.kind,J,J,aJ _,λy z c C d=>?_,λy l=>?_,λy c _ h=>?_,λ_=>hd,Around.frames_deeper j.frames,.inr ⟨J,J⟩,λb z=>ar z (noA b),j.bs,j.bsz,λb _ _=>noA b,λb z=>ar z (noA b),j.p?,j.frf⟩,
  rfl,j.gi,Un.fc M,⟨_,x.toInCall.ns,λi y v C d W=>?_⟩,λy c h=>⟨_,x.cell y c h⟩,j.er.fresh (aJ _),λy c h=>?_,λp t=>ar (show p∈([]:cE) from t) (by simp),j.er.fc M,?_⟩
 .exact name_of_addr x.apart (iG C) (iG d)
 .have l:scope.names.lookup y=Z .cell\/scope.names.lookup y=Z .free:=l;rcases l with l|l
  .exact MS l
  .exact ar J (S.nofree _ (iG l))
 .exact gx (x.above y c (iG h))
 .have F:i<o.length:=by
   unfold start at d;by_cases F:i<o.length
   .exact F
   .rw[fY (by simpa using F)]at d;rw[jD]at d;split at d<;>cases d
  have T:o[i]?=Z v:=by
   unfold start at d;rw[fZ (by simpa using F),bx]at d;cases e:o[i]? with
   |none=>rw[e]at d;cases d
   |some a=>rw[e]at d;cases d;rfl
  obtain⟨u,Q,U⟩:=r.get T;have t:m[i]?=Z y:=by rw[<-S.pre,List.getElem?_take_of_lt (by omega)];exact C
  have ndP:m.Nodup:=by rw[<-S.pre];exact S.nd.sublist (iO _ _)
  refine⟨u,U,?_⟩;rcases S.par y (bL t)with k|k
  .exact .inl ⟨k,KH ndP t Q k⟩
  .obtain⟨c,e⟩:=MS (n:=s.heap.objs.size+1) k;refine .inr ⟨.inl k,c,e,?_⟩;have q:=x.cell y c e;rw[KI ndP t Q (by show scope.names.lookup y≠_;rw[k];decide)]at q;exact q
 .exact j.er.fresh (gx (x.above y c (iG h)))
 .unfold start;show _=N.length;rw[aE,ag,c5];omega
def YJ{CX:CXT}{P:aB}{w:aw}{K:av}{l:Str->Option aa}{b1:Heap}{k:Nat}{f:Addr}{name qual:Str}{params:Arguments}{body:List Stmt}{scope:cQ}{dV kV doc M cdv G oc:aa}{F od:Option Addr}
  {osl:Array (Option aa)} {N m:aC} {C:Sp} (lk:K.lookup f=Z ⟨oc,od,.func (fA name qual params body scope dV kV doc M F cdv G),osl⟩) (hcd:ie K cdv qual=γ) (S:xl N m scope)
  (len:∀a H Q E,C a H Q E->a.length=m.length)
  (hbody:∀(A:aG) (cf:List Env) (s:af) (H:Hp) (a:bA) (Q:VK) (E:XK),xj k (A.deeper (envOfC qual scope s.heap.objs.size f cdv))->C a H Q E->
   ∃t,k? (MR CX P w K l b1 N qual scope f cdv A cf s H E) body t/\t { nx:=λ_ h=>Q .J h,rt:=Q } (start N a) H):
  zi P w K l b1 CX (k+1) f (fA name qual params body scope dV kV doc M F cdv G) m C:=by
 refine⟨len,λA cf s H args us a Q E p j U r hsp=>?_⟩;have Y:=len _ _ _ _ hsp;have KX:K.In s.heap:=j.xo.kin.keeps λb o e=>(j.bs b o e).1;have lim:s.heap.NoLimit:=j.xo.nolimit.keeps λb o e=>(j.bs b o e).1;have hkind:∀y∈m.zip us,scope.names.lookup y.1=Z .local\/(scope.names.lookup y.1=Z .cell/\((cellsFrom (s.heap.objs.size+1) scope.names []).lookup y.1).isSome=γ):=λ⟨n,v⟩ hy=>by
  rcases S.par n (jY hy).1 with q|q
  .exact .inl q
  .exact .inr ⟨q,qb _ _ _ (.inl q)⟩
 refine codeAny_call_function p.depth (KX _ _ lk) J S.co S.nr J (W.codeRec_of KX hcd) (U _ _ _ _ ?_);refine wpAny_newFunctionEnv_cells S.kind hkind λb3 X R x=>?_;subst X;refine⟨lim.keeps x.toInCall.keep,codeAny_func ?_⟩;obtain⟨t,ht,hq⟩:=hbody A cf s H a Q E (p.deeper _) hsp;have I:cb (MR CX P w K l b1 N qual scope f cdv A cf s H E) [] (start N a) H R:=Rt S p.hd j Y r x;refine cq (ht [] R (start N a) H _ I hq) (λT B i=>?_) λe B i=>i;have fin:∀{c:St} {h:Hp} {v:V} {u:aa},cb (MR CX P w K l b1 N qual scope f cdv A cf s H E) [] c h B->dg v u->Q v h->CE cf P w H s Q u B:=
  λ{c h v u} d z q=>⟨v,h,d.os,d.gi,d.b1,d.er,z,q⟩
 cases T with
 |ret u=>obtain⟨v,c,h,d,z,q⟩:=i;exact fin d z q
 |next=>obtain⟨c,h,d,q⟩:=i;exact fin (v:=V.J) (u:=Value.none) d J q
 |brk=>obtain⟨_,_,_,q⟩:=i;exact c7 q
 |cont=>obtain⟨_,_,_,q⟩:=i;exact c7 q
section
variable{X:Cx}{x:Str}{p pos:Pos}{e:Expr}{es:List Expr}{t:TA}{id T:String}{r:bA->Hp->VK->Prop}
def Z'(r:bA->Hp->VK->Prop)(t:TA):TE:=λc H Q=>t c H λb a=>r b a Q
def Bw(j:wM X (.builtin id) r)(m:Gl X x)(o:X.mg x=O)(u:d9 x=Z (.builtin id))(i:PA X (e::es) t)(q:x≠"__name__" := by decide)(b:(x==("__debug__" : Str))=δ:=by decide)
  (l:az (e::es) X.b3=(δ,eval e X.b3)::az es X.b3:=by rfl) (hpl:(bG pos (az es X.b3)).any (·.1)=δ:=by rfl):PE X (.Call (.Name x p) (e::es) [] pos) (Z' r t):=by
 intro a s c H Q I h;refine dS (Be I m o u ?_ q b);exact callWith_builtin1 (e0 (i pos a s c H _ I h) λA z ⟨B,d,f,y,w⟩=>j a z c d B A Q f y w) l hpl
def Ru(j:wM X (.type T) r)(m:Gl X x)(o:X.mg x=O)(u:d9 x=Z (.type T))(i:PA X (e::es) t)(q:x≠"__name__" := by decide)(b:(x==("__debug__" : Str))=δ:=by decide)
  (l:az (e::es) X.b3=(δ,eval e X.b3)::az es X.b3:=by rfl) (hpl:(bG pos (az es X.b3)).any (·.1)=δ:=by rfl):PE X (.Call (.Name x p) (e::es) [] pos) (Z' r t):=by
 intro a s c H Q I h;refine dS (Be I m o u ?_ q b);exact callWith_type1 (e0 (i pos a s c H _ I h) λA z ⟨B,d,f,y,w⟩=>j a z c d B A Q f y w) l hpl
end
end L2
namespace HT
open PySem PyProof.Rows
section
variable{prog:aB}{w:aw}{A:aG}{E:aa->af->Prop}{s:af}
def WA{vs ws:List aa}(q:eD s.heap t vs.toArray)(hb:eD s.heap b ws.toArray)(o:vs≠[])
  (h1:ws=[]->Q (.ref t) s) (h2:ws≠[]->Q (.ref s.heap.objs.size) { s with heap:=s.heap.push { cls:=.type "tuple", data:=.seq (vs++ws).toArray } })
  (j:vs.length+ws.length<=aF):ah (model prog w) A (cO .Add (.ref t) (.ref b)) Q E s:=by
 obtain⟨⟨cls,l,data,sl⟩,i,m,n,hd⟩:=id q;obtain⟨⟨cls2,c,data2,h⟩,a,d,p,f⟩:=id hb;simp only at m hd d f;subst m hd d f;have e:vs.toArray++ws.toArray=(vs++ws).toArray:=by simp
 by_cases hw:ws=[]
 .exact concat_meets ⟨_,i,J⟩ ⟨_,a,J⟩ qc qY qd pK (px _ _)
   (tuple_addW1 t b vs.toArray ws.toArray n p l c sl h (by simpa using o) (by simp[hw])) ⟨i,a,h1 hw⟩
 .refine concat_meets ⟨_,i,J⟩ ⟨_,a,J⟩ qc qY qd pK (px _ _)
   (tuple_addW2 t b vs.toArray ws.toArray n p l c sl h (by simpa using o) (by simpa using hw) (by rw[bb,bb];exact j)) ⟨i,a,?_⟩
  rw[e];exact h2 hw
def fm(n d:Nat):Option Int->Nat
 |none=>d
 |some v=>if v<0 then (v+(n:Int)).toNat else min v.toNat n
def MU(n d:Nat):fm n d O=d:=rfl
def PN(n d k:Nat):fm n d (Z (k:Int))=min k n:=by show (if (k:Int)<0 then ((k:Int)+(n:Int)).toNat else min (k:Int).toNat n)=min k n;rw[ak (by omega),gj]
def Z0(n d:Nat)(hd:d<=n)(o:Option Int):fm n d o<=n:=by
 cases o with
 |none=>exact hd
 |some v=>
  show (if v<0 then (v+(n:Int)).toNat else min v.toNat n)<=n;by_cases a:v<0
  .rw[aj a];omega
  .rw[ak a];exact qe _ _
def PQ(v:Int)(n d:Nat):(if v<0 then max (v+(n:Int)) 0 else min v (n:Int))=((fm n d (Z v):Nat):Int):=by
 show (if v<0 then max (v+(n:Int)) 0 else min v (n:Int))=(((if v<0 then (v+(n:Int)).toNat else min v.toNat n):Nat):Int);by_cases a:v<0
 .simp only[aj a];omega
 .simp only[ak a];omega
def Oy(lo a:Option Int)(n:Nat):lu lo a 1 (n:Int)=(((fm n 0 lo:Nat):Int),((fm n n a:Nat):Int)):=by
 have b:¬((1:Int)<0):=by omega
 unfold lu;simp only[b,if_false];refine r9 ?_ ?_
 .cases lo with
  |none=>rfl
  |some v=>exact PQ v n 0
 .cases a with
  |none=>rfl
  |some v=>exact PQ v n n
def Oz(i j:Nat):jz (i:Int) (j:Int) 1=j - i:=by
 unfold jz;have a:(1:Int) > 0:=by omega
 simp only[a,if_true,Int.ediv_one];split<;>omega
def IV(p:fU v o)(h:Q o s):ah (model prog w) A (sN v) Q E s:=by
 cases p with
 |none=>exact qL h
 |int i t=>exact slicePart_int h
def Gp{d:Addr}{b c:aa}{lo a:Option Int}{n:Nat}{Q:Int×Int×Nat->af->Prop}(e:s.heap.IsSliceOf d b c .none)(pl:fU b lo)(f:fU c a)
  (h:Q (((fm n 0 lo:Nat):Int),1,fm n n a - fm n 0 lo) s):ah (model prog w) A (oq (.ref d) (pure (n:Int))) Q E s:=by
 obtain⟨os,hos,hcs,hds⟩:=id e;unfold oq tE;refine ae (ae (cM hos hds (x:=b) J (ae (cM hos hds (x:=c) J (ae (cM hos hds (x:=.none) J (aq ?_)))))));refine ae (qL ?_);show ah _ _ (if ((1:Int)==0)=γ then _ else _) _ _ s;rw[ak (by decide)];refine ae (IV pl (ae (IV f (ae (aq ?_)))));show ah _ _ (match lu lo a 1 (n:Int)with|(lo,a)=>pure (lo,(1:Int),jz lo a 1)) _ _ s;rw[Oy lo a n];show ah _ _ (pure (((fm n 0 lo:Nat):Int),(1:Int),jz ((fm n 0 lo:Nat):Int) ((fm n n a:Nat):Int) 1)) _ _ s;rw[Oz];exact aq h
def Tc(a:Array aa)(i k:Nat):((bf k).filterMap λ(m:Nat)=>a[((i:Int)+(m:Int) * 1).toNat]?).toArray=((a.toList.drop i).take k).toArray:=by
 have e:(λ(m:Nat)=>a[((i:Int)+(m:Int) * 1).toNat]?)=λm=>a[i+m]?:=by
  funext m
  have:((i:Int)+(m:Int) * 1).toNat=i+m:=by omega
  rw[this]
 rw[e];have:=pick_run a i k;rw[List.filterMap_map]at this;have b:((λx=>a[x]?)∘λx=>i+x)=λm=>a[i+m]?:=rfl;rw[b]at this;rw[this]
def E6{t sl:Addr}{items:Array aa}{b c:aa}{lo hi:Option Int}{Q:aa->af->Prop}(a:eD s.heap t items)(hs:s.heap.IsSliceOf sl b c .none)(pl:fU b lo)(e:fU c hi)
  (hw:¬(fm items.size 0 lo=0/\fm items.size items.size hi=items.size))
  (h:Q (.ref s.heap.objs.size) { s with heap:=s.heap.push { cls:=.type "tuple", data:=.seq ((items.toList.drop (fm items.size 0 lo)).take (fm items.size items.size hi - fm items.size 0 lo)).toArray } })
  (d:items.size<=aF):ah (model prog w) A (getItem (.ref t) (.ref sl)) Q E s:=by
 have htake:sizeOk (.seq ((items.toList.drop (fm items.size 0 lo)).take (fm items.size items.size hi - fm items.size 0 lo)).toArray):=by show ((items.toList.drop (fm items.size 0 lo)).take (fm items.size items.size hi - fm items.size 0 lo)).toArray.size<=aF;rw[bb,bZ,fI,bJ];omega
 have f:fm items.size items.size hi<=items.size:=Z0 _ _ (aJ _) hi;obtain⟨os,hos,hcs,hds⟩:=id hs;have hTs:s.TypeIs (.ref sl) "slice" := ⟨os,hos,hcs⟩;unfold getItem
 try with_reducible refine bK ?_
 first|refine ae (aq ?_)|skip
 refine ae (wpAny_sequenceKey a.typeIs (by decide) ?_);refine ae (f6 (name:=i6 "__getitem__") a.typeIs jx
  (dt jx a.typeIs entry_tuple_getitem ?_ (args_tuple_getitem _ _)))
 show ah _ _ (sQ (.ref t)>>=_) _ _ s;refine ae (tupleItemsOf_ a ?_);refine ae (hG hTs ?_);rw[aj (by decide)];refine ae (Gp hs pl e ?_);have hno:¬((((fm items.size 0 lo:Nat):Int)==0&&(1:Int)==1&&(fm items.size items.size hi - fm items.size 0 lo)==items.size)=γ):=by intro q;rw[aU,aU]at q;have i:((fm items.size 0 lo:Nat):Int)=0:=fR q.1.1;have j:fm items.size items.size hi - fm items.size 0 lo=items.size:=fR q.2;exact hw ⟨by omega,by omega⟩
 show ah _ _ (if (((fm items.size 0 lo:Nat):Int)==0&&(1:Int)==1&&(fm items.size items.size hi - fm items.size 0 lo)==items.size)=γ then _ else _) _ _ s;rw[ak hno,Tc]
 first
  |exact ae (m:=jC _) (dj (aq ⟨_,J,aq h⟩) htake)
  |exact ae (m:=jC _) (dj (ae (aq (aq ⟨_,J,aq h⟩))) htake)
  |exact ae (ae (m:=jC _) (dj (aq (aq ⟨_,J,aq h⟩)) htake))
  |exact ae (ae (m:=jC _) (dj (aq ⟨_,J,aq h⟩) htake))
end
end HT
namespace L2
open PySem PySem.Spec PyProof.Rows
abbrev TO:=St->Hp->(Option Int->Hp->Prop)->Prop
def PO(X:Cx)(e:Option Expr)(t:TO):Prop:=
 ∀(a:cE) (s:af) (b:St) (H:Hp) (Q:Option Int->Hp->Prop),cb X a b H s->t b H Q->
  ah (model X.prog X.w) X.A (evalPart e X.b3) (λu d=>∃o c,cb X a b c d/\fU u o/\Q o c) X.xe s
def WB:TO:=λy H Q=>Q O H
def adD(t:TE):TO:=λb H Q=>t b H λx a=>∃i,x=.int i/\Q (Z i) a
section
variable{X:Cx}{e:Expr}{te:TE}{lo hi:Option Expr}{tl th:TO}{pos p2:Pos}
def PR:PO X O WB:=by intro a s b H Q I h;rw[qZ];exact aq ⟨O,H,I,.none,h⟩
def PU(h:PE X e te):PO X (Z e) (adD te):=by intro a s l H Q I d;rw[evalPart_some];refine e0 (h a s l H _ I d) λu m zz=>?_;obtain⟨x,b,c,j,f⟩:=zz;obtain⟨i,rfl,q⟩:=f;obtain⟨t,rfl⟩:=j;exact⟨Z i,b,c,.int i t,q⟩
def SlR(X:Cx)(r:V->Option Int->Option Int->Hp->VK->Prop):Prop:=
 ∀(a:cE) (s:af) (f:St) (H:Hp) (x:V) (v c d:aa) (lo hi:Option Int) (b:Addr) (Q:VK),cb X a f H s->dg x v->s.heap.IsSliceOf b c d .none->fU c lo->fU d hi->r x lo hi H Q->
  ∃T id,typeLookup (.type T) "__getitem__" = pure (Z (.builtin id))/\s.TypeIs v T/\ah (model X.prog X.w) X.A (getItem v (.ref b)) (EP X a f Q) X.xe s
def tSl(r:V->Option Int->Option Int->Hp->VK->Prop)(te:TE)(tl th:TO):TE:=λa H Q=>te a H λx b=>tl a b λl c=>th a c λu d=>r x l u d Q
def MV(hr:SlR X r)(p:PE X e te)(t:PO X lo tl)(z:PO X hi th):PE X (.Subscript e (.Slice lo hi O p2) pos) (tSl r te tl th):=by intro pins s σ H Q I h;refine nI (e0 (p pins s σ H _ I h) λv F zz=>?_);obtain⟨x,H1,i,r1,C⟩:=zz;refine wpAny_Slice (e0 (t pins F σ H1 _ i C) λc s2 ⟨l,H2,j,pl,E⟩=>e0 (z pins s2 σ H2 _ j E) λd a zz=>?_);obtain⟨u,f,m,B,q3⟩:=zz;rw[qZ];refine aq ?_;have o:cb X pins σ f { a with heap:=a.heap.push { cls:=.type "slice", data:=.fields #[c,d,.none] } }:=m.fc (t':=a.toks) λb ob q=>aA _ q;obtain⟨T,id,hT,y,hg⟩:=hr pins { a with heap:=a.heap.push { cls:=.type "slice", data:=.fields #[c,d,.none] } } σ f x v c d l u a.heap.objs.size Q o r1 (uD ..) pl B q3;show ah (model X.prog X.w) X.A (subscriptTail e (.Slice lo hi O p2) v (.ref a.heap.objs.size)) (EP X pins σ Q) X.xe { a with heap:=a.heap.push { cls:=.type "slice", data:=.fields #[c,d,.none] } };exact tail_any (ops:=[.ref a.heap.objs.size,v]) y hT hg (by with_unfolding_all rfl)
def MW(a:bA)(lo hi:Option Int):bA:=(a.drop (HT.fm a.length 0 lo)).take (HT.fm a.length a.length hi - HT.fm a.length 0 lo)
def G5(a:bA)(lo hi:Option Int):(MW a lo hi).length<=a.length:=by unfold MW;rw[bZ,fI];omega
def Z1(K:av):V->Option Int->Option Int->Hp->VK->Prop:=λx lo hi H Q=>∃a b,x=.ref a/\e? K H a b/\
 ¬(HT.fm b.length 0 lo=0/\HT.fm b.length b.length hi=b.length)/\∀p,H p=O->Q (.ref p) (eg H p (.c4 (MW b lo hi)))
def Z2:SlR X (Z1 X.K):=by
 intro l s E H x v B C lo hi z Q I w m pl u h;obtain⟨a,d,rfl,t,p,q⟩:=h;cases w;obtain⟨f,r,i,j⟩:=I.tuple t;have c:f.toArray.size=d.length:=by rw[bb];exact r.length.symm
 refine⟨"tuple", _,jx.lookup,i.typeIs,?_⟩;refine HT.E6 i m pl u (by rw[c];exact p) ?_ (by rw[c];exact j);rw[c];refine⟨.ref s.heap.objs.size,_,I.laid (t':=s.toks) (o:=.c4 (MW d lo hi)) (λb y q=>aA _ q) (aJ _) ?_,J,q _ (I.er.fresh (aJ _))⟩;exact⟨bC (G5 d lo hi) j,_,(r.drop (HT.fm d.length 0 lo)).take (HT.fm d.length d.length hi - HT.fm d.length 0 lo),nR _ _,λo e=>by rw[aX _ J]at e;cases e;rfl⟩
def adE(K:av):R2:=λx y H Q=>∃a b d c,x=.ref a/\y=.ref b/\e? K H a d/\e? K H b c/\d≠[]/\d.length+c.length<=aF/\
 (c=[]->Q (.ref a) H)/\(c≠[]->∀p,H p=O->Q (.ref p) (eg H p (.c4 (d++c))))
def de.Dv(r:de b a):a=[] ↔ b=[]:=by
 cases r with
 |nil=>simp
 |cons _ _=>simp
def WC:fu X (cO .Add) (adE X.K):=by intro j s P H x y v u Q I C E h;obtain⟨a,b,F,G,rfl,rfl,l,m,p,f,A,B⟩:=h;cases C;cases E;obtain⟨r,d,t,_⟩:=I.tuple l;obtain⟨i,c,p2,_⟩:=I.tuple m;refine HT.WA t p2 (λz=>p (d.Dv.1 z)) (λz=>⟨.ref a,H,I,J,A (c.Dv.1 z)⟩) (λz=>?_) (by rw[<-d.length,<- c.length];exact f);refine⟨.ref s.heap.objs.size,_,I.laid (t':=s.toks) (o:=.c4 (F++G)) (λb M q=>aA _ q) (aJ _) ?_,J,B (λw=>z (c.Dv.2 w)) _ (I.er.fresh (aJ _))⟩;exact⟨by rw[aE];exact f,_,d.append c,nR _ _,λo e=>by rw[aX _ J]at e;cases e;rfl⟩
end
def ixN(n:Nat)(i:Int):Option Nat:=if 0<=i then (if i<n then Z i.toNat else O)else if -(n:Int)<=i then Z (i+n).toNat else O
def t?{b:Type}(a:List b)(i:Int):Option b:=(ixN a.length i).bind λj=>a[j]?
def PV(h:ixN n i=Z j):seqIndex? i n=Z j/\j<n/\-(n:Int)<=i/\i<n:=by
 unfold ixN at h;by_cases b:0<=i
 .rw[aj b]at h;by_cases a:i<n
  .rw[aj a]at h;have e:i.toNat=j:=cJ h;exact⟨by rw[nz b a,e],by omega,by omega,a⟩
  .rw[ak a]at h;cases h
 .rw[ak b]at h;by_cases a:-(n:Int)<=i
  .rw[aj a]at h;have e:(i+n).toNat=j:=cJ h;exact⟨by rw[ni (by omega) a,e],by omega,a,by omega⟩
  .rw[ak a]at h;cases h
def LL{b:Type}{a:List b}{i:Int}{v:b}(h:t? a i=Z v):∃j,seqIndex? i a.length=Z j/\a[j]?=Z v/\j<a.length/\-(a.length:Int)<=i/\i<a.length:=by
 unfold t? at h;cases e:ixN a.length i with
 |none=>rw[e]at h;cases h
 |some j=>rw[e]at h;obtain⟨c,d,f,l⟩:=PV e;exact⟨j,c,h,d,f,l⟩
def E7{b:Type}{a:List b}{j:Nat}{v:b}(h:a[j]?=Z v):t? a (j:Int)=Z v:=by
 have c:j<a.length:=(bX.1 h).1;have e:ixN a.length (j:Int)=Z j:=by unfold ixN;rw[aj (by omega),aj (by omega)];simp
 unfold t?;rw[e];exact h
def PX(b:Expr):Prop:=∀o i,subscripted b δ o i=operate [o,i] (getItem o i)
def χ(X:Cx)(r:R2):Prop:=
 ∀(value slice:Expr) (a:cE) (s:af) (b:St) (H:Hp) (x y:V) (v u:aa) (Q:VK),cb X a b H s->dg x v->dg y u->r x y H Q->
  subscripted slice δ v u=operate [v,u] (getItem v u)->ah (model X.prog X.w) X.A (subscriptTail value slice v u) (EP X a b Q) X.xe s
def MtR(X:Cx)(id:String)(r:V->bA->Hp->VK->Prop):Prop:=
 ∀(a:cE) (s:af) (d:St) (H:Hp) (x:V) (c:bA) (v:aa) (b:List aa) (Q:VK),cb X a d H s->dg x v->de c b->r x c H Q->
  ah (model X.prog X.w) X.A (call (.builtin id) (v::b)) (EP X a d Q) X.xe s
section
variable{X:Cx}{a b:Expr}{ta tb:TE}{pos:Pos}
def χ.or(h:χ X r)(j:χ X l):χ X (λx y H Q=>r x y H Q\/l x y H Q):=by
 intro value slice c s i H x y v u Q I e f q d;rcases q with q|q
 .exact h value slice c s i H x y v u Q I e f q d
 .exact j value slice c s i H x y v u Q I e f q d
def YK(j:χ X r)(f:PE X a ta)(i:PE X b tb)(l:PX b):PE X (.Subscript a b pos) (tOp r ta tb):=by intro c s t H Q I h;exact nI (ZC f i I h λv u p x y d e m o q=>j a b c p t d x y v u Q e m o q (l _ _))
def WE(K:av):R2:=λx y H Q=>∃p c i v,x=.ref p/\y=.int i/\fb K H p c/\t? c i=Z v/\Q v H
def rIxT(K:av):R2:=λx y H Q=>∃p c i v,x=.ref p/\y=.int i/\e? K H p c/\t? c i=Z v/\Q v H
def rIxS:R2:=λx y H Q=>∃z i c,x=.str z/\y=.int i/\z.length<=aF/\t? z.cps.toList i=Z c/\Q (.str ⟨#[c]⟩) H
def PY:χ X (WE X.K):=by
 intro value slice c s B H x y v u Q I P R h A;obtain⟨p,Y,i,z,rfl,rfl,N,G,q⟩:=h;cases P;obtain⟨t,rfl⟩:=R;obtain⟨f,r,pl,W⟩:=I.list N;obtain⟨j,d,C,T,E,F⟩:=LL G;obtain⟨w,m,l⟩:=r.get C;have M:=r.length;have U:=Gk;have fin:EP X c B Q w s:=⟨z,H,I,l,q⟩;by_cases o:0<=i
 .have e:i.toNat=j:=by rw[nz o F]at d;exact cJ d
  exact item_listR pl.isList o (by omega) (by rw[e];simpa using m) fin A
 .have e:(i+(f.toArray.size:Int)).toNat=j:=by rw[ni (by omega) E]at d;rw[bb,<- M];exact cJ d
  exact oI (x:=w) pl.isList.typeIs pL.lookup
   (wpAny_getItem_list_neg (Q:=λr S=>r=w/\EP X c B Q r S) pl.isList (by omega) (by rw[bb]<;>omega) (by omega) (by rw[e];simpa using m) ⟨J,fin⟩) A
def Z3:χ X (rIxT X.K):=by
 intro value slice c s e H x y v u Q I F G h C;obtain⟨p,U,i,z,rfl,rfl,B,o,q⟩:=h;cases F;obtain⟨t,rfl⟩:=G;obtain⟨E,r,pl,T⟩:=I.tuple B;obtain⟨j,l,m,N,P,R⟩:=LL o;obtain⟨w,f,d⟩:=r.get m;have A:=r.length;have S:=Gk;have fin:EP X c e Q w s:=⟨z,H,I,d,q⟩;exact oI (x:=w) pl.typeIs jx.lookup
  (getItem_tuple (j:=j) (Q:=λr M=>r=w/\EP X c e Q r M) pl (by omega) (by omega) (by rw[bb,<- A];exact l) (by simpa using f) ⟨J,fin⟩) C
def Z4:χ X rIxS:=by
 intro value slice e s N H x y v u Q I B C h A;obtain⟨z,i,c,rfl,rfl,G,r,q⟩:=h;obtain⟨t,rfl⟩:=B;obtain⟨M,rfl⟩:=C;obtain⟨j,d,m,E,o,p⟩:=LL r;have w:z.cps.toList.length=z.length:=by simp[Str.length]
 rw[w]at d o p;have F:=Gk;exact tail_any (typeIs_str s z t) slot_str_getitem.lookup (getItem_str (c:=c) (by
  have f:decide (i < -(2 ^ 63:Int))=δ:=bq (by omega);have l:decide (i >= 2 ^ 63)=δ:=bq (by omega);rw[f,l,Bool.or_false]) (by rw[d];simpa using m) ⟨.str ⟨#[c]⟩,H,I.pa _,⟨_,J⟩,q⟩) A
def rIx(K:av):R2:=λx y H Q=>WE K x y H Q\/rIxT K x y H Q\/rIxS x y H Q
def Z5:χ X (rIx X.K):=PY.or (Z3.or Z4)
def OA(c:List aa)(n j:Nat)(u:aa):c9 (·.setIfInBounds j u) { cls:=.type "list", data:=.seq c.toArray n }={ cls:=.type "list", data:=.seq (c.set j u).toArray n }:=by simp[c9]
theorem cb.b4{d:cE}{f:St}{H:Hp}{s:af}{p:Addr}{xs:bA}(I:cb X d f H s)(h:H p=Z (.b4 xs)):
  ∃(c:List aa) (n:Nat),de xs c/\s.heap.get? p=Z { cls:=.type "list", data:=.seq c.toArray n }/\xs.length<=aF:=by
 obtain⟨z,c,n,r,e⟩:=I.er p _ h;exact⟨c,n,r,e,z⟩
def cb.lstUpd{d c:List aa}(I:cb X pins σ H s)(h:H p=Z (.b4 xs))
  (l:s.heap.get? p=Z { cls:=.type "list", data:=.seq d.toArray n }) (hf:f { cls:=.type "list", data:=.seq d.toArray n }={ cls:=.type "list", data:=.seq c.toArray i }) (r:de j c) (m:j.length<=aF) (t:Nat):
  cb X pins σ (eg H p (.b4 j)) { s with heap:=s.heap.update p f,toks:=t }:=by
 have e:(s.heap.update p f).get? p=Z { cls:=.type "list", data:=.seq c.toArray i }:=by rw[eK f l (by rw[hf]<;>rfl),hf]
 refine I.rf (x:=p) (e:=p) (by rw[h];trivial) (.inl J) (λb u hb q=>(gH _ _ (dB hb)).t q) ⟨_,e⟩ ?_;exact⟨m,c,i,r,e⟩
def YL:V->V->V->Hp->(Hp->Prop)->Prop:=λo i v H Q=>∃p c k j,o=.ref p/\i=.int k/\H p=Z (.b4 c)/\ixN c.length k=Z j/\Q (eg H p (.b4 (c.set j v)))
def set_list:PSet X YL:=by
 intro pins s σ H o i v C B u Q I z y A h;obtain⟨p,xs,k,j,rfl,rfl,m,w,q⟩:=h;cases z;obtain⟨t,rfl⟩:=y;obtain⟨c,n,r,f,x⟩:=I.b4 m;obtain⟨h1,h2,h3,h4⟩:=PV w;have e:=r.length;have hn:=Gk;have l:cb X pins σ (eg H p (.b4 (xs.set j v))) { s with heap:=s.heap.update p (c9 (·.setIfInBounds j u)) }:=
  I.lstUpd m f (OA c n j u) (r.set A j) (by rw[eW];exact x) s.toks
 by_cases h0:0<=k
 .have d:k.toNat=j:=by rw[nz h0 h4]at h1;exact cJ h1
  exact W.ki_setAt f h0 (by omega) (by rw[bb,<- e];exact h4) (by rw[d];exact⟨_,l,q⟩)
 .have d:(k+(c.toArray.size:Int)).toNat=j:=by rw[ni (by omega) h3]at h1;rw[bb,<- e];exact cJ h1
  exact W.ki_setBack f (by omega) (by rw[bb,<- e];exact h3) (by omega) (by rw[d];exact⟨_,l,q⟩)
def YM(i:Int)(n d:Nat):max 0 (min (if i<0 then i+(n:Int)else i) n)=((HT.fm n d (Z i):Nat):Int):=by
 simp only[HT.fm];by_cases h:i<0
 .simp only[h,if_true]<;>omega
 .simp only[h,if_false]<;>omega
def LM(lo c:Option Int)(n:Nat):(sliceBounds lo c O n).1=((HT.fm n 0 lo:Nat):Int)/\(sliceBounds lo c O n).2.1=((HT.fm n n c:Nat):Int)/\(sliceBounds lo c O n).2.2=1:=by
 refine⟨?_,?_,J⟩
 .cases lo with
  |none=>simp[sliceBounds,HT.fm]
  |some i=>exact YM i n _
 .cases c with
  |none=>simp[sliceBounds,HT.fm]
  |some i=>exact YM i n _
def Km(c:List aa)(lo d:Option Int):slicePick c.toArray lo d O=((c.drop (HT.fm c.length 0 lo)).take (HT.fm c.length c.length d - HT.fm c.length 0 lo)).toArray:=by obtain⟨e,f,h⟩:=LM lo d c.toArray.size;unfold slicePick;rw[e,f,h];simp only[sliceRange_one,pick_run,bb]<;>rfl
def WG(K:av):V->Option Int->Option Int->Hp->VK->Prop:=λx lo d H Q=>∃a c,x=.ref a/\fb K H a c/\∀p,H p=O->Q (.ref p) (eg H p (.b4 (MW c lo d)))
def WH:SlR X (WG X.K):=by intro i s C H x v A B lo e y Q I u j pl t h;obtain⟨a,c,rfl,l,q⟩:=h;cases u;obtain⟨p,r,f,m⟩:=I.list l;have d:=r.length;refine⟨"list", _,pL.lookup,f.isList.typeIs,?_⟩;refine wpAny_getItem_list_slice f.isList j pl t .none (by simp) ?_ (by rw[bb]<;>omega);rw[Km,<- d];refine⟨.ref s.heap.objs.size,_,I.laid (t':=s.toks) (o:=.b4 (MW c lo e)) (λb w q=>aA _ q) (aJ _) ?_,J,q _ (I.er.fresh (aJ _))⟩;exact⟨bC (G5 c lo e) m,_,0,(r.drop (HT.fm c.length 0 lo)).take (HT.fm c.length c.length e - HT.fm c.length 0 lo),aX _ J⟩
def Ed:V->Bool
 |.J=>γ
 |.U _=>γ
 |.int _=>γ
 |.str _=>γ
 |_=>δ
def eqV:V->V->Bool
 |.J,.J=>γ
 |.U a,.U b=>a==b
 |.U a,.int b=>(if a then 1 else 0)==b
 |.int a,.U b=>a==(if b then 1 else 0)
 |.int a,.int b=>a==b
 |.str a,.str b=>a==b
 |_,_=>δ
def IW(f:dg y u)(c:dg x v)(h:Ed y=γ)(e:Ed x=γ):je A s u v (eqV y x):=by
 cases y with
 |J=>
  cases f;cases x with
  |J=>cases c;exact mG _
  |U b=>cases c;exact ud b
  |int b=>obtain⟨t,rfl⟩:=c;exact o6 b t
  |str b=>obtain⟨t,rfl⟩:=c;exact o7 b t
  |_=>exact ar (show δ=γ from e) br
 |U a=>
  cases f;cases x with
  |J=>cases c;exact ue a
  |U b=>cases c;exact uf a b
  |int b=>obtain⟨t,rfl⟩:=c;exact ur a b t
  |str b=>obtain⟨t,rfl⟩:=c;exact uu a b t
  |_=>exact ar (show δ=γ from e) br
 |int a=>
  obtain⟨d,rfl⟩:=f;cases x with
  |J=>cases c;exact o8 a d
  |U b=>cases c;exact uv a d b
  |int b=>obtain⟨t,rfl⟩:=c;exact uE a d b t
  |str b=>obtain⟨t,rfl⟩:=c;exact pj a d b t
  |_=>exact ar (show δ=γ from e) br
 |str a=>
  obtain⟨d,rfl⟩:=f;cases x with
  |J=>cases c;exact o9 a d
  |U b=>cases c;exact uw a d b
  |int b=>obtain⟨t,rfl⟩:=c;exact pq a d b t
  |str b=>obtain⟨t,rfl⟩:=c;exact mf a d b t
  |_=>exact ar (show δ=γ from e) br
 |_=>exact ar (show δ=γ from h) br
def K?(x:V)(u:aa):Bool:=match u with
 |.none=>eqV .J x
 |.bool b=>eqV (.U b) x
 |.int i _=>eqV (.int i) x
 |.str z _=>eqV (.str z) x
 |_=>δ
def Td(r:dg y u)(f:Ed y=γ):K? x u=eqV y x:=by
 cases y with
 |J=>cases r;rfl
 |U b=>cases r;rfl
 |int i=>obtain⟨t,rfl⟩:=r;rfl
 |str z=>obtain⟨t,rfl⟩:=r;rfl
 |_=>exact ar (show δ=γ from f) br
theorem E8:∀{c:bA} {d:List aa},de c d->c.all Ed=γ->d.any (K? x)=c.any λy=>eqV y x
 |_,_,.nil,_=>rfl
 |y::c,u::d,.cons r t,f=>by rw[gZ,aU]at f;rw[gu,gu,Td r f.1,E8 t f.2]
theorem CV(i:dg x v)(h:Ed x=γ):∀{e:bA} {d:List aa},de e d->e.all Ed=γ->∀u∈d,je A s u v (K? x u)
 |_,_,.nil,_=>λu c=>by cases c
 |y::e,u::d,.cons r t,f=>λj c=>by
  rw[gZ,aU]at f;rcases aM.1 c with rfl|c
  .rw[Td r f.1];exact IW r i f.1 h
  .exact CV i h t f.2 j c
def inV(x:V)(c:bA):Bool:=c.any λy=>eqV y x
def rIn(K:av)(neg:Bool):R2:=λx y H Q=>∃p c,y=.ref p/\(fb K H p c\/e? K H p c)/\Ed x=γ/\c.all Ed=γ/\Q (.U (if neg then !inV x c else inV x c)) H
def Rv:fu X (bz .In) (rIn X.K δ):=by
 intro i s t H x y v u Q I j m h;obtain⟨p,o,rfl,d,f,fs,q⟩:=h;cases m;rcases d with d|d
 .obtain⟨c,r,pl,l⟩:=I.list d;refine qr (K? x) pl.isList (λw e=>CV j f r fs w (by simpa using e)) ⟨.U _,H,I,J,?_⟩;rw[show c.toArray.any (K? x)=c.any (K? x) by simp,E8 r fs];exact q
 .obtain⟨c,r,pl,l⟩:=I.tuple d;refine SeqAt.in_tupleAt (K? x) pl (λw e=>CV j f r fs w (by simpa using e)) ⟨.U _,H,I,J,?_⟩;rw[show c.toArray.any (K? x)=c.any (K? x) by simp,E8 r fs];exact q
def LN:fu X (bz .NotIn) (rIn X.K γ):=by
 intro i s t H x y v u Q I j m h;obtain⟨p,o,rfl,d,f,fs,q⟩:=h;cases m;rcases d with d|d
 .obtain⟨c,r,pl,l⟩:=I.list d;refine pz (K? x) pl.isList (λw e=>CV j f r fs w (by simpa using e)) ⟨.U _,H,I,J,?_⟩;rw[show c.toArray.any (K? x)=c.any (K? x) by simp,E8 r fs];exact q
 .obtain⟨c,r,pl,l⟩:=I.tuple d;refine SeqAt.notIn_tupleAt (K? x) pl (λw e=>CV j f r fs w (by simpa using e)) ⟨.U _,H,I,J,?_⟩;rw[show c.toArray.any (K? x)=c.any (K? x) by simp,E8 r fs];exact q
def LO:wM X (.builtin "len") (λl H Q=>∃p d,l=[.ref p]/\(fb X.K H p d\/e? X.K H p d)/\Q (.int d.length) H):=by
 intro j s x H l w Q I r h;obtain⟨p,d,rfl,e,q⟩:=h;obtain⟨u,rfl,o⟩:=gk r;cases o;have t:=Gk;rcases e with e|e
 .obtain⟨f,i,pl,m⟩:=I.list e;have c:=i.length;exact Calls.call_len_list pl.isList (by simp only[bb]<;>omega) ⟨.int d.length,H,I.pa _,⟨s.toks+1,by rw[bb,c]⟩,q⟩
 .obtain⟨f,i,pl,m⟩:=I.tuple e;have c:=i.length;exact len_tuple pl (by simp only[bb]<;>omega) ⟨.int d.length,H,I.pa _,⟨s.toks+1,by rw[bb,c]⟩,q⟩
def LP:wM X (.builtin "len") (λd H Q=>∃z,d=[.str z]/\z.length<=aF/\Q (.int z.length) H):=by intro c s j H d i Q I r h;obtain⟨z,rfl,f,q⟩:=h;obtain⟨u,rfl,t,rfl⟩:=gk r;have e:=Gk;exact len_str (by omega) ⟨.int z.length,H,I.pa _,⟨_,J⟩,q⟩
def LQ:wM X (.type "list") (λxs H Q=>∃p i,xs=[.ref p]/\(fb X.K H p i\/e? X.K H p i)/\∀l,H l=O->Q (.ref l) (eg H l (.b4 i))):=by
 intro pins s σ H xs us Q I r h;obtain⟨p,i,rfl,m,q⟩:=h;obtain⟨u,rfl,A⟩:=gk r;cases A;have fin:∀(c:List aa),de i c->i.length<=aF->∀(h':Heap) (d:Nat),(∀b z,s.heap.get? b=Z z->h'.get? b=Z z)->
   h'.get? s.heap.objs.size=Z { cls:=.type "list", dict:=O,data:=.seq c.toArray d,slots:=#[] }->EP X pins σ Q (.ref s.heap.objs.size) { s with heap:=h' }:=λc f t h' d kp e=>
  ⟨.ref s.heap.objs.size,_,I.laid (t':=s.toks) kp (aJ _) (show ef X.prog X.w _ h' _ (.b4 i) from⟨t,c,d,f,e⟩),J,q _ (I.er.fresh (aJ _))⟩
 rcases m with m|m
 .obtain⟨c,f,pl,t⟩:=I.list m;have j:=f.length;obtain⟨o,y,x,n,hd⟩:=pl.isList;exact q8 p (.inl J) y x hd (λh' d kp e=>fin c f t h' d kp e) (by simp only[bb]<;>omega)
 .obtain⟨c,f,pl,t⟩:=I.tuple m;have j:=f.length;obtain⟨o,y,x,n,hd⟩:=pl;exact q8 p (.inr J) y x hd (λh' d kp e=>fin c f t h' d kp e) (by simp only[bb]<;>omega)
def Kn:wM X (.type "tuple") (λxs H Q=>∃p d,xs=[.ref p]/\((fb X.K H p d/\∀l,H l=O->Q (.ref l) (eg H l (.c4 d)))\/(e? X.K H p d/\Q (.ref p) H))):=by
 intro pins s σ H xs us Q I r h;obtain⟨p,d,rfl,h⟩:=h;obtain⟨u,rfl,y⟩:=gk r;cases y;rcases h with ⟨f,q⟩|⟨f,q⟩
 .obtain⟨c,i,pl,t⟩:=I.list f;have m:=i.length;refine call_tuple_list pl.isList (λh' kp=>?_) (by simp only[bb]<;>omega);have j:cb X pins σ H { s with heap:=h' }:=I.fc (t':=s.toks) kp;have x:cb X pins σ (eg H h'.objs.size (.c4 d)) { s with heap:=h'.push { cls:=.type "tuple", data:=.seq c.toArray } }:=
   j.laid (t':=s.toks) (λb o e=>aA _ e) (aJ _) (show ef X.prog X.w _ _ _ (.c4 d) from⟨t,c,i,nR _ _,λo e=>by rw[aX _ J]at e;cases e;rfl⟩)
  exact⟨.ref h'.objs.size,_,x,J,q _ (j.er.fresh (aJ _))⟩
 .obtain⟨c,i,pl,t⟩:=I.tuple f;exact call_tuple_same pl ⟨.ref p,H,I,J,q⟩
def tyV(K:av)(T:String)(x:V)(H:Hp):Prop:=match x with
 |.str _=>T="str"
 |.int _=>T="int"
 |.ref p=>(T="list" /\ ∃c,fb K H p c)\/(T="tuple" /\ ∃o,K.lookup p=Z o/\o.cls=.type "tuple" /\ o.dict=O)\/
   (T="dict" /\ ((∃kvs,H p=Z (.dK kvs))\/∃kvs,H p=Z (.dT kvs)))\/(T="set" /\ ∃S n,H p=Z (.set S n))
 |_=>False
def Z6(I:cb X l y H s)(r:dg x v)(ty:tyV X.K T x H):
  s.TypeIs v T/\∀a,v=.ref a->∃j,s.heap.get? a=Z j/\j.dict=O:=by
 cases x with
 |str z=>obtain⟨t,rfl⟩:=r;cases (show T="str" from ty);exact⟨typeIs_str s z t,λ_ e=>nomatch e⟩
 |int i=>obtain⟨t,rfl⟩:=r;cases (show T="int" from ty);exact⟨nJ s i t,λ_ e=>nomatch e⟩
 |ref p=>
  cases r;rcases ty with ⟨rfl,w,q⟩|⟨rfl,o,d,m,hd⟩|⟨rfl,d⟩|⟨rfl,S,n,d⟩
  .obtain⟨u,_,pl,_⟩:=I.list q;refine⟨pl.isList.typeIs,λa e=>?_⟩;cases e;obtain⟨o,n,e,c,hd,_⟩:=pl;exact⟨o,e,hd⟩
  .refine⟨⟨o,I.kx p o d,m⟩,λa e=>?_⟩;cases e;exact⟨o,I.kx _ o d,hd⟩
  .have z:∃o,s.heap.get? p=Z o/\o.ExactDict:=by
    rcases d with ⟨kvs,d⟩|⟨kvs,d⟩
    .obtain⟨_,_,_,_,o,_,_,e,f,_⟩:=I.er p _ d;exact⟨o,e,f⟩
    .obtain⟨_,_,_,_,o,_,_,e,f,_⟩:=I.er p _ d;exact⟨o,e,f⟩
   obtain⟨o,e,f⟩:=z;refine⟨⟨o,e,f.1⟩,λa h=>?_⟩;cases h;exact⟨o,e,f.2.1⟩
  .obtain⟨o,_,_,_,e,f,_⟩:=I.er p _ d;refine⟨⟨o,e,f.1⟩,λa h=>?_⟩;cases h;exact⟨o,e,f.2.1⟩
 |_=>exact c7 ty
def tBM(K:av)(T:String)(r:V->bA->Hp->VK->Prop)(to:TE)(t:TA):TE:=λd H Q=>to d H λx c=>tyV K T x c/\t d c λf e=>r x f e Q
variable{o e:Expr}{es:List Expr}{to:TE}{t:TA}{name:Str}{apos cpos:Pos}{T id:String}{r:V->bA->Hp->VK->Prop}
def adH(A:nL T)(slot:Slot T name id)(hty:typeOf (.builtin id)=pure (.type "method_descriptor"))(w:MtR X id r)(y:PE X o to)(u:PA X (e::es) t)
  (hbase:fN o name X.b3 (eval o X.b3)=eval o X.b3:=by rfl)
  (hfew:((bG cpos (az (e::es) X.b3)).all (λx=>!x.1)&&(backToKw cpos (eh [] X.b3)).all (λx=>x.1.isSome)
   && decide ((e::es).length+([]:List fS).length+(if ([]:List fS).isEmpty then 0 else 1)<30))=γ:=by rfl)
  (hline:(apos.endLine==cpos.line)=γ:=by rfl) (z:az (e::es) X.b3=(δ,eval e X.b3)::az es X.b3:=by rfl) (hplain:(bG cpos (az es X.b3)).any (·.1)=δ:=by rfl):
  PE X (.Call (.Attribute o name apos) (e::es) [] cpos) (tBM X.K T r to t):=by
 intro c s d H Q I h;refine wpAny_Call_method_late hbase hfew hline J (e0 (y c s d H _ I h) λv F zz=>?_);obtain⟨x,j,f,i,ty,B⟩:=zz;obtain⟨p,q⟩:=Z6 f i ty;refine⟨T,id,A,slot,hty,p,q,?_⟩;have hA:=u cpos c F d j _ f B;rw[z]at hA ⊢;refine iz (by show (δ||(bG cpos (az es X.b3)).any (·.1))=δ;rw[hplain]<;>rfl) (iF ?_)
 exact e0 hA λM G ⟨N,l,m,E,C⟩=>w c G d l x N v M Q m i E C
end
def MtM(X:Cx)(id:String)(r:V->bA->Hp->VK->Prop):Prop:=
 ∀(a:cE) (s:af) (d:St) (H:Hp) (x:V) (c:bA) (v:aa) (b:List aa) (Q:VK),cb X a d H s->dg x v->de c b->r x c H Q->
  ah (model X.prog X.w) X.A (call (.builtin id) (v::b)) (EP X a d Q) X.xe s
def de.one:∀{x:V} {a:List aa},de [x] a->∃u,a=[u]/\dg x u
 |_,_,.cons r .nil=>⟨_,J,r⟩
theorem de.rep(h:de b a):∀k:Nat,de (b0 k b).flatten (b0 k a).flatten
 |0=>.nil
 |k+1=>by rw[f9,f9,gS,gS];exact de.append h (de.rep h k)
theorem wh(a:List aa):∀(k:Nat) (acc:List aa),
  nM (λc d=>c++d) acc.toArray (b0 k a.toArray)=(acc++(b0 k a).flatten).toArray
 |0,acc=>by simp
 |k+1,acc=>by
  have e:acc.toArray++a.toArray=(acc++a).toArray:=by simp
  have b:(acc++a)++(b0 k a).flatten=acc++(b0 (k+1) a).flatten:=by rw[f9,gS,cc]
  rw[<-b,<- wh a k (acc++a),<- e,f9,iX]
section
variable{X:Cx}{pins:cE}{σ:St}{H:Hp}{s:af}{l b:Addr}{xs ys zs:bA}
def cb.lset{a its':List aa}(I:cb X pins σ H s)(hH:H l=Z (.b4 xs))
  (e:s.heap.get? l=Z { cls:=.type "list", data:=.seq a.toArray n }) (hf:f a.toArray=its'.toArray) (d:de ys its') (h:ys.length<=aF):
  cb X pins σ (eg H l (.b4 ys)) { s with heap:=s.heap.update l (c9 f),toks:=j }:=by
 have q:=PySem.IsL.update e f;rw[hf]at q;refine I.rf (x:=l) (e:=l) (by rw[hH];exact trivial) (.inl J) (λi u hb c=>(gH s.heap (c9 f) (dB hb)).t c) ⟨_,q⟩ ?_;exact⟨h,its',_,d,q⟩
def cb.lnew(I:cb X pins σ H s)(c:de ys a)(d:ys.length<=aF):
  cb X pins σ (eg H s.heap.objs.size (.b4 ys)) { s with heap:=s.heap.push { cls:=.type "list", data:=.seq a.toArray },toks:=t' }:=
 I.laid (λy y q=>aA _ q) (aJ _) ⟨d,a,0,c,aX _ J⟩
theorem cb.fresh(I:cb X pins σ H s):H s.heap.objs.size=O:=I.er.fresh (aJ _)
def cb.R'(I:cb X pins σ H s)(hH:H l=Z (.b4 xs)):xs.length<=aF/\∃(a:List aa) (n:Nat),de xs a/\xs.length=a.length/\s.heap.get? l=Z { cls:=.type "list", data:=.seq a.toArray n }:=by obtain⟨z,a,n,r,e⟩:=I.er l _ hH;exact⟨z,a,n,r,r.length,e⟩
def IY(h:n<=aF):gE n=δ:=by unfold gE;exact bq (by omega)
end
section
variable{X:Cx}
def LR:V->bA->Hp->VK->Prop:=λx b H Q=>∃l a y,x=.ref l/\b=[y]/\H l=Z (.b4 a)/\a.length<aF/\Q .J (eg H l (.b4 (a++[y])))
theorem Gq:MtM X "list.append" LR:=by intro c s w H x p v o Q I i f h;obtain⟨l,t,y,rfl,rfl,hH,m,q⟩:=h;cases i;obtain⟨u,rfl,d⟩:=f.one;obtain⟨z,a,n,r,j,e⟩:=I.R' hH;refine ia mh ⟨_,e,J⟩ F.entry_list_append (F.args_list_append_2 _ _) (PySem.list_append l a.toArray n u (by rw[bb];omega)) ⟨e,?_⟩;refine⟨.J,_,I.lset (its':=a++[u]) hH e (by simp) (r.append (.cons d .nil)) ?_,J,q⟩;rw[aE,di];omega
def PZ:V->bA->Hp->VK->Prop:=λx d H Q=>∃l b a c,x=.ref l/\d=[.ref b]/\H l=Z (.b4 a)/\H b=Z (.b4 c)/\a.length+c.length<=aF/\Q .J (eg H l (.b4 (a++c)))
def Rw:MtM X "list.extend" PZ:=by
 intro i s N H x E v C Q I y w h;obtain⟨l,b,F,M,rfl,rfl,hH,hB,B,q⟩:=h;cases y;obtain⟨u,rfl,t⟩:=w.one;cases t;obtain⟨z,c,n,r,A,e⟩:=I.R' hH;obtain⟨G,a,o,p,m,j⟩:=I.R' hB;have d:c.toArray.size+a.toArray.size<=aF:=by rw[bb,bb];omega
 have hlong:¬(!c.toArray.isEmpty&&gE (c.toArray.size+a.toArray.size))=γ:=by rw[IY d,qM];exact br
 refine ia jN ⟨_,e,J⟩ pb (oV _ _)
  (AutoSeq1.list_extend_list_list_0 l c.toArray n b a.toArray o hlong (by rw[bb];omega) (by omega)) ⟨e,j,?_⟩
 refine⟨.J,_,I.lset (its':=c++a) hH e (by simp) (r.append p) ?_,J,q⟩;rw[aE];omega
def rCat:R2:=λx y H Q=>∃l b a c,x=.ref l/\y=.ref b/\H l=Z (.b4 a)/\H b=Z (.b4 c)/\a.length+c.length<=aF/\∀p,H p=O->Q (.ref p) (eg H p (.b4 (a++c)))
def Z7:fu X (cO .Add) rCat:=by
 intro d s G H x y v u Q I o p h;obtain⟨l,b,C,F,rfl,rfl,hH,hB,w,q⟩:=h;cases o;cases p;obtain⟨z,c,n,r,t,e⟩:=I.R' hH;obtain⟨E,a,A,m,j,f⟩:=I.R' hB;refine PySem.P.add_list e f ?_ (by rw[bb,bb];omega);have i:c.toArray++a.toArray=(c++a).toArray:=by simp
 rw[i];exact⟨.ref _,_,I.lnew (t':=s.toks) (r.append m) (by rw[aE];omega),J,q _ I.fresh⟩
def rRep:R2:=λx y H Q=>∃l k a,x=.ref l/\y=.int k/\H l=Z (.b4 a)/\-(2 ^ 63)<=k/\k<2 ^ 63/\a.length * k.toNat<=aF/\
 ∀p,H p=O->Q (.ref p) (eg H p (.b4 (b0 k.toNat a).flatten))
def len_rep{c:Type}(a:List c)(k:Nat):(b0 k a).flatten.length=k * a.length:=by
 induction k with
 |zero=>simp
 |succ k b=>rw[f9,gS,aE,b,Nat.succ_mul,kj]
theorem Z8:fu X (cO .Mult) rRep:=by
 intro j s P H x y v u Q I B C h;obtain⟨l,k,N,rfl,rfl,hH,p,w,i,q⟩:=h;cases B;obtain⟨t,rfl⟩:=C;obtain⟨z,b,n,r,A,e⟩:=I.R' hH;have c:b.toArray.size * k.toNat<=aF:=by rw[bb,<- A];exact i
 have hcap:¬b.toArray.size * k.toNat > (2 ^ 63 - 1) / 8:=by
  have:(aF:Nat)<=(2 ^ 63 - 1) / 8:=by decide
  omega
 have hfit:¬(!Builtin.List.listFitsIndex k)=γ:=by rw[fitsIndex_both p w];exact br
 have hlong:¬gE (b.toArray.size * k.toNat)=γ:=by rw[IY c];exact br
 have hnew:nM (λd f=>d++f) #[] (b0 (if b.toArray.isEmpty=γ then 0 else k.toNat) b.toArray)=(b0 k.toNat b).flatten.toArray:=by
  have o:∀m:Nat,nM (λd f=>d++f) #[] (b0 m b.toArray)=(b0 m b).flatten.toArray:=λm=>by have:=wh b m [];rw[cg]at this;exact this
  rw[o];cases b with
  |nil=>simp
  |cons a G=>rw[ak (by simp)]
 refine wpAny_binaryOp_repeat_ref (T:="list") (U:="int") (by decide) ⟨_,e,J⟩ (λE=>nJ E k t) noFill_list_mul F.fills_int_mul qt repeat_list F.slot_int_index.lookup
  (ia qt (nJ s k t) F.entry_int_rmul (F.args_int_rmul_2 _ _) (int___rmul___int_list k t l b.toArray n)
   ⟨e,J,⟨_,e,J⟩,ia F.slot_list_mul ⟨_,e,J⟩ F.entry_list_mul (F.args_list_mul_2 _ _) (AutoListH.list___mul___list_int_3 l b.toArray n k t hfit hcap hlong) ⟨e,?_⟩⟩)
 rw[hnew];exact⟨.ref _,_,I.lnew (t':=s.toks) (r.rep k.toNat) (by rw[len_rep,Nat.mul_comm];exact i),J,q _ I.fresh⟩
end
section
variable{prog:aB}{w:aw}{A:aG}{E:aa->af->Prop}{s:af}
set_option maxRecDepth 100000 in
end
section
variable{κ:Type}[DecidableEq κ]
def yL(kvs:List (κ×V))(k:κ):Option V:=(kvs.find? λkv=>decide (kv.1=k)).map (·.2)
def j?(kvs:List (κ×V))(k:κ)(v:V):List (κ×V):=
 if (kvs.any λkv=>decide (kv.1=k))=γ then kvs.map (λkv=>if kv.1=k then (kv.1,v)else kv)else kvs++[(k,v)]
def E9{p:κ×V}(e:p.1=k):yL (p::r) k=Z p.2:=by simp[yL,dY,e]
def Fb{p:κ×V}(e:¬p.1=k):yL (p::r) k=yL r k:=by simp[yL,dY,e]
theorem IZ(k:κ):∀kvs:List (κ×V),(kvs.any λkv=>decide (kv.1=k))=(yL kvs k).isSome
 |[]=>rfl
 |p::r=>by
  rw[gu];by_cases e:p.1=k
  .simp only[E9 e,bg e,Bool.true_or,Option.isSome_some]
  .rw[Fb e,bq e,Bool.false_or];exact IZ k r
def CW(kvs:List (κ×V))(k:κ)(v:V):(j? kvs k v).length<=kvs.length+1:=by
 unfold j?;split
 .rw[ag];omega
 .rw[aE,aN,gV];omega
def Te{kvs:List (κ×V)}{k:κ}(v:V)(h:yL kvs k=O):j? kvs k v=kvs++[(k,v)]:=by unfold j?;rw[IZ,h];exact ak (by decide)
def CT.XC(r:CT o u):o.isSome=u.isSome:=by
 cases o with
 |none=>cases u with
  |none=>rfl
  |some _=>exact(show False from r).elim
 |some _=>cases u with
  |none=>exact(show False from r).elim
  |some _=>rfl
theorem CT.getD(r:CT o u)(b:dg d a):dg (o.getD d) (u.getD a):=by
 cases o with
 |none=>cases u with
  |none=>exact b
  |some _=>exact(show False from r).elim
 |some _=>cases u with
  |none=>exact(show False from r).elim
  |some _=>exact r
def KV.val(r:KV kvs j)(k:κ):CT (yL kvs k) (valueAt j k):=by
 unfold KV at r
 induction r with
 |nil=>exact True.intro
 |@cons p q l c h t i=>
  obtain⟨d,f⟩:=h;by_cases e:p.1=k
  .have a:q.1=k:=d.symm.t e;have b:valueAt (q::c) k=Z q.2:=by simp[valueAt,dY,a]
   rw[E9 e,b];exact f
  .have a:¬q.1=k:=λz=>e (d.t z);have b:valueAt (q::c) k=valueAt c k:=by simp[valueAt,dY,a]
   rw[Fb e,b];exact i
theorem KV.any(r:KV kvs vs)(k:κ):(kvs.any λkv=>decide (kv.1=k))=vs.any λkv=>decide (kv.1=k):=by
 unfold KV at r
 induction r with
 |nil=>rfl
 |cons h t a=>rw[gu,gu,a,h.1]
def KV.repl(r:KV kvs f)(k:κ)(d:dg y u):
  KV (kvs.map λkv=>if kv.1=k then (kv.1,y)else kv) (f.map λkv=>if kv.1=k then (kv.1,u)else kv):=by
 unfold KV at r ⊢
 induction r with
 |nil=>exact .nil
 |@cons p q i j h t c=>
  rw[aI,aI];refine .cons ?_ c;obtain⟨a,b⟩:=h;by_cases e:p.1=k
  .rw[aj e,aj (a.symm.t e)];exact⟨a,d⟩
  .rw[ak e,ak (λz=>e (a.t z))];exact⟨a,b⟩
def KV.put(r:KV kvs b)(k:κ)(a:dg y u):KV (j? kvs k y) (stored b k u):=by
 unfold j? stored;rw[r.any k];by_cases e:(b.any λkv=>decide (kv.1=k))=γ
 .rw[aj e,aj e];exact r.repl k a
 .rw[ak e,ak e];exact rR r ⟨J,a⟩
theorem KV.length(r:KV kvs a):kvs.length=a.length:=mS r
end
def G6(r:dg (kV k) u):(vv P w).is k u=γ:=by
 cases k with
 |inl i=>obtain⟨t,e⟩:=(show ∃t,u=Value.int i t from r);subst e;exact MM P w i t
 |inr x=>obtain⟨t,e⟩:=(show ∃t,u=Value.str x t from r);subst e;exact MN P w x t
theorem KJ:∀{a:List dr} {b:List aa},de (a.map kV) b->ItemsAre (vv P w) a b
 |[],_,r=>by rw[fO]at r;cases r;exact .nil
 |k::a,_,r=>by
  rw[aI]at r;cases r with
  |cons h t=>exact .cons (G6 h) (KJ t)
abbrev KT(H:Hp):List (List dr×V)->List (List dr×Addr×aa)->Prop:=ic λp q=>p.1=q.1/\H q.2.1=Z (.c4 (p.1.map kV))/\dg p.2 q.2.2
def KT.val(r:KT H kvs j)(k:List dr):CT (yL kvs k) ((atKey j k).map (·.2)):=by
 induction r with
 |nil=>exact True.intro
 |@cons p q l c h t i=>
  obtain⟨d,_,f⟩:=h;by_cases e:p.1=k
  .have a:q.1=k:=d.symm.t e;have b:atKey (q::c) k=Z q.2:=by simp[atKey,dY,a]
   rw[E9 e,b];exact f
  .have a:¬q.1=k:=λz=>e (d.t z);have b:atKey (q::c) k=atKey c k:=by simp[atKey,dY,a]
   rw[Fb e,b];exact i
def KT.repl(r:KT H kvs i)(k:List dr)(f:dg y u):
  KT H (kvs.map λkv=>if kv.1=k then (kv.1,y)else kv) (i.map (putAt k u)):=by
 induction r with
 |nil=>exact .nil
 |@cons p q j l h t d=>
  rw[aI,aI];refine .cons ?_ d;obtain⟨a,b,c⟩:=h;unfold putAt;by_cases e:p.1=k
  .rw[aj e,aj (a.symm.t e)];exact⟨a,b,f⟩
  .rw[ak e,ak (λz=>e (a.t z))];exact⟨a,b,c⟩
def KT.put(r:KT H kvs a)(k:List dr)(d:H b=Z (.c4 (k.map kV)))(c:dg y u):
  KT H (j? kvs k y) (storedH a k b u):=by
 have e:(kvs.any λkv=>decide (kv.1=k))=(atKey a k).isSome:=by rw[IZ,(r.val k).XC,Option.isSome_map]
 unfold j? storedH;rw[e];by_cases q:(atKey a k).isSome=γ
 .rw[aj q,aj q];exact r.repl k c
 .rw[ak q,ak q];exact rR r ⟨J,d,c⟩
def KT.keeps(r:KT H kvs e)(d:∀b a,H b=Z (.c4 a)->c b=Z (.c4 a)):KT c kvs e:=
 Paired.mapP r λy y z=>⟨z.1,d _ _ z.2.1,z.2.2⟩
section
variable{P:aB}{w:aw}{H:Hp}{h:Heap}{a:Addr}
def YN(ok:nj P w H h)(e:Rd H a u):ef P w H h a u:=e.ok ok
def G7(ok:nj P w H h)(e:Rd H a (.dK kvs)):kvs.length<=aF/\(a==cU)=δ/\∃b,KV kvs b/\h.DictOf (vv P w) a b:=
 show ef P w H h a (.dK kvs) from YN ok e
def YO(ok:nj P w H h)(e:H a=Z (.dK kvs)):kvs.length<=aF/\(a==cU)=δ/\∃b,KV kvs b/\h.DictOf (vv P w) a b:=G7 ok (.inl e)
def I0{c:List dr}(ok:nj P w H h)(e:H a=Z (.c4 (c.map kV))):(tupleKind (vv P w)).is h c a:=by obtain⟨_,b,r,⟨o,d,f,n,i⟩,_⟩:=(show ef P w H h a (.c4 (c.map kV)) from ok a _ e);exact⟨o,b.toArray,n,d,f,i,by simpa using KJ r⟩
def KL(ok:nj P w H h)(e:Rd H a (.dT kvs)):kvs.length<=aF/\(a==cU)=δ/\
  ∃c,KT H kvs c/\h.DictOfH (tupleKind (vv P w)) a c:=by
 obtain⟨z,y,c,r,o,i,f,j,u,A,B,C⟩:=(show ef P w H h a (.dT kvs) from YN ok e);refine⟨z,y,c,r,o,i,f,j,u,A,B,λx b=>?_,C⟩;have all:∀{l:List (List dr×V)} {m:List (List dr×Addr×aa)},KT H l m->∀x∈m,(tupleKind (vv P w)).is h x.1 x.2.1:=by
  intro l m q
  induction q with
  |nil=>intro x b;exact nomatch b
  |@cons p q F G d t E=>
   intro x b;rcases aM.1 b with e|b
   .subst e;exact I0 ok (by rw[<-d.1];exact d.2.1)
   .exact E x b
 exact all r x b
def dt_of(ok:nj P w H h)(e:H a=Z (.dT kvs)):kvs.length<=aF/\(a==cU)=δ/\
  ∃b,KT H kvs b/\h.DictOfH (tupleKind (vv P w)) a b:=KL ok (.inl e)
end
def n9(H:Hp)(a:Addr)(y:V)(r:Option V):Prop:=
 (∃kvs k,Rd H a (.dK kvs)/\y=kV k/\r=yL kvs k)\/∃kvs k b,Rd H a (.dT kvs)/\y=.ref b/\H b=Z (.c4 (k.map kV))/\r=yL kvs k
def Tf(H:Hp)(a:Addr)(y v:V)(c:Hp):Prop:=
 (∃kvs k,H a=Z (.dK kvs)/\y=kV k/\kvs.length<aF/\c=eg H a (.dK (j? kvs k v)))\/
 ∃kvs k b,H a=Z (.dT kvs)/\y=.ref b/\H b=Z (.c4 (k.map kV))/\kvs.length<aF/\c=eg H a (.dT (j? kvs k v))
theorem Tf.k{H:Hp}{a:Addr}{kvs:List (dr×V)}{k:dr}{v:V}(e:H a=Z (.dK kvs))(b:kvs.length<aF):Tf H a (kV k) v (eg H a (.dK (j? kvs k v))):=.inl ⟨kvs,k,e,J,b,J⟩
section
variable{X:Cx}{pins:cE}{σ:St}{H:Hp}{s:af}{a:Addr}{y v:V}{u r:aa}{o:Option V}{A:aG}{E:aa->af->Prop}
def cb.big(I:cb X pins σ H s):cU<s.heap.objs.size:=by have h:aZ<s.heap.objs.size:=(I.xo.vo.keeps I.bk).lt;exact rA (by decide) h
def Rx(C:A.units+1<cLine)(I:cb X pins σ H s)(g:n9 H a y (Z v))(q:dg y u)(h:∀d t,cb X pins σ H t->dg v d->Q d t):
  ah (model X.prog X.w) A (getItem (.ref a) u) Q E s:=by
 rcases g with ⟨kvs,k,e,i,l⟩|⟨kvs,k,b,e,i,x,l⟩
 .subst i;obtain⟨z,hd,F,rel,f⟩:=G7 I.er e;obtain⟨d,m,c⟩:=CT.B' (v:=v) (o:=valueAt F k) (by rw[l];exact rel.val k);exact wpAny_getItem_of (G6 q) f.mapOf m (h d _ (I.pa _) c)
 .subst i;cases (show u=Value.ref b from q);obtain⟨z,hd,G,rel,f⟩:=KL I.er e;obtain⟨d,m,c⟩:=CT.B' (v:=v) (o:=(atKey G k).map (·.2)) (by rw[l];exact rel.val k)
  obtain⟨p,B,j⟩:=f7.1 m;refine pA (jO C) (I0 I.er x) f B ?_;rw[j];exact h d _ (I.pa _) c
def LS(I:cb X pins σ H s)(d:Mut (H a))(hs:dA a s.heap h')(c:∃q,h'.get? a=Z q)(new:ef X.prog X.w (eg H a ob) h' a ob):
  cb X pins σ (eg H a ob) { s with heap:=h',toks:=f }:=
 I.rf (x:=a) (e:=a) d (.inl J) (λb q hb z=>(hs.2 b hb).t z) c new
def Tg{b:Heap}{kvs:List (dr×V)}(z:kvs.length<=aF)(hd:(a==cU)=δ)(rel:KV kvs c)(d:b.DictOf (vv P w) a c):
  ef P w e b a (.dK kvs):=⟨z,hd,c,rel,d⟩
def Ry(hu:A.units+1<cLine)(I:cb X pins σ H s)(g:Tf H a y v P)(M:dg y u)(G:dg v r)(h:∀N,cb X pins σ P N->Q () N):
  ah (model X.prog X.w) A (setItem (.ref a) u r) Q E s:=by
 rcases g with ⟨kvs,k,e,j,l,eH⟩|⟨kvs,k,b,e,j,B,l,eH⟩
 .subst j eH;obtain⟨z,hd,vs,rel,i⟩:=YO I.er e;have x:vs.length<=aF:=by rw[<-rel.length];exact z
  have m:(j? kvs k v).length<=aF:=by have:=CW kvs k v;omega
  refine wpAny_setItem_pairs (hsz:=x) (G6 M) i λF d p=>h _ ?_;have he:∃q,F.get? a=Z q:=let ⟨q,_,_,f,_⟩:=d;⟨q,f⟩;exact LS I (by rw[e];exact True.intro) p he (Tg m hd (rel.put k G) d)
 .subst j eH;cases (show u=Value.ref b from M);obtain⟨z,hd,xs,rel,i⟩:=dt_of I.er e;have x:xs.length<=aF:=by rw[<-mS rel];exact z
  have m:(j? kvs k v).length<=aF:=by have:=CW kvs k v;omega
  refine wpAny_setItem_heap (hsz:=x) (jO hu) (I0 I.er B) i λF d p=>h _ ?_;obtain⟨q,S,R,f,T,U,W,_,Y⟩:=d;refine LS I (by rw[e];exact True.intro) p ⟨q,f⟩ ⟨m,hd,_,(rel.put k B G).keeps λc ys C=>?_,q,S,R,f,T,U,W,Y⟩;rw[vb (adb C e (λz=>nomatch z))];exact C
end
section
variable{X:Cx}{pins:cE}{σ:St}{H:Hp}{s:af}{a:Addr}{kvs:List (dr×V)}{k:dr}{u:aa}{A:aG}{E:aa->af->Prop}
def adI(I:cb X pins σ H s)(e:Rd H a (.dK kvs))(h:∀t b,cb X pins σ H b->Q (.int kvs.length t) b):ah (model X.prog X.w) A (call (.builtin "len") [.ref a]) Q E s:=by obtain⟨z,hd,d,rel,c⟩:=G7 I.er e;refine call_len_dict hd c (by rw[<-rel.length];rw[bO]at z;omega) ?_;rw[<-rel.length];exact h _ _ (I.pa _)
end
def Ti(i:Expr):Prop:=∀b a,subscripted i δ b a=operate [b,a] (getItem b a)
def P1{prog:aB}{w:aw}{A:aG}{E:aa->af->Prop}{s:af}{b3:Env}{value slice:Expr}{pos:Pos}{T id:String}{Q:aa->af->Prop}
  (j:typeLookup (.type T) "__getitem__" = pure (Z (.builtin id))) (l:Ti slice)
  (h:ah (model prog w) A (eval value b3) (λo c=>ah (model prog w) A (eval slice b3) (λi a=>a.TypeIs o T/\ah (model prog w) A (getItem o i) Q E a) E c) E s):
  ah (model prog w) A (eval (.Subscript value slice pos) b3) Q E s:=by
 refine nI (cq h (λo c e=>cq e (λi a b=>?_) λy y x=>x) λy y x=>x);obtain⟨hT,b⟩:=b;unfold subscriptTail;refine ae ?_;rw[getitemInPython_of_ne hT.not_modules];refine ae (gW hT j ?_);have fin:ah (model prog w) A (subscripted slice δ o i) (λr d=>ah (model prog w) A (letTemporaryGo value o r>>=λy=>pure r) Q E d) E a:=by rw[l o i];exact wpAny_operating (cq b (λr d f=>ae (wpAny_letTemporaryGo (aq f))) λy y x=>x)
 first
  |exact aq (ae fin)
  |exact ae (aq (ae fin))
  |exact ae fin
def MX(I:cb X d i H s)(g:n9 H a y o):s.TypeIs (.ref a) "dict" := by
 rcases g with ⟨kvs,k,e,_,_⟩|⟨kvs,k,b,e,_,_,_⟩
 .obtain⟨_,_,f,_,c⟩:=G7 I.er e;exact c.typeIs
 .obtain⟨_,_,h,_,c⟩:=KL I.er e;exact c.typeIs
def adJ(e ty:TE):TE:=λc H Q=>e c H λx d=>ty c d λy b=>∃a v,x=.ref a/\n9 b a y (Z v)/\Q v b
def YQ(h ty i:TE):TS:=λD b H=>i b H λv d=>h b d λx e=>ty b e λy f=>∃a c,x=.ref a/\Tf f a y v c/\D.nx b c
section
variable{X:Cx}{o i e value:Expr}{pos pos' tpos:Pos}{td ty tv:TE}
def WI(z:X.A.units+1<cLine)(t:PE X o td)(r:PE X i ty)(w:Ti i):PE X (.Subscript o i pos) (adJ td ty):=by intro b s f H Q I h;refine P1 pd.lookup w (e0 (t b s f H _ I h) λu G ⟨x,j,m,E,B⟩=>e0 (r b G f j _ m B) λM N zz=>?_);obtain⟨y,l,d,F,a,v,q,g,C⟩:=zz;subst q;obtain rfl:u=Value.ref a:=E;exact⟨MX d g,Rx z d g F λR P p c=>⟨v,l,p,c,C⟩⟩
def WJ(C:X.A.units+1<cLine)(z:PE X o td)(w:PE X i ty)(E:PE X value tv)(B:dO value (Z (.Subscript o i pos')) pos.line X.b3=pure δ):
  PS X (.Assign [.Subscript o i pos'] value pos) (YQ td ty tv):=by
 intro b s c H D I h;refine wpAny_Assign_Subscript (e0 (E b s c H _ I h) λr Q ⟨v,d,l,M,F⟩=>e0 (z b Q c d _ l F) λu R ⟨x,f,m,N,G⟩=>e0 (w b R c f _ m G) λT U zz=>?_) B;obtain⟨y,S,p,P,a,j,t,g,q3⟩:=zz;subst t;obtain rfl:u=Value.ref a:=N;exact Ry C p g P M λW q=>⟨c,j,q,q3⟩
end
def Tj(h:Heap)(a:cU<h.objs.size):ef P w H (h.push { cls:=.type "dict", data:=.dict #[] }) h.objs.size (.dK []):=
 ⟨cp _,beq_eq_false_iff_ne.2 (dB (aT a)),[],.nil,uO h⟩
def OB:TE:=λy H Q=>∀p,H p=O->Q (.ref p) (eg H p (.dK []))
section
variable{X:Cx}{pos:Pos}
def MY:PE X (.Dict [] [] pos) OB:=λb s d H Q I h=>
 wpAny_Dict_empty ⟨.ref s.heap.objs.size,_,I.laid (a:=s.heap.objs.size) (o:=.dK []) (t':=s.toks) (λy y q=>aA _ q) (aJ _) (Tj s.heap I.big),J,h _ (I.er.fresh (aJ _))⟩
end
structure M1(X:Cx)(o:Expr)(m:Str)(apos:Pos)(e:Expr)(cpos:Pos):Prop where
 b1:fN o m X.b3 (eval o X.b3)=eval o X.b3
 few:((bG cpos (az [e] X.b3)).all (λx=>!x.1)&&(backToKw cpos (eh [] X.b3)).all (λx=>x.1.isSome)
  && decide (([e]:List Expr).length+([]:List fS).length+(if ([]:List fS).isEmpty then 0 else 1)<30))=γ
 line:(apos.endLine==cpos.line)=γ
 Hs:bG cpos (az [e] X.b3)=[(δ,eval e X.b3)]
structure M2(X:Cx)(o:Expr)(m:Str)(apos:Pos)(e f:Expr)(cpos:Pos):Prop where
 b1:fN o m X.b3 (eval o X.b3)=eval o X.b3
 few:((bG cpos (az [e,f] X.b3)).all (λx=>!x.1)&&(backToKw cpos (eh [] X.b3)).all (λx=>x.1.isSome)
  && decide (([e,f]:List Expr).length+([]:List fS).length+(if ([]:List fS).isEmpty then 0 else 1)<30))=γ
 line:(apos.endLine==cpos.line)=γ
 Hs:bG cpos (az [e,f] X.b3)=[(δ,eval e X.b3),(δ,eval f X.b3)]
def IsD(H:Hp)(a:Addr):Prop:=(∃kvs,Rd H a (.dK kvs))\/∃kvs,Rd H a (.dT kvs)
def LU(I:cb X j o H s)(d:IsD H a):
  s.TypeIs (.ref a) "dict" /\ (∀b,Value.ref a=.ref b->∃c,s.heap.get? b=Z c/\c.dict=O)/\(a==cU)=δ:=by
 rcases d with ⟨kvs,e⟩|⟨kvs,e⟩
 .obtain⟨_,hd,l,_,f⟩:=G7 I.er e;refine⟨f.typeIs,λb q=>?_,hd⟩;cases q;obtain⟨c,_,_,h,i,_⟩:=f;exact⟨c,h,i.2.1⟩
 .obtain⟨_,hd,m,_,f⟩:=KL I.er e;refine⟨f.typeIs,λb q=>?_,hd⟩;cases q;obtain⟨c,_,_,h,i,_⟩:=f;exact⟨c,h,i.2.1⟩
section
variable{X:Cx}{pins:cE}{σ:St}{H:Hp}{s:af}{a:Addr}{y d:V}{u r:aa}{o:Option V}{A:aG}{E:aa->af->Prop}
def Tn(q:A.units+1<cLine)(I:cb X pins σ H s)(g:n9 H a y o)(i:dg y u)(h:∀m j,cb X pins σ H j->dg (o.getD .J) m->Q m j):
  ah (model X.prog X.w) A (call (.builtin "dict.get") [.ref a,u]) Q E s:=by
 rcases g with ⟨kvs,k,e,f,l⟩|⟨kvs,k,b,e,f,p,l⟩
 .subst f;obtain⟨z,hd,x,rel,c⟩:=G7 I.er e;refine hJ fJ c.typeIs iV (ml _ _) (qN (vv X.prog X.w) a (G6 i) hd) ⟨_,c.mapOf,h _ _ (I.pa _) ?_⟩;rw[l];exact(rel.val k).getD J
 .subst f;cases (show u=Value.ref b from i);obtain⟨z,hd,t,rel,c⟩:=KL I.er e;refine hJ fJ c.typeIs iV (ml _ _) (meetsH_dict_get (tupleKind (vv X.prog X.w)) a b hd) ⟨jO q,k,t,I0 I.er p,c,h _ _ (I.pa _) ?_⟩;rw[l];exact(rel.val k).getD J
def Z9(t:A.units+1<cLine)(I:cb X pins σ H s)(g:n9 H a y o)(j:dg y u)(i:dg d r)(h:∀p m,cb X pins σ H m->dg (o.getD d) p->Q p m):
  ah (model X.prog X.w) A (call (.builtin "dict.get") [.ref a,u,r]) Q E s:=by
 rcases g with ⟨kvs,k,e,f,l⟩|⟨kvs,k,b,e,f,q,l⟩
 .subst f;obtain⟨z,hd,B,rel,c⟩:=G7 I.er e;refine hJ fJ c.typeIs iV (pM _ _ _) (meets_dict_get_default (vv X.prog X.w) a (G6 j) hd r) ⟨_,c.mapOf,h _ _ (I.pa _) ?_⟩;rw[l];exact(rel.val k).getD i
 .subst f;cases (show u=Value.ref b from j);obtain⟨z,hd,x,rel,c⟩:=KL I.er e;refine hJ fJ c.typeIs iV (pM _ _ _) (meetsH_dict_get_default (tupleKind (vv X.prog X.w)) a b hd r) ⟨jO t,k,x,I0 I.er q,c,h _ _ (I.pa _) ?_⟩;rw[l];exact(rel.val k).getD i
end
def aaa(e ty:TE):TE:=λd H Q=>e d H λx b=>∃a,x=.ref a/\IsD b a/\ty d b λy c=>∃o,n9 c a y o/\Q (o.getD .J) c
def aab(f ty h:TE):TE:=λb H Q=>f b H λx c=>∃a,x=.ref a/\IsD c a/\ty b c λy e=>h b e λz d=>∃o,n9 d a y o/\Q (o.getD z) d
section
variable{X:Cx}{o e f:Expr}{apos cpos:Pos}{td ty tx:TE}
def To(B:X.A.units+1<cLine)(z:PE X o td)(w:PE X e ty)(m:M1 X o "get" apos e cpos):PE X (.Call (.Attribute o "get" apos) [e] [] cpos) (aaa td ty):=by intro b s j H Q I h;refine jQ m.b1 m.few m.line jR fJ mH (e0 (z b s j H _ I h) λu M zz=>?_);obtain⟨x,l,i,F,a,t,d,C⟩:=zz;subst t;obtain rfl:u=Value.ref a:=F;obtain⟨N,P,_⟩:=LU i d;refine⟨N,P,?_⟩;rw[m.Hs];refine iz J (iF (eO (e0 (w b M j l _ i C) λR T ⟨y,p,q,G,S,g,E⟩=>gb ?_)));exact Tn B q g G λW U r c=>⟨_,p,r,c,E⟩
def Tp(G:X.A.units+1<cLine)(F:PE X o td)(C:PE X e ty)(E:PE X f tx)(m:M2 X o "get" apos e f cpos):PE X (.Call (.Attribute o "get" apos) [e,f] [] cpos) (aab td ty tx):=by
 intro b s i H Q I h;refine jQ m.b1 m.few m.line jR fJ mH (e0 (F b s i H _ I h) λu T zz=>?_);obtain⟨x,l,j,P,a,B,d,M⟩:=zz;subst B;obtain rfl:u=Value.ref a:=P;obtain⟨W,Y,_⟩:=LU j d;refine⟨W,Y,?_⟩;rw[m.Hs];refine iz J (iF (eO (e0 (C b T i l _ j M) λiv U ⟨y,p,r,R,N⟩=>
  eO (e0 (E b U i p _ r N) λfv s3 ⟨z,q,t,S,ov,g,q3⟩=>gb ?_))))
 exact Z9 G t g R S λw' s4 w c=>⟨_,q,w,c,q3⟩
end
end L2
namespace Att
open PySem PySem.W PySem.Calls PyProof.Rows
def Iq:∀(c:List Int) (d:List aa),WellAll P h d (c.map WData.int)->jh d c:=by
 intro c
 induction c with
 |nil=>intro d w;rw[fO]at w;cases w;exact .nil
 |cons n c e=>
  intro d w;rw[aI]at w;cases w with
  |cons a b=>cases a;exact .cons _ _ (e _ b)
def RA{l:ig}(t:l.most=Z n)
  (hpre:l.row.toRowW.claim.pre args=γ) (hwl:WellAll P h vals args):
  ∃a j b,vals=[Value.ref a]/\args=[WData.list (b.map WData.int)]/\h.get? a=Z { cls:=.type "list", data:=.seq j.toArray }/\jh j b/\b.length<=n:=by
 have hsh:WShape.hasAll [] args [.list .int]=γ:=(pre_splitW hpre).1;have i:l.pre.holds [] { args:=args }=γ:=(pre_splitW hpre).2;obtain⟨d,r,rfl,m,o⟩:=hasAllW_cons hsh;obtain rfl:=hasAllW_nil o;obtain⟨z,rfl,p⟩:=hasW_list m;obtain⟨b,rfl⟩:=items_int p;have c:b.length<=n:=by
  unfold OpenLaw.pre at i;have e:(WTm.not (.lt (.lit (.int (n:Int))) (.len (.arg 0)))).holds [] { args:=[.list (b.map .int)] }=γ:=by have e:=(holds_andW i).1;rw[t]at e;exact e
  have f:=condW_of e (w_not (w_lt w_lit (w_len_list (w_arg J))));rw[ag]at f;refine qf λq=>?_;have w:(n:Int)<((b.length:Nat):Int):=by omega
  first
   |(rw[bg w]at f;exact ar f (by decide))
   |(simp at f;omega)
 cases hwl with
 |cons x y=>
  cases y;cases x with
  |list u hall=>exact⟨_,_,b,J,J,u,Iq b _ hall,c⟩
def RB(l:ig)(args:List WData):l.row.toRowW.claim.post args (.bool γ) args=γ:=
 postW_of (r:=l.row.toRowW) (X:=(γ==γ))
  (show rW [] (.bool γ) .bool=γ by first|rfl|decide|simp[rW,WShape.arms,WShape.armsAll])
  (show (WTm.eq .res (.lit (.bool γ))).value [] { args:=args,res:=Z (.bool γ),after:=args }=Z (.bool (γ==γ)) from w_eq_bool (w_res J) w_lit) J
def Gn{l:ig}{d:DefRec}
  (E:l.most=Z n) (hdf:d.params.defaults=[])
  (call:∀(w:aw) (c b:af) (m u:Str->Option aa) (h:Addr) (o:Obj) (x j doc:aa) (a:Addr) (e:List aa) (p:List Int),
   Ground q loose [] XP w c m u b.heap->YP w b.heap->
   b.heap.get? h=Z o->o.data=.func (docDef d.name d.params d.body d.scope x j doc)->b.heap.CodeRec j d.name->m d.name=Z (.ref h)->
   b.heap.get? a=Z { cls:=.type "list", data:=.seq e.toArray }->jh e p->p.length<=n->b.gens=#[]->
   cz (model l.prog w) callerA (.call (.ref h) ⟨[.ref a],[]⟩) (λr t=>r=.ok (.ret (.bool γ))/\OldK b.heap t.heap/\t.os=b.os/\fw t.gens) b):
  WalkO q loose XP YP l.row.toRowW d [] (λf e=>nN f e):=by
 intro w c b m u G Y h o x j doc dV kV F hd hcd hD hmg B args vals as hpre hlay hrd hwl hlo;obtain rfl:dV=.none:=Dflts.none hD hdf;obtain rfl:kV=.none:=Dflts.noKw hD;obtain⟨a,e,p,rfl,rfl,hobj,hints,i⟩:=RA E hpre hwl;refine enter_call (hE (call w c b m u h o x j doc a e p G Y F (fd_plain hd) hcd hmg hobj hints i B) λr t H=>?_);obtain⟨rfl,y,z,A⟩:=H;exact⟨.inl ⟨.bool γ,.bool γ,[],J,λv=>J,.bool γ,RB l _,λv=>⟨List.Pairwise.nil,λv C=>(nomatch C)⟩⟩,y,z,A⟩
end Att
namespace L2
open PySem PySem.Spec PyProof.Rows
theorem KM:∀{b:List aa} {a:List Int},jh b a->de (a.map V.int) b
 |_,_,.nil=>.nil
 |_,_,.cons n t h=>.cons ⟨t,J⟩ (KM h)
def Only(H:Hp):Prop:=∀b,H b=O\/∃o a,H b=Z (.lb o (.b4 a))
def Tr{K:av}{c:af}{j:List aa}
  (KX:K.In c.heap) (hns:c.heap.Ns aZ A) (f:c.heap.Ns builtinsNs Q) (hbb:∀x:Str,x≠"__name__" -> Q x=d9 x) (hlim:c.heap.NoLimit) (hg:c.gens=#[])
  (y:c.heap.get? a=Z { cls:=.type "list", data:=.seq j.toArray }) (M:jh j B) (N:B.length<=aF) (hr:xj k callerA)
  (F:∀b1:Heap,K.In b1->b1.Ns aZ A->zi P w K A b1 CX k I W [x] sp) (hbind:∀(s:af) (u:aa),il s W ⟨[u],[]⟩ [(x,u)])
  (hsp:∀H:Hp,Only H->fb K H a (B.map V.int)->sp [.ref a] H (λv _=>v=.U γ) λ_ _ _=>False)
  (hCX:∀H e i,CX [] H c (λ_ _ _=>False) e i->False):
  cz (model P w) callerA (.call (.ref I) ⟨[.ref a],[]⟩) (λr i=>r=.ok (.ret (.bool γ))/\OldK c.heap i.heap/\i.os=c.os/\fw i.gens) c:=by
 have R:=KM M;have lenV:=M.length;have core:∀H:Hp,Only H->fb K H a (B.map V.int)->nj P w H c.heap->(∀b,H b≠O->b=a)->(H a≠O->K.lookup a=O)->
   cz (model P w) callerA (.call (.ref I) ⟨[.ref a],[]⟩) (λr i=>r=.ok (.ret (.bool γ))/\OldK c.heap i.heap/\i.os=c.os/\fw i.gens) c:=by
  intro H hO hS er hA hK;have base_of:∀{b:Addr} {o:Obj},c.heap.get? b=Z o->H b=O->(LG c.heap H).get? b=Z o:=λe n=>SM e n;have noA:∀{b:Addr} {o:Obj} {p:Array DictEntry} {l:Nat},c.heap.get? b=Z o->o.data=.dict p l->H b=O:=λ{b o p l} e d=>by
   cases q:H b with
   |none=>rfl
   |some u=>have C:b=a:=hA b (by rw[q];simp);subst C;rw[y]at e;cases e;have S:Data.seq j.toArray _=Data.dict p l:=d;cases S
  have nsK:∀{b:Addr} {m:Str->Option aa},c.heap.Ns b m->(LG c.heap H).Ns b m:=λ{b m} ⟨o,p,l,e,d,r⟩=>⟨o,p,l,base_of e (noA e d),d,r⟩;have hKb:K.In (LG c.heap H):=λb o e=>base_of (KX b o e) (by
   cases q:H b with
   |none=>rfl
   |some u=>
    have C:b=a:=hA b (by rw[q];simp);subst C;rw[hK (by rw[q];simp)]at e;cases e)
  have hM:Mod K A (LG c.heap H):=⟨hKb,nsK hns,⟨Q,nsK f,hbb⟩,let ⟨mc,Y,h2⟩:=hlim;⟨mc,nsK Y,h2⟩⟩;have T:Ox P w K A (LG c.heap H) callerA [] c H:=⟨J,hM,λb o e=>Wh e,rq (Q9 _ _),trivial,λb f=>ar (show b∈([]:List Addr) from f) (by simp),er,.of_eq hg⟩;refine hE ((F _ hKb (nsK hns)).run callerA [] c H ⟨[.ref a],[]⟩ [.ref a] [.ref a] _ _ hr T (hbind c (.ref a)) (.cons J .nil) (hsp H hO hS)) λr i h=>?_;cases r with
  |error e=>exact(hCX H e i h).elim
  |ok X=>
   cases X with
   |next=>exact c7 h
   |brk=>exact c7 h
   |cont=>exact c7 h
   |ret u=>
    obtain⟨v,H',os,gi,un,hok',r',q⟩:=h;have q':v=.U γ:=q;subst q';obtain rfl:u=Value.bool γ:=r';refine⟨J,OldK.of_keep λb o e=>?_,os,gi⟩;cases q:H b with
    |none=>exact un.keep b o e q (by intro z;exact ar (show b∈([]:List Addr) from z) (by simp)) (by simp)
    |some u=>
     rcases hO b with z|⟨ob,xs,z⟩
     .rw[q]at z;cases z
     .have z2:=un.vj b ob _ z;obtain⟨G,_⟩:=er b _ z;obtain⟨U,_⟩:=hok' b _ z2;rw[e]at G;cases G;exact U
 cases E:K.lookup a with
 |some o=>have e:=KX a o E;rw[y]at e;cases e;refine core (λ_=>O) (λ_=>.inl J) (.inr ⟨_,j.toArray,_,E,J,J,J,by rw[bb,lenV];exact N,by simpa using R⟩) (λb u z=>by have t:(O:Option HO)=Z u:=z;cases t) (λb z=>ar J z) λz=>ar J z
 |none=>
  refine core (λb=>if b=a then Z (.lb { cls:=.type "list", data:=.seq j.toArray } (.b4 (B.map V.int)))else O) (λb=>?_) (.inl (.inr ⟨{ cls:=.type "list", data:=.seq j.toArray },aj J⟩)) (λb u z=>?_) (λb z=>?_) λ_=>E
  .by_cases f:b=a
   .exact .inr ⟨_,_,aj f⟩
   .exact .inl (ak f)
  .by_cases f:b=a
   .have t:=(aj f).symm.t z;cases t;subst f;exact⟨y,by rw[ag];exact N,j,_,R,y⟩
   .have t:=(ak f).symm.t z;cases t
  .by_cases f:b=a
   .exact f
   .exact ar (ak f) z
def WK{l:ig}{n k:Nat}{q:aB}{loose:aC}{XP:(Str->Option aa)->Heap->Prop}{YP:aw->Heap->Prop}{d:DefRec}{K:Params->av}{CX:aw->CXT}{sp:aw->Sp}{x:Str}
  (E:l.most=Z n) (t:n<=aF) (hdf:d.params.defaults=[]) (I:xj k callerA)
  (hY:∀(w:aw) (h:Heap),YP w h->(K w.params).In h)
  (F:∀(w:aw) (i:Str->Option aa) (m:Addr) (h:Heap),(K w.params).In h->h.Ns aZ i->i d.name=Z (.ref m)->
   ∃r:bU,(∀(s:af) (u:aa),il s r ⟨[u],[]⟩ [(x,u)])/\
    ∀b1:Heap,(K w.params).In b1->b1.Ns aZ i->zi l.prog w (K w.params) i b1 (CX w) k m r [x] (sp w))
  (hsp:∀(w:aw) (H:Hp) (a:Addr) (p:List Int),p.length<=n->Only H->fb (K w.params) H a (p.map V.int)->sp w [.ref a] H (λv _=>v=.U γ) λ_ _ _=>False)
  (hCX:∀(w:aw) (H:Hp) (s:af) (e:aa) (y:af),CX w [] H s (λ_ _ _=>False) e y->False):
  W.WalkO q loose XP YP l.row.toRowW d [] (λf A=>nN f A):=by
 refine Att.Gn E hdf λw z j i P m o Q M doc a A p G Y N hd hcd hmg hobj hints c C=>?_;have KX:=hY w _ Y;obtain⟨r,B,hF⟩:=F w i m _ KX G.T.g hmg;exact Tr KX G.T.g G.T.b G.T.builtins G.T.nolimit C hobj hints (bC c t) I hF B (λH hO hS=>hsp w H a p c hO hS) λH e y=>hCX w H j e y
def cm(s:Stmt)(j:Nat):Stmt:=match s with
 |.ClassDef _ _ _ body _ _ _ _ _ _ _=>body.getD j (.Pass ⟨0,0,0,0⟩)
 |_=>.Pass ⟨0,0,0,0⟩
def yM(s:Stmt):Arguments:=match s with
 |.FunctionDef _ a _ _ _ _ _ _ _ _=>a
 |_=>{ posonlyargs:=[],args:=[],vararg:=O,kwonlyargs:=[],kw_defaults:=[],kwarg:=O,defaults:=[] }
def vQ(s:Stmt):List Stmt:=match s with
 |.FunctionDef _ _ b _ _ _ _ _ _ _=>b
 |_=>[]
def vn(s:Stmt):cQ:=match s with
 |.FunctionDef _ _ _ _ _ _ a _ _ _=>a
 |_=>{ kind:=.function,names:=[],isGenerator:=δ,isCoroutine:=δ }
abbrev ze:CXT:=λy y y y y y=>False
abbrev E0:XK:=λy y y=>False
def Ja:mu ze X E0:=λy y y y y y y h=>h.elim
structure T?(K:av)(x qual:Str)(st:Stmt)(f:Addr)(fd:bU):Prop where
 ex:∃(oc:aa) (od:Option Addr) (kV doc pm:aa) (an:Option Addr) (cdv ct:aa) (osl:Array (Option aa)),
  fd=fA x qual (yM st) (vQ st) (vn st) .none kV doc pm an cdv ct/\K.lookup f=Z ⟨oc,od,.func fd,osl⟩/\ie K cdv qual=γ
 kp:eB K (.ref f)=γ
section
variable{P:aB}{w:aw}{K:av}{mg:Str->Option aa}{b1:Heap}
theorem T?.ok{x qual:Str}{st:Stmt}{f:Addr}{c:bU}{N ps:aC}{k:Nat}{b:Sp}(F:T? K x qual st f c)(S:xl N ps (vn st))(len:∀a H Q E,b a H Q E->a.length=ps.length)
  (hbody:∀(cdv:aa) (A:aG) (cf:List Env) (s:af) (H:Hp) (a:bA) (Q:VK) (E:XK),xj k (A.deeper (envOfC qual (vn st) s.heap.objs.size f cdv))->b a H Q E->
   ∃t,k? (MR ze P w K mg b1 N qual (vn st) f cdv A cf s H E).nox (vQ st) t/\t { nx:=λy d=>Q .J d,rt:=Q } (start N a) H):zi P w K mg b1 ze (k+1) f c ps b:=by
 obtain⟨l,m,kV,doc,o,i,cdv,j,osl,rfl,lk,hcd⟩:=F.ex;refine YJ lk hcd S len λA cf s H a Q E e hsp=>?_;obtain⟨t,h,q⟩:=hbody cdv A cf s H a Q E e hsp;exact⟨t,h.nox,q⟩
theorem T?.oe{x qual:Str}{st:Stmt}{f:Addr}{i:bU}{d:aC}(F:T? K x qual st f i)
  (h:∀(kV doc c:aa) (a:Option Addr) (cdv b:aa) (e:List aa),e.length=d.length->bindArgs (fA x qual (yM st) (vQ st) (vn st) .none kV doc c a cdv b) ⟨e,[]⟩=pure (d.zip e)):jj K i d []:=by
 obtain⟨j,l,kV,doc,c,a,cdv,b,osl,rfl,lk,hcd⟩:=F.ex;exact .all (h kV doc c a cdv b)
end
def MZ(a:xj k A):A.units+1<cLine:=jP (Nat.add_le_add_left (by decide:1<=64) _) a.units
def DS(h:n<=1000):n<aF:=jP h (by decide)
section
variable{X:Cx}
def pv(i:Nat)(hN:X.N[i]?=Z x:=by rfl)(a:Vis X.b3.scope x:=by first|exact Or.inl J|exact Or.inr (Or.inl J)|exact Or.inr (Or.inr J))(hd:(x==("__debug__" : Str))=δ:=by decide)
  (hcd:(x==("__classdict__" : Str))=δ:=by decide):PE X (.Name x pos) (BU i):=Zj hN a hd hcd
end
def LV{A B:Prop}(h:B):if δ=γ then A else B:=by rw[ak br];exact h
def LW{A B:Prop}(h:A):if γ=γ then A else B:=by rw[aj J];exact h
def ve(H a:Hp):Prop:=∀b o,H b=Z o->a b=Z o
def ve.refl(H:Hp):ve H H:=λy y h=>h
def ve.t(a:ve H d)(b:ve d e):ve H e:=λc o h=>b c o (a c o h)
def ve.seq{K:av}{H b:Hp}{a:Addr}{xs:bA}(e:ve H b)(h:fb K H a xs):fb K b a xs:=by
 rcases h with (h|⟨o,h⟩)|h
 .exact .inl (.inl (e _ _ h))
 .exact .inl (.inr ⟨o,e _ _ h⟩)
 .exact .inr h
end L2
set_option maxHeartbeats 4000000
namespace L3
open PySem PySem.Spec PyProof.Rows L2
abbrev St:=L2.St
theorem Jb{d a:Type}{f:d->a->Sem (ForInStep a)}{g:a->d->a}:∀(l:List d) (b:a),(∀x∈l,∀c,f x c=pure (ForInStep.yield (g c x)))->(forIn l b f:Sem a)=pure (l.foldl g b)
 |[],b,_=>by simp
 |x::r,b,h=>by rw[mI,h x ba b];show (forIn r (g b x) f:Sem a)=_;rw[Jb r (g b x) λy e c=>h y (bc _ e) c];rfl
def CC(cells:List (Str×Addr))(cs:List (Str×Addr))(x:Str×eC):List (Str×Addr):=if (x.2==NameKind.free)=γ then (x.1,(cells.lookup x.1).getD 0)::cs else cs
def Ar(cells:List (Str×Addr))(names:List (Str×eC)):List (Str×Addr):=names.foldl (CC cells) []
def Ko{scope:cQ}{b3:Env}(h:∀x∈scope.names,x.2=.free->∃c,b3.cells.lookup x.1=Z c):
  closureFor scope b3=pure (Ar b3.cells scope.names):=by
 simp only[closureFor];rw[Jb (g:=CC b3.cells) scope.names [] λx i c=>by
  obtain⟨n,k⟩:=x;by_cases b:k=.free
  .subst b;obtain⟨a,e⟩:=h _ i J;have d:=e;simp only[CC,cellOf,d,beq_self_eq_true,if_true,qg];rfl
  .have f:(k==NameKind.free)=δ:=by simpa using b
   simp only[CC,f,eQ,if_false]]
 rfl
set_option tactic.hygienic true
theorem M0{cells:List (Str×Addr)}:∀(names:List (Str×eC)) (acc:List (Str×Addr)),(∀x∈names,x.2=.free->∃c,cells.lookup x.1=Z c)->(∀x c,acc.lookup x=Z c->cells.lookup x=Z c)->
  ∀x c,(names.foldl (CC cells) acc).lookup x=Z c->cells.lookup x=Z c
 |[],acc,_,j,x,c,e=>j x c e
 |y::r,acc,h,j,x,c,e=>by
  refine M0 r (CC cells acc y) (λz p=>h z (bc _ p)) (λz d b=>?_) x c e;obtain⟨n,k⟩:=y;unfold CC at b;split at b
  .rename_i o;obtain⟨a,m⟩:=h (n,k) ba (by simpa using o);have f:=m;rw[eV]at b;cases l:z==n with
   |true=>rw[l]at b;have i:=b;rw[f]at i;rw[fR l,f];exact i
   |false=>rw[l]at b;exact j z d b
  .exact j z d b
set_option tactic.hygienic false
theorem KN:∀(names:List (Str×eC)) (acc:List (Str×Addr)) (x:Str),(∃c,acc.lookup x=Z c)->∃c,(names.foldl (CC cells) acc).lookup x=Z c
 |[],_,_,h=>h
 |y::r,acc,x,h=>by
  refine KN r (CC cells acc y) x ?_;unfold CC;split
  .rw[eV];cases x==y.1 with
   |true=>exact⟨_,J⟩
   |false=>exact h
  .exact h
theorem Jc:∀(names:List (Str×eC)) (acc:List (Str×Addr)) (x:Str),(x,NameKind.free)∈names->∃c,(names.foldl (CC cells) acc).lookup x=Z c
 |[],_,_,h=>by cases h
 |y::r,acc,x,h=>by
  rcases aM.1 h with e|h
  .subst e;refine KN r _ x ?_;unfold CC;rw[aj (by simp),eV];simp
  .exact Jc r _ x h
set_option tactic.hygienic true
theorem BV{b3:Env}(x:Str):∀(names:List (Str×eC)),
  (names.map λ(n,k)=>if (k==NameKind.free&&b3.scope.kind==.function&&b3.kindOf n==Z .cell)then (n,NameKind.cell)else (n,k)).lookup x=
   (names.lookup x).map λk=>if (k==NameKind.free&&b3.scope.kind==.function&&b3.kindOf x==Z .cell)=γ then NameKind.cell else k
 |[]=>rfl
 |(n,k)::r=>by
  have c:=BV (b3:=b3) x r;rw[aI,eV (k:=n)];show dN x ((if (k==NameKind.free&&b3.scope.kind==.function&&b3.kindOf n==Z .cell)=γ then (n,NameKind.cell)else (n,k))::_)=_;cases a:x==n with
  |true=>
   have e:=fR a;subst e;split
   .rename_i b;simp only[eV,a,gp,b,if_true]
   .rename_i b;simp only[eV,a,gp];rw[ak b]
  |false=>
   rw[<-c];split
   .simp only[eV,a]
   .simp only[eV,a]
set_option tactic.hygienic false
def OC{scope:cQ}(hcell:∀y∈scope.names,y.2≠.cell)(h:(relabel scope b3).names.lookup x=Z .cell\/(relabel scope b3).names.lookup x=Z .free):(x,NameKind.free)∈scope.names:=by
 have e:=BV (b3:=b3) x scope.names;have a:(scope.names.lookup x).map (λk=>if (k==NameKind.free&&b3.scope.kind==.function&&b3.kindOf x==Z .cell)=γ then NameKind.cell else k)=Z .cell\/
   (scope.names.lookup x).map (λk=>if (k==NameKind.free&&b3.scope.kind==.function&&b3.kindOf x==Z .cell)=γ then NameKind.cell else k)=Z .free:=by
  rw[<-e];exact h
 cases q:scope.names.lookup x with
 |none=>rw[q]at a;rcases a with z|z<;>cases z
 |some k=>
  rw[q]at a;have b:=mem_of_lookup q;have c:=hcell _ b;cases k with
  |free=>exact b
  |cell=>exact ar J c
  |_=>rcases a with z|z<;>cases z
def Kp{scope:cQ}(h:scope.names.lookup x=Z .free):(relabel scope b3).names.lookup x=Z .cell\/(relabel scope b3).names.lookup x=Z .free:=by
 have e:=BV (b3:=b3) x scope.names;have a:(relabel scope b3).names.lookup x=(scope.names.lookup x).map λk=>if (k==NameKind.free&&b3.scope.kind==.function&&b3.kindOf x==Z .cell)=γ then NameKind.cell else k:=e
 rw[a,h,gp];split
 .exact .inl J
 .exact .inr J
def wZ(X:Cx)(a:aC)(scope:cQ)(cl:List (Str×Addr))(C:Addr)(fp:List Addr)(s:af)(H:Hp):Cx:=
 { X with N:=a,s₀:=s,H₀:=H,b3:=compEnvC scope cl C X.b3,cf:=X.stack,ex:=fp,fn:=λy=>δ,pn:=[],xe:=λy y=>False }
def PIf(X:Cx)(ifs:List Expr)(t:TT):Prop:=
 ∀(a:cE) (s:af) (b:St) (H:Hp) (Q:Bool->Hp->Prop),cb X a b H s->t b H Q->
  ah (model X.prog X.w) X.A (forIn ifs γ λc r=>if r=γ then do let ok<-isTrue c X.b3 (eval c X.b3);pure (ForInStep.yield ok)else pure (ForInStep.yield r)) (TP X a b Q) X.xe s
def tIf0:TT:=λy H Q=>Q γ H
def WL:PIf X [] tIf0:=λy y y H y I h=>wpAny_tests_nil ⟨H,I,h⟩
def WM(h:PT X c t):PIf X [c] t:=λa s d H Q I b=>wpAny_tests_one (h a s d H Q I b)
section
variable{prog:aB}{w:aw}{A:aG}{R:fT->af->Prop}{s:af}
def LX(u:Nat->af->Prop)
  (turn:∀n s,u n s->ah (model prog w) A (pyNext C) (λr d=>match r with
   |none=>R (.ok .next) d
   |some v=>ah (model prog w) A (iW target C v) (λ_ f=>ah (model prog w) A (assign target b3 v) (λ_ o=>
     ah (model prog w) A (forIn ifs γ λc r=>if r=γ then do let ok<-isTrue c b3 (eval c b3);pure (ForInStep.yield ok)else pure (ForInStep.yield r)) (λok i=>
      if ok=γ then ah (model prog w) A (eval elt b3) (λx p=>
       ah (model prog w) A (call (.builtin "list.append") [acc,x]) (λ_ q=>∃m,m<n/\u m q) (notedBy (model prog w) A b3 λe b=>R (.error e) b) p) (notedBy (model prog w) A b3 λe b=>R (.error e) b) i
      else ∃m,m<n/\u m i) (notedBy (model prog w) A b3 λe b=>R (.error e) b) o) (notedBy (model prog w) A b3 λe b=>R (.error e) b) f)
      (notedBy (model prog w) A b3 λe b=>R (.error e) b) d) (notedBy (model prog w) A b3 λe b=>R (.error e) b) s)
  (n:Nat) (h:u n s):
  cz (model prog w) A (.compLoop (.ListComp elt [⟨target,iter,ifs,0⟩] scope pos) 0 C acc b3) R s:=by
 refine codeAny_loop J u (λn s hI=>?_) n h;refine wpAny_noted ?_;rw[compTurn_list];refine ae (j9 (ae (cq (turn n s hI) (λr d j=>?_) λ_ _ a=>a)));cases r with
 |none=>exact aq j
 |some v=>
  refine ae (cq j (λ_ f t=>?_) λ_ _ a=>a);refine ae (cq t (λ_ o y=>ae (cq y (λok i l=>?_) λ_ _ a=>a)) λ_ _ a=>a);cases ok with
  |false=>exact aq ⟨J,l⟩
  |true=>exact ae (ae (cq l (λx p z=>ae (cq z (λ_ q B=>aq (aq ⟨J,B⟩)) λ_ _ a=>a)) λ_ _ a=>a))
end
def yN(k:Nat)(d6:List Nat)(a:St):St:=b0 k O++d6.map λj=>(a[j]?).join
def KO(h:(yN k d6 b)[i]?=Z (Z v)):k<=i:=by
 by_cases a:k<=i
 .exact a
 .unfold yN at h;rw[fZ (by rw[c5];omega),jD]at h;split at h<;>cases h
def RD{k:Nat}{d6:List Nat}{b:St}{N a:aC}{i:Nat}{v:V}{x:Str}(hcap:(a.drop k).map Z=d6.map λj=>N[j]?)(f:a[i]?=Z x)(h:(yN k d6 b)[i]?=Z (Z v)):
  ∃j:Nat,N[j]?=Z x/\b[j]?=Z (Z v)/\x∈a.drop k:=by
 have d:=KO h;unfold yN at h;rw[fY (by rw[c5];exact d),c5,bx]at h;have hd:(a.drop k)[i - k]?=Z x:=by rw[fE,show k+(i - k)=i by omega];exact f
 have e:=bw (λl=>l[i - k]?) hcap;simp only[bx,hd,gp]at e;cases q:d6[i - k]? with
 |none=>rw[q]at h;cases h
 |some j=>
  rw[q]at h e;simp only[gp,uI]at h e;refine⟨j,e.symm,?_,bL hd⟩;cases z:b[j]? with
  |none=>rw[z]at h;cases h
  |some o=>rw[z]at h;have c:o=Z v:=h;rw[c]
def G8(u:TI)(g:TG)(t:TT)(r:TE)(k:Nat)(d6:List Nat):TE:=λf H Q=>u f H λe h=>∀p,h p=O->
 ∃W:Nat->Nat->bA->Hp->Prop,(∃m,W 0 m [] (eg h p (.b4 [])))/\∀i m acc c,W i m acc c->
  (e.stop i c/\Q (.ref p) c)\/
   (e.go i c/\∀x j,e.yld i c x j->g x (yN k d6 f) j λa q=>a.drop k=(yN k d6 f).drop k/\t a q λb l=>
    if b=γ then r a l λy o=>∃acc',o p=Z (.b4 acc')/\acc'.length<aF/\∃d,d<m/\W (i+1) d (acc'++[y]) (eg o p (.b4 (acc'++[y])))
    else ∃d,d<m/\W (i+1) d acc l)
def KP{X:Cx}{d6:List Nat}
  (hc:X.j0=γ) (hi:PI X tg iter wi)
  (body:∀(cl:List (Str×Addr)) (C:Addr) (fp:List Addr) (s:af) (H:Hp),PG (wZ X B scope cl C fp s H) tg g/\PIf (wZ X B scope cl C fp s H) ifs tt/\PE (wZ X B scope cl C fp s H) elt te)
  (hkind:scope.kind=.function) (hcell:(scope.names.all λy=>y.2 != .cell)=γ)
  (hloc:(scope.names.all λy=>y.2 != .local||scope.names.lookup y.1==Z .local)=γ)
  (hfree:(scope.names.all λy=>y.2 != .free||(X.b3.kindOf y.1==Z .cell||X.b3.kindOf y.1==Z .free))=γ)
  (hlen:B.length=k+d6.length) (hcap:(B.drop k).map Z=d6.map λj=>X.N[j]?)
  (hcf:((B.drop k).all λx=>scope.names.lookup x==Z .free)=γ)
  (hs:∀x,iN iter X.b3 x=pure x)
  (I:cb X pins σ H s) (h:G8 wi g tt te k d6 σ H Q)
  (fin:∀a C m u s4 H3,s4.heap.Ns C m->cb X pins σ H3 s4->Kk X pins H3 C->Q (.ref a) H3->compPost (model X.prog X.w) X.A X.xe use P (.ref a) C (.ok u) s4):
  ah (model X.prog X.w) X.A (comprehension (.ListComp elt [⟨tg,iter,ifs,0⟩] scope pos) scope X.b3 (firstIterPos [⟨tg,iter,ifs,0⟩] pos) (newList []) δ (eval iter X.b3) use) P X.xe s:=by
 have hcell':∀y∈scope.names,y.2≠.cell:=λy M e=>by have z:=aQ.1 hcell y M;rw[e]at z;exact ar z (by decide)
 have hloc':∀y∈scope.names,y.2=.local->scope.names.lookup y.1=Z .local:=λy M e=>by have z:=aQ.1 hloc y M;rw[e]at z;simpa using z
 have hfree':∀y∈scope.names,y.2=.free->X.b3.kindOf y.1=Z .cell\/X.b3.kindOf y.1=Z .free:=λy M e=>by have z:=aQ.1 hfree y M;rw[e]at z;simpa using z
 have hcl:=λy M e=>I.ok.has y.1 (hfree' y M e);refine wpAny_comprehension_free J hs (Ko hcl) hkind hloc' (e0 (hi pins s σ H _ I h) λxv s₁ E=>e0 E λit l h₂=>?_);obtain⟨ita,fp,tn,A',H2,e,I2,T,st2,G,R2⟩:=h₂;subst e;obtain⟨W,⟨m0,w0⟩,turn⟩:=R2 l.heap.objs.size (I2.er.fresh (aJ _));refine dj (wpAny_newFunctionEnv hcell' (by intro y M;simp at M) (λE hns₁ hsb₁=>?_) hkind);dsimp only at hns₁ hsb₁ ⊢;generalize hp:l.heap.push { cls:=.type "list", dict:=O,data:=.seq ([]:List aa).toArray }=hpL at hns₁ hsb₁ ⊢;have hsz:hpL.objs.size=l.heap.objs.size+1:=by rw[<-hp,cy]
 have t:cb X pins σ (eg H2 l.heap.objs.size (.b4 [])) { l with heap:=hpL }:=by rw[<-hp];exact I2.laid (λb u e=>aA _ e) (aJ _) ⟨cp _,[],0,.nil,aX _ J⟩
 have old:=λb o e=>hsb₁.extBut b o (aT (aL e)) (aA _ e);have older:∀b o,l.heap.get? b=Z o->hpL.get? b=Z o:=λb o e=>by rw[<-hp];exact aA _ e
 have hfpS:=λb hb=>let ⟨o,e,_⟩:=T.obj _ _ st2 b hb;aL e;have sub:=M0 scope.names [] hcl (λx c e=>by cases e);have R:(wZ X B scope (Ar X.b3.cells scope.names) hpL.objs.size fp { l with heap:=hpL } (eg H2 l.heap.objs.size (.b4 []))).Ok:={
  xo:=t.ok.xo
  kind:=hkind
  vo:=t.ok.vo
  blt:=t.ok.blt
  above:=aJ _
  inj:=λx y c h1 h2=>t.ok.inj x y c (sub x c h1) (sub y c h2)
  has:=λx F=>Jc scope.names [] x (OC hcell' F)
  cab:=λx c hf _=>ar (show δ=γ from hf) br
  hd:=t.ok.hd
  frames:=t.ok.frames
  stk:=.inl J
  exf:=λb hb=>⟨(by
   rw[hsz];exact aT (eU (hfpS b hb))),λx c e=>(G b hb).2.2.2.2.1 x c (sub x c e)⟩
  bs:=t.bs
  bsz:=bC t.ok.bsz t.sz
  ε:=λb o e hb=>by
   rcases(G b hb).2.2.2.1 with z|z
   .exact t.ok.ε b o e z
   .exact ar (ck (aL e) (bC t.ok.bsz z)) (d8 _)
  X?:=λb hb z=>(aM.1 (t.Rl b z)).elim (G b hb).2.1 (G b hb).2.2.1
  p?:=t.stack
  frf:=t.T' }
 have IX:cb (wZ X B scope (Ar X.b3.cells scope.names) hpL.objs.size fp { l with heap:=hpL } (eg H2 l.heap.objs.size (.b4 []))) [] (yN k d6 σ) (eg H2 l.heap.objs.size (.b4 []))
   { l with heap:=E,toks:=l.toks+([]:List (Str×aa)).length }:={
  ok:=R
  os:=rfl
  gi:=t.gi
  b1:=Un.fc old
  Dx:=⟨_,hns₁,λi x v e1 e2 _=>by
   obtain⟨j,hj,hσ,hm⟩:=RD hcap e1 e2;have F:=by simpa using aQ.1 hcf x hm
   have hk:=hfree' (x,.free) (mem_of_lookup F) J;obtain⟨m,hn,hl⟩:=t.Dx;obtain⟨u,r,lk⟩:=hl j x v hj hσ (hk.elim (λz=>.inr (.inl z)) λz=>.inr (.inr z));refine⟨u,r,.inr ⟨Kp F,?_⟩⟩;rcases lk with ⟨z,_⟩|⟨_,c,e,o,ho,hd⟩
   .rcases hk with y|y
    .rw[y]at z;cases z
    .rw[y]at z;cases z
   .obtain⟨c',e'⟩:=Jc scope.names [] x (mem_of_lookup F);have ec:=sub x c' e';rw[e]at ec;have ec':=cJ ec;subst ec';exact⟨c,e',o,old _ _ ho,hd⟩⟩
  cell:=λx c e=>by obtain⟨v,o,ho,hd⟩:=t.cell x c (sub x c e);exact⟨v,o,old _ _ ho,hd⟩
  free:=t.er.fresh (aJ _)
  j4:=λx c e=>t.j4 x c (sub x c e)
  E?:=λp hp=>ar (show p∈([]:cE) from hp) (by simp)
  er:=t.er.fc old
  len:=by
   show (yN k d6 σ).length=B.length;rw[hlen];unfold yN;rw[aE,c5,ag] }
 have stat:∀{H':Hp},(∀b∈fp,H' b=O)->∀b∈fp,Kk (wZ X B scope (Ar X.b3.cells scope.names) hpL.objs.size fp { l with heap:=hpL } (eg H2 l.heap.objs.size (.b4 []))) [] H' b:=λhn b hb=>⟨hn b hb,(R.exf b hb).1,R.X? b hb,.inl hb,(R.exf b hb).2,λp hp=>ar (show p∈([]:cE) from hp) (by simp)⟩
 have st4:=T.keep _ _ _ st2 λb _ o e=>old b o (older b o e);have loop:cz (model X.prog X.w) X.A (.compLoop (.ListComp elt [⟨tg,iter,ifs,0⟩] scope pos) 0 (.ref ita) (.ref l.heap.objs.size) (compEnvC scope (Ar X.b3.cells scope.names) hpL.objs.size X.b3))
   (compPost (model X.prog X.w) X.A X.xe use P (.ref l.heap.objs.size) hpL.objs.size) { l with heap:=E,toks:=l.toks+([]:List (Str×aa)).length }:=by
  refine LX (λn s'=>∃i acc H',cb (wZ X B scope (Ar X.b3.cells scope.names) hpL.objs.size fp { l with heap:=hpL } (eg H2 l.heap.objs.size (.b4 []))) [] (yN k d6 σ) H' s'/\tn i s'.heap/\(∀b∈fp,H' b=O)/\W i n acc H')
   ?_ m0 ⟨0,[],_,IX,st4,λb hb=>?_,w0⟩
  .rintro n s3 ⟨i,acc,H3,I4,st3,fr3,w3⟩;rcases turn i n acc H3 w3 with ⟨stop,qn⟩|⟨go,step⟩
   .refine e0 (T.done (wZ X B scope (Ar X.b3.cells scope.names) hpL.objs.size fp { l with heap:=hpL } (eg H2 l.heap.objs.size (.b4 []))) J J J hc i [] s3 _ H3 _ I4 (stat fr3) st3 stop) λr s4 zz=>?_;obtain⟨hr,Y⟩:=zz;subst hr;obtain⟨m,hn,_⟩:=id Y.Dx;have U:=Y.b1;refine fin _ _ m _ _ _ hn (t.call' Y.os ⟨λb o e n hb F=>U.keep b o e n hb F,λb o e n hb F=>U.slot b o e n hb F,U.free,λb o e F=>U.there b o e F,U.tz,U.vj,U.B?⟩ Y.er Y.gi
     λb hb=>⟨(G b hb).2.2.2.1,(G b hb).2.1,(G b hb).2.2.2.2.1,(G b hb).2.2.2.2.2⟩) (t.K3 (aJ _) Y.free) qn
   .refine e0 (T.item (wZ X B scope (Ar X.b3.cells scope.names) hpL.objs.size fp { l with heap:=hpL } (eg H2 l.heap.objs.size (.b4 []))) J J J hc i [] s3 _ H3 _ I4 (stat fr3) st3 go) λr s4 zz=>?_;obtain⟨u,hr,h4⟩:=zz;subst hr;refine e0 h4 λ_ s5 zz=>?_;obtain⟨x,H5,Y,r5,y5,st5,fr5⟩:=zz;have I5':=Y.Ra (stat fr5) (T.obj _ _ st5);have again:∀{H8:Hp} {s8:af} {S:St} {acc8:bA} {m':Nat},cb (wZ X B scope (Ar X.b3.cells scope.names) hpL.objs.size fp { l with heap:=hpL } (eg H2 l.heap.objs.size (.b4 []))) ([]++IT fp s5.heap) S H8 s8->S.drop k=(yN k d6 σ).drop k->m'<n->W (i+1) m' acc8 H8->
      ∃m,m<n/\∃i acc H',cb (wZ X B scope (Ar X.b3.cells scope.names) hpL.objs.size fp { l with heap:=hpL } (eg H2 l.heap.objs.size (.b4 []))) [] (yN k d6 σ) H' s8/\tn i s8.heap/\(∀b∈fp,H' b=O)/\W i m acc H':=λ{H8 s8 S acc8 m'} I8 hd8 hm8 w8=>by
     refine⟨m',hm8,i+1,acc8,H8,I8.ki.dd (IX.len.t I8.len.symm) (λj v e=>?_),T.keep _ _ _ st5 λb hb o e=>(I8.E? (b,o) (bB _ (bB _ (Aq hb e)))).1,λb hb=>?_,w8⟩
     .have hj:=KO e;have q:(S.drop k)[j - k]?=((yN k d6 σ).drop k)[j - k]?:=by rw[hd8]
      rw[fE,fE,show k+(j - k)=j by omega]at q;rw[q];exact e
     .obtain⟨o,e,d⟩:=T.obj _ _ st5 b hb;exact(I8.E? (b,o) (bB _ (bB _ (Aq hb e)))).2.1
    refine cq ((body _ _ _ _ _).1 _ s5 _ H5 x u _ I5' r5 (step x H5 y5)) (λ_ s6 h6=>?_) λ_ _ f=>f.elim;obtain⟨σ6,H6,I6,hd6,q6⟩:=h6;refine cq ((body _ _ _ _ _).2.1 _ s6 σ6 H6 _ I6 q6) (λb s7 h7=>?_) λ_ _ f=>f.elim;obtain⟨H7,I7,q7⟩:=h7;cases b with
    |false=>rw[ak br]at q7;rw[ak br];obtain⟨m',hm',w7⟩:=q7;exact again I7 hd6 hm' w7
    |true=>rw[aj J]at q7;rw[aj J];refine cq ((body _ _ _ _ _).2.2 _ s7 σ6 H7 _ I7 q7) (λyv s8 h8=>?_) λ_ _ f=>f.elim;obtain⟨y,H8,I8,r8,acc',hp8,hl8,m',hm',w8⟩:=h8;refine cq (Gq (X:=wZ X B scope (Ar X.b3.cells scope.names) hpL.objs.size fp { l with heap:=hpL } (eg H2 l.heap.objs.size (.b4 []))) _ s8 σ6 H8 (.ref l.heap.objs.size) [y] (.ref l.heap.objs.size) [yv] (λ_ Hx=>Hx=eg H8 l.heap.objs.size (.b4 (acc'++[y]))) I8 J (.cons r8 .nil) ⟨_,acc',y,J,J,hp8,hl8,J⟩) (λ_ s9 h9=>?_) λ_ _ f=>f.elim;obtain⟨_,H9,I9,_,e9⟩:=h9;subst e9;exact again I9 hd6 hm' w8
  .have z:=aT (hfpS b hb);rw[vb z];exact(G b hb).1
 exact codeAny_compStart_list loop (T.self _ 0 _ _ _ st4 loop)
def WN{X:Cx}{d6:List Nat}
  (w:X.j0=γ) (z:PI X q iter M)
  (body:∀(f:List (Str×Addr)) (C:Addr) (i:List Addr) (s:af) (H:Hp),PG (wZ X c scope f C i s H) q g/\PIf (wZ X c scope f C i s H) ifs G/\PE (wZ X c scope f C i s H) elt F)
  (hkind:scope.kind=.function:=by rfl) (hcell:(scope.names.all λy=>y.2 != .cell)=γ:=by rfl)
  (hloc:(scope.names.all λy=>y.2 != .local||scope.names.lookup y.1==Z .local)=γ:=by rfl)
  (hfree:(scope.names.all λy=>y.2 != .free||(X.b3.kindOf y.1==Z .cell||X.b3.kindOf y.1==Z .free))=γ:=by rfl)
  (d:c.length=k+d6.length:=by rfl) (hcap:(c.drop k).map Z=d6.map λj=>X.N[j]?:=by rfl)
  (hcf:((c.drop k).all λx=>scope.names.lookup x==Z .free)=γ:=by rfl)
  (B:∀x,iN iter X.b3 x=pure x:=by intro _;rfl):
  PE X (.ListComp elt [⟨q,iter,ifs,0⟩] scope pos) (G8 M g G F k d6):=by
 intro p s S H Q I h;exact KP w z body hkind hcell hloc hfree d hcap hcf B I h λa C m u R r A C? fpC E=>⟨m,A,λP l=>⟨.ref a,r,C?.gh (λb o t e=>(l.2 b t).t e) fpC.1 fpC.2.1 fpC.2.2.2.1 fpC.2.2.2.2.1 fpC.2.2.2.2.2,J,E⟩⟩
def Its(x:Str):It:=⟨λi y=>i<x.cps.size,λi H v a=>a=H/\∃c,x.cps[i]?=Z c/\v=.str ⟨#[c]⟩,λi y=>i=x.cps.size⟩
def aad(hQ:Q () s):ah M A (iW a (.ref b) (.str c t)) Q E s:=by cases a<;>exact aq hQ
def M3{K:av}(it:Addr)(ty:String)(x:Str)(t:Tok)
  (hW:∀A:aG,A.handled=O->Walks P w A it [it] [it] x.cps.size (SignAt x) (λi h=>h.IsStrIter it ty x t i))
  (hS:∀(A:aG) (i:Nat) (s:af) (Q:aa->af->Prop) (E:aa->af->Prop),s.heap.IsStrIter it ty x t i->Q (.ref it) s->ah (model P w) A (pyIter (.ref it)) Q E s):
  O? P w K tg (Its x) [it] it (λi h=>h.IsStrIter it ty x t i) where
 mem:=by simp
 obj:=λi h st b hb=>by
  have e:=by simpa using hb
  subst e;obtain⟨o,e,c,d⟩:=st;exact⟨o,e,λv z=>by rw[d]at z;cases z⟩
 keep:=λi h h' st k=>by obtain⟨o,e,r⟩:=st;exact⟨o,k it (by simp) o e,r⟩
 item:=by intro X hP hw hK p i pins s σ H E I hf st hg;subst hP hw hK;obtain⟨a,f,F,j,l,m⟩:=hf it (by simp);refine(hW _ (I.ok.hd p)).item i s _ _ hg st λv h' tk G B y=>?_;obtain⟨c,M,q,rfl⟩:=G;have C:cb X pins σ H { s with heap:=h',toks:=tk }:=I.gh (λb o hb e=>y b o (by simpa using hb) e) a f j l m;exact⟨_,J,aad ⟨.str ⟨#[c]⟩,H,C,⟨M,J⟩,⟨J,c,q,J⟩,B,λb hb=>(hf b hb).1⟩⟩
 done:=by intro X hP hw hK p i pins s σ H E I hf st hg;subst hP hw hK;obtain⟨a,f,F,j,l,m⟩:=hf it (by simp);have u:=hg;subst u;exact(hW _ (I.ok.hd p)).done s _ _ st λh' tk y=>⟨J,I.gh (λb o hb e=>y b o (by simpa using hb) e) a f j l m⟩
 self:=hS
section
variable{X:Cx}{tg:Expr}
def iStr(b:TE):TI:=λc H R=>b c H λv a=>∃x,v=.str x/\R (Its x) a
def aae(r:PE X l y):PI X tg l (iStr y):=by
 intro a s B H R I h;refine e0 (r a s B H _ I h) λv c zz=>?_;obtain⟨x,f,d,w,u⟩:=zz;obtain⟨z,e,q⟩:=u;subst e;obtain⟨t,rfl⟩:=w;have j:∀b∈[c.heap.objs.size],Kk X a f b:=λb p=>by
  have e:=by simpa using p
  subst e;exact d.K3 (aJ _) (d.er.fresh (aJ _))
 cases m:z.cps.all (· < 128)
 .refine wpAny_pyIter_wide m ⟨c.heap.objs.size,[c.heap.objs.size],_,_,f,J,d.fc λb o e=>aA _ e,M3 _ "str_iterator" z t (λA hA=>Walks.strWide hA _ z t) (λA i s Q E st hQ=>wpAny_pyIter_striter_wide st hQ),⟨_,aX _ J,J,J⟩,j,q⟩
 .refine wpAny_pyIter_ascii m ⟨c.heap.objs.size,[c.heap.objs.size],_,_,f,J,d.fc λb o e=>aA _ e,M3 _ "str_ascii_iterator" z t (λA hA=>Walks.strAscii hA _ z t) (λA i s Q E st hQ=>wpAny_pyIter_striter_ascii st hQ),⟨_,aX _ J,J,J⟩,j,q⟩
end
section
variable{X:Cx}
def RE:fu X (bz .LtE) (λx y H Q=>∃i j,x=.str i/\y=.str j/\Q (.U (!decide (j.cps.toList<i.cps.toList))) H):=by intro a s e H x y v u Q I b c h;obtain⟨i,j,rfl,rfl,q⟩:=h;obtain⟨t,rfl⟩:=b;obtain⟨d,rfl⟩:=c;exact PySem.P.le_str (vR I q J)
def M4:fu X (bz .IsNot) (λx y H Q=>∃i j,x=.U i/\y=.U j/\Q (.U (i != j)) H):=by intro a s d H x y v u Q I b c h;obtain⟨i,j,rfl,rfl,q⟩:=h;cases b;cases c;exact isnot_bool (vR I q J)
def Tt(y:X.j0=γ):wM X (.builtin "all") (λx H Q=>∃(p:Addr) (bs:List Bool),x=[.ref p]/\fb X.K H p (bs.map V.U)/\Q (.U (bs.all id)) H):=by
 intro t s U H x T Q I r h;obtain⟨p,bs,rfl,E,q⟩:=h;obtain⟨u,rfl,l⟩:=gk r;cases l;obtain⟨j,w,pl,P⟩:=I.list E;have hlt:p<s.heap.objs.size:=by obtain⟨o,C,_⟩:=pl.isList;exact aL C
 have B:=by have:=w.length;rw[ag]at this;exact this
 refine call_all_walk (fG pl.isList ⟨s.heap.objs.size,_,_,_,_,_,λi=>(bs[i]?).getD γ,J,jf (show X.A.in1.handled=O from I.ok.hd y) _ p (aT hlt) j.toArray,⟨⟨_,aX _ J,J,J⟩,?_⟩,?_,λN S z=>?_⟩)
 .exact pl.isList.at λo e=>aA _ e
 .intro i v R M G F hQ';have c:=by simpa using F
  have a:=(bX.1 c).1;have d:(bs.map V.U)[i]?=Z (.U (bs[i]'(by omega))):=by simp[show i<bs.length by omega]
  obtain⟨u,m,l⟩:=w.get d;rw[c]at m;cases m;cases l;refine dF ?_;have e:(bs[i]?).getD γ=bs[i]'(by omega):=by simp[show i<bs.length by omega]
  rw[<-e];exact hQ'
 .refine⟨.U (bs.all id),H,?_,?_,q⟩
  .exact I.fc λb o e=>z b o (by simp;exact aT (aL e)) (aA _ e)
  .show Value.bool _=Value.bool _;congr 1;rw[bb,<- B];rw[du];simp only[aQ,bN,id];constructor
   .intro f b d;obtain⟨i,a,rfl⟩:=l5.1 d;have:=f i a;simpa [a]using this
   .intro f i a;simp only[bh a,qg];exact f _ (gn a)
end
inductive Dq where
 |J|U (b:Bool)|int (i:Int)|str (x:Str)|c4 (ds:List Dq)|b4 (ds:List Dq)
mutual
def df(K:av)(H:Hp):Dq->V->Prop
 |.J,v=>v=.J
 |.U b,v=>v=.U b
 |.int i,v=>v=.int i
 |.str x,v=>v=.str x
 |.c4 d,v=>∃a c,v=.ref a/\e? K H a c/\b? K H d c
 |.b4 d,v=>∃a c,v=.ref a/\fb K H a c/\b? K H d c
def b?(K:av)(H:Hp):List Dq->bA->Prop
 |[],a=>a=[]
 |d::b,a=>∃v r,a=v::r/\df K H d v/\b? K H b r
end
mutual
def m3:Dq->Dq->Bool
 |.J,.J=>γ
 |.U a,.U b=>a==b
 |.U a,.int b=>(if a then 1 else 0)==b
 |.int a,.U b=>a==(if b then 1 else 0)
 |.int a,.int b=>a==b
 |.str a,.str b=>a==b
 |.c4 a,.c4 b=>Ea a b
 |.b4 a,.b4 b=>Ea a b
 |_,_=>δ
def Ea:List Dq->List Dq->Bool
 |[],[]=>γ
 |a::r,b::q=>m3 a b&&Ea r q
 |_,_=>δ
end
mutual
def fy:Dq->Nat
 |.c4 a=>wJ a+1
 |.b4 a=>wJ a+1
 |_=>0
def wJ:List Dq->Nat
 |[]=>0
 |d::r=>max (fy d) (wJ r)
end
mutual
theorem BA:∀d:Dq,m3 d d=γ
 |.J=>rfl
 |.U b=>beq_self_eq_true b
 |.int i=>beq_self_eq_true i
 |.str x=>beq_self_eq_true x
 |.c4 a=>Gr a
 |.b4 a=>Gr a
theorem Gr:∀a:List Dq,Ea a a=γ
 |[]=>rfl
 |d::r=>by show (m3 d d&&Ea r r)=γ;rw[BA d,Gr r];rfl
end
theorem uW{K:av}:∀{b:List Dq} {a:bA},b? K H b a->b.length=a.length
 |[],a,h=>by subst h;rfl
 |d::b,a,h=>by obtain⟨v,r,rfl,_,c⟩:=h;rw[aN,aN,uW c]
def eAt(d c:List Dq)(j:Nat):Bool:=match d[j]?,c[j]? with
 |some a,Z b=>m3 a b
 |_,_=>γ
theorem Jd:∀(d c:List Dq),Ea d c=γ ↔ d.length=c.length/\∀j,j<d.length->eAt d c j=γ
 |[],[]=>by show γ=γ ↔ _;simp
 |[],b::q=>by show δ=γ ↔ _;simp
 |a::r,[]=>by show δ=γ ↔ _;simp
 |a::r,b::q=>by
  have l:=Jd r q;show (m3 a b&&Ea r q)=γ ↔ _;rw[aU,l,aN,aN];constructor
  .rintro⟨f,e,h⟩;refine⟨by omega,λj i=>?_⟩;cases j with
   |zero=>exact f
   |succ j=>exact h j (by omega)
  .rintro⟨f,e⟩;exact⟨e 0 (by omega),by omega,λj i=>e (j+1) (by omega)⟩
def BW{b a:List Dq}(l:b.length=n)(i:a.length=m):((bf (min n m)).all (eAt b a)&&n==m)=Ea b a:=by
 rw[du,Jd,aU,aQ];subst l i;constructor
 .rintro⟨d,f⟩;have e:=by simpa using f
  exact⟨e,λj c=>d j (bN.2 (by omega))⟩
 .rintro⟨e,h⟩;exact⟨λj c=>h j (by have:=bN.1 c;omega),by simpa using e⟩
def CY{b a:List Dq}(d:b.length=n)(c:a.length=n):(bf n).all (eAt b a)=Ea b a:=by rw[<-BW d c];simp
def Je{b a:List Dq}(h:b.length≠a.length):Ea b a=δ:=by
 cases e:Ea b a with
 |false=>rfl
 |true=>exact ar ((Jd b a).1 e).1 h
section
variable{X:Cx}{pins:cE}{σ:St}{H:Hp}{s:af}
def YR(I:cb X pins σ H s)(h:fb X.K H a f)(c:e? X.K H a i):False:=by obtain⟨d,_,p,_⟩:=I.list h;obtain⟨b,_,e,_⟩:=I.tuple c;exact SeqAt.ne_of_list_tuple p.isList (show s.heap.IsTuple a b.toArray from e) J
mutual
theorem Jf(I:cb X pins σ H s):∀(d i:Dq) (v:V),df X.K H d v->df X.K H i v->m3 d i=γ
 |.J,i,v,h,c=>by subst h;cases i<;>first|rfl|(exact nomatch c)|(obtain⟨_,_,e,_⟩:=c;exact nomatch e)
 |.U b,i,v,h,c=>by subst h;cases i<;>first|(obtain⟨_,_,e,_⟩:=c;cases e)|(cases c<;>exact BA _)
 |.int b,i,v,h,c=>by subst h;cases i<;>first|(obtain⟨_,_,e,_⟩:=c;cases e)|(cases c<;>exact BA _)
 |.str b,i,v,h,c=>by subst h;cases i<;>first|(obtain⟨_,_,e,_⟩:=c;cases e)|(cases c<;>exact BA _)
 |.c4 q,i,v,h,c=>by
  obtain⟨a,u,rfl,o,t⟩:=h;cases i with
  |c4 j=>obtain⟨p,m,e,f,l⟩:=c;cases e;have r:=I.v? o f;subst r;exact Gs I q j u t l
  |b4 j=>obtain⟨p,m,e,f,l⟩:=c;cases e;exact(YR I f o).elim
  |_=>exact nomatch (show _=_ from c)
 |.b4 q,i,v,h,c=>by
  obtain⟨a,u,rfl,o,t⟩:=h;cases i with
  |b4 j=>obtain⟨p,m,e,f,l⟩:=c;cases e;have r:=I.H? o f;subst r;exact Gs I q j u t l
  |c4 j=>obtain⟨p,m,e,f,l⟩:=c;cases e;exact(YR I o f).elim
  |_=>exact nomatch (show _=_ from c)
theorem Gs(I:cb X pins σ H s):∀(b a:List Dq) (f:bA),b? X.K H b f->b? X.K H a f->Ea b a=γ
 |[],a,f,h,c=>by
  subst h;cases a with
  |nil=>rfl
  |cons d r=>obtain⟨_,_,e,_⟩:=c;exact nomatch e
 |d::b,a,f,h,c=>by
  obtain⟨v,r,rfl,o,p⟩:=h;cases a with
  |nil=>exact nomatch (show _=_ from c)
  |cons l m=>obtain⟨t,q,e,i,j⟩:=c;cases e;show (m3 d l&&Ea b m)=γ;rw[Jf I d l v o i,Gs I b m r p j];rfl
end
mutual
theorem OD(I:cb X pins σ H s):∀(d C:Dq) (x y:V) (u v:aa) (A:aG),df X.K H d x->df X.K H C y->dg x u->dg y v->A.units+fy d+fy C<cLine->je A s u v (m3 d C)
 |.c4 F,C,x,y,u,v,A,G,l,w,o,S=>by
  obtain⟨a,T,rfl,R,N⟩:=G;cases w;obtain⟨M,Q,p,_⟩:=I.tuple R;cases C with
  |J=>unfold df at l;subst l;cases o;exact t6 p (by omega)
  |U b=>unfold df at l;subst l;cases o;exact t7 b p (by omega)
  |int b=>unfold df at l;subst l;obtain⟨t,rfl⟩:=o;exact ug b t p (by omega)
  |str b=>unfold df at l;subst l;obtain⟨t,rfl⟩:=o;exact uh b t p (by omega)
  |b4 i=>obtain⟨b,E,rfl,h,m⟩:=l;cases o;obtain⟨f,B,r,_⟩:=I.list h;exact t8 p r.isList (by omega)
  |c4 i=>
   have P:=l;obtain⟨b,E,rfl,h,m⟩:=l;cases o;obtain⟨f,B,r,_⟩:=I.tuple h;by_cases hab:a=b
   .subst hab;have e:m3 (.c4 F) (.c4 i)=γ:=Jf I _ _ (.ref a) (by unfold df;exact⟨a,T,J,R,N⟩) P;rw[e];exact mG _
   .have hd:fy (.c4 F)=wJ F+1:=by rw[fy]
    have hd':fy (.c4 i)=wJ i+1:=by rw[fy]
    have q:=uJ (A:=A) p r (by omega) λj W Y=>by have z:=BX I F i T E M f A.in1 N m Q B (by show A.units+1+wJ F+wJ i<cLine;omega) j (by simpa using W) (by simpa using Y);simpa using z
    rw[BW (by rw[uW N,Q.length];simp) (by rw[uW m,B.length];simp)]at q;exact mi hab q
 |.b4 F,C,x,y,u,v,A,G,l,w,o,S=>by
  obtain⟨a,T,rfl,R,N⟩:=G;cases w;obtain⟨M,Q,p,_⟩:=I.list R;have p:=p.isList;cases C with
  |J=>unfold df at l;subst l;cases o;exact ui p (by omega)
  |U b=>unfold df at l;subst l;cases o;exact uj b p (by omega)
  |int b=>unfold df at l;subst l;obtain⟨t,rfl⟩:=o;exact ux b t p (by omega)
  |str b=>unfold df at l;subst l;obtain⟨t,rfl⟩:=o;exact uy b t p (by omega)
  |c4 i=>obtain⟨b,E,rfl,h,m⟩:=l;cases o;obtain⟨f,B,r,_⟩:=I.tuple h;exact t9 p (show s.heap.IsTuple b f.toArray from r) (by omega)
  |b4 i=>
   have P:=l;obtain⟨b,E,rfl,h,m⟩:=l;cases o;obtain⟨f,B,r,_⟩:=I.list h;have r:=r.isList;by_cases hab:a=b
   .subst hab;have e:m3 (.b4 F) (.b4 i)=γ:=Jf I _ _ (.ref a) (by unfold df;exact⟨a,T,J,R,N⟩) P;rw[e];exact mG _
   .have hd:fy (.b4 F)=wJ F+1:=by rw[fy]
    have hd':fy (.b4 i)=wJ i+1:=by rw[fy]
    by_cases U:M.length=f.length
    .have q:=uM (A:=A) p r (by simpa using U) (by omega) λj W Y=>by have z:=BX I F i T E M f A.in1 N m Q B (by show A.units+1+wJ F+wJ i<cLine;omega) j (by simpa using W) (by simpa using Y);simpa using z
     rw[CY (by rw[uW N,Q.length];simp) (by rw[uW m,B.length,<- U];simp)]at q;exact mi hab q
    .have e:m3 (.b4 F) (.b4 i)=δ:=by exact Je (by rw[uW N,uW m,Q.length,B.length];exact U)
     rw[e];exact mi hab (tW p r (by simpa using U) (by omega))
 |.J,C,x,y,u,v,A,G,l,w,o,S=>by
  subst G;cases C with
  |c4 i=>obtain⟨b,E,rfl,h,m⟩:=l;cases o;cases w;obtain⟨f,B,r,_⟩:=I.tuple h;exact ua (show s.heap.IsTuple b f.toArray from r) (by omega)
  |b4 i=>obtain⟨b,E,rfl,h,m⟩:=l;cases o;cases w;obtain⟨f,B,r,_⟩:=I.list h;exact uk r.isList (by omega)
  |_=>unfold df at l;subst l;exact IW w o J J
 |.U c,C,x,y,u,v,A,G,l,w,o,S=>by
  subst G;cases C with
  |c4 i=>obtain⟨b,E,rfl,h,m⟩:=l;cases o;cases w;obtain⟨f,B,r,_⟩:=I.tuple h;exact uc c (show s.heap.IsTuple b f.toArray from r) (by omega)
  |b4 i=>obtain⟨b,E,rfl,h,m⟩:=l;cases o;cases w;obtain⟨f,B,r,_⟩:=I.list h;exact um c r.isList (by omega)
  |_=>unfold df at l;subst l;exact IW w o J J
 |.int c,C,x,y,u,v,A,G,l,w,o,S=>by
  subst G;cases C with
  |c4 i=>obtain⟨b,E,rfl,h,m⟩:=l;cases o;obtain⟨t,rfl⟩:=w;obtain⟨f,B,r,_⟩:=I.tuple h;exact uo c t (show s.heap.IsTuple b f.toArray from r) (by omega)
  |b4 i=>obtain⟨b,E,rfl,h,m⟩:=l;cases o;obtain⟨t,rfl⟩:=w;obtain⟨f,B,r,_⟩:=I.list h;exact uz c t r.isList (by omega)
  |_=>unfold df at l;subst l;exact IW w o J J
 |.str c,C,x,y,u,v,A,G,l,w,o,S=>by
  subst G;cases C with
  |c4 i=>obtain⟨b,E,rfl,h,m⟩:=l;cases o;obtain⟨t,rfl⟩:=w;obtain⟨f,B,r,_⟩:=I.tuple h;exact uq c t (show s.heap.IsTuple b f.toArray from r) (by omega)
  |b4 i=>obtain⟨b,E,rfl,h,m⟩:=l;cases o;obtain⟨t,rfl⟩:=w;obtain⟨f,B,r,_⟩:=I.list h;exact uA c t r.isList (by omega)
  |_=>unfold df at l;subst l;exact IW w o J J
theorem BX(I:cb X pins σ H s):∀(b a:List Dq) (f h:bA) (c e:List aa) (A:aG),b? X.K H b f->b? X.K H a h->de f c->de h e->A.units+wJ b+wJ a<cLine->
  ∀(j:Nat) (i:j<c.length) (l:j<e.length),je A s c[j] e[j] (eAt b a j)
 |[],a,f,h,c,e,A,m,o,p,q,B,j,i,l=>by
  have:=uW m;have:=p.length;simp only[gV]at *
  omega
 |d::b,[],f,h,c,e,A,m,o,p,q,B,j,i,l=>by
  have:=uW o;have:=q.length;simp only[gV]at *
  omega
 |d::b,r::a,f,h,c,e,A,m,o,p,q,B,j,i,l=>by
  obtain⟨x,M,rfl,t,u⟩:=m;obtain⟨y,N,rfl,w,z⟩:=o;have P:wJ (d::b)=max (fy d) (wJ b):=by rw[wJ]
  have Q:wJ (r::a)=max (fy r) (wJ a):=by rw[wJ]
  cases p with
  |cons F G=>
   cases q with
   |cons C E=>
    cases j with
    |zero=>exact OD I d r x y _ _ A t w F C (by omega)
    |succ j=>exact BX I b a M N _ _ A u z G E (by omega) j (by simpa using i) (by simpa using l)
end
def P2:Dq->Dq->Bool
 |.c4 _,.c4 _=>γ
 |.b4 _,.b4 _=>γ
 |_,_=>δ
def OE(K:av)(neg:Bool):R2:=λx y H Q=>∃d a,df K H d x/\df K H a y/\P2 d a=γ/\fy d<=20/\fy a<=20/\Q (.U (if neg then !m3 d a else m3 d a)) H
def aaf(hu:X.A.units+64<cLine):fu X (bz .Eq) (OE X.K δ):=by
 intro pins s σ H x y u v Q I W Y h;obtain⟨d,S,T,U,hd,B,C,q⟩:=h;cases d with
 |c4 i=>
  cases S with
  |c4 c=>
   have G:fy (.c4 i)=wJ i+1:=by rw[fy]
   have M:fy (.c4 c)=wJ c+1:=by rw[fy]
   obtain⟨a,P,rfl,N,r⟩:=T;obtain⟨b,R,rfl,o,l⟩:=U;cases W;cases Y;obtain⟨m,t,p,_⟩:=I.tuple N;obtain⟨f,w,F,_⟩:=I.tuple o;refine SeqAt.eq_tupleAt (e:=eAt i c) (show s.heap.IsTuple a m.toArray from p) (show s.heap.IsTuple b f.toArray from F) (by omega) (λj B C=>?_) ?_
   .have z:=BX I i c P R m f X.A.in1 r l t w (by show X.A.units+1+wJ i+wJ c<cLine;omega) j (by simpa using B) (by simpa using C);simpa using z
   .rw[BW (by rw[uW r,t.length];simp) (by rw[uW l,w.length];simp)];exact vR I q J
  |_=>exact nomatch hd
 |b4 i=>
  cases S with
  |b4 c=>
   have G:fy (.b4 i)=wJ i+1:=by rw[fy]
   have M:fy (.b4 c)=wJ c+1:=by rw[fy]
   obtain⟨a,P,rfl,N,r⟩:=T;obtain⟨b,R,rfl,o,l⟩:=U;cases W;cases Y;obtain⟨m,t,p,_⟩:=I.list N;obtain⟨f,w,F,_⟩:=I.list o;by_cases E:m.length=f.length
   .refine SeqAt.eq_listAt (e:=eAt i c) p.isList F.isList (by simpa using E) (by omega) (λj B C=>?_) ?_
    .have z:=BX I i c P R m f X.A.in1 r l t w (by show X.A.units+1+wJ i+wJ c<cLine;omega) j (by simpa using B) (by simpa using C);simpa using z
    .rw[CY (by rw[uW r,t.length];simp) (by rw[uW l,w.length,<- E];simp)];exact vR I q J
   .refine SeqAt.eq_list_lengthsAt p.isList F.isList (by simpa using E) (by omega) ?_;have e:Ea i c=δ:=Je (by rw[uW r,uW l,t.length,w.length];exact E);rw[show m3 (.b4 i) (.b4 c)=δ from e]at q;exact vR I q J
  |_=>exact nomatch hd
 |_=>exact nomatch hd
def aag(hu:X.A.units+64<cLine):fu X (bz .NotEq) (OE X.K γ):=by
 intro pins s σ H x y u v Q I Y rv h;obtain⟨d,T,U,W,hd,C,E,q⟩:=h;cases d with
 |c4 l=>
  cases T with
  |c4 c=>
   have M:fy (.c4 l)=wJ l+1:=by rw[fy]
   have N:fy (.c4 c)=wJ c+1:=by rw[fy]
   obtain⟨a,R,rfl,P,r⟩:=U;obtain⟨b,S,rfl,o,i⟩:=W;cases Y;cases rv;obtain⟨m,t,p,_⟩:=I.tuple P;obtain⟨f,B,G,_⟩:=I.tuple o;have w:=uB (A:=X.A) (show s.heap.IsTuple a m.toArray from p) (show s.heap.IsTuple b f.toArray from G) (by omega) (λj C E=>by
    have z:=BX I l c R S m f X.A.in1 r i t B (by show X.A.units+1+wJ l+wJ c<cLine;omega) j (by simpa using C) (by simpa using E);simpa using z)
   rw[BW (by rw[uW r,t.length];simp) (by rw[uW i,B.length];simp)]at w;exact w X.prog X.w X.xe _ (vR I q J)
  |_=>exact nomatch hd
 |b4 l=>
  cases T with
  |b4 c=>
   have M:fy (.b4 l)=wJ l+1:=by rw[fy]
   have N:fy (.b4 c)=wJ c+1:=by rw[fy]
   obtain⟨a,R,rfl,P,r⟩:=U;obtain⟨b,S,rfl,o,i⟩:=W;cases Y;cases rv;obtain⟨m,t,p,_⟩:=I.list P;obtain⟨f,B,G,_⟩:=I.list o;by_cases F:m.length=f.length
   .have w:=uF (A:=X.A) p.isList G.isList (by simpa using F) (by omega) (λj C E=>by
     have z:=BX I l c R S m f X.A.in1 r i t B (by show X.A.units+1+wJ l+wJ c<cLine;omega) j (by simpa using C) (by simpa using E);simpa using z)
    rw[CY (by rw[uW r,t.length];simp) (by rw[uW i,B.length,<- F];simp)]at w;exact w X.prog X.w X.xe _ (vR I q J)
   .have e:Ea l c=δ:=Je (by rw[uW r,uW i,t.length,B.length];exact F);rw[show m3 (.b4 l) (.b4 c)=δ from e]at q;exact sR p.isList G.isList (by simpa using F) (by omega) X.prog X.w X.xe _ (vR I q J)
  |_=>exact nomatch hd
 |_=>exact nomatch hd
end
inductive AS:List Expr->bA->Prop
 |nil:AS [] []
 |cons {x:Str} {j:Nat} {pos:Pos} {es:List Expr} {vs:bA} (h:AS es vs):AS (.Constant (.str x) j pos::es) (.str x::vs)
def xT(h:n<=1000):n<=aF:=gx (DS h)
def ve.new(x:ve H a)(c:a p=O)(o:HO):ve H (eg a p o):=λb u e=>by have z:=x b u e;rw[vb (xS z c)];exact z
structure RF(K:av)(x qual:Str)(st:Stmt)(f:Addr)(fd:bU)(T:Addr):Prop where
 ex:∃(oc:aa) (od:Option Addr) (kV doc pm:aa) (an:Option Addr) (cdv ct:aa) (osl:Array (Option aa)),
  fd=fA x qual (yM st) (vQ st) (vn st) (.ref T) kV doc pm an cdv ct/\K.lookup f=Z ⟨oc,od,.func fd,osl⟩/\ie K cdv qual=γ
 kp:eB K (.ref f)=γ
section
variable{P:aB}{w:aw}{K:av}{mg:Str->Option aa}{b1:Heap}
theorem RF.ok{st:Stmt}(F:RF K x qual st f d T)(S:xl N ps (vn st))(len:∀a H Q E,b a H Q E->a.length=ps.length)
  (hbody:∀(cdv:aa) (A:aG) (cf:List Env) (s:af) (H:Hp) (a:bA) (Q:VK) (E:XK),xj k (A.deeper (envOfC qual (vn st) s.heap.objs.size f cdv))->b a H Q E->
   ∃t,k? (MR ze P w K mg b1 N qual (vn st) f cdv A cf s H E).nox (vQ st) t/\t { nx:=λy c=>Q .J c,rt:=Q } (L2.start N a) H):zi P w K mg b1 ze (k+1) f d ps b:=by
 obtain⟨l,m,kV,doc,o,i,cdv,j,osl,rfl,lk,hcd⟩:=F.ex;refine YJ lk hcd S len λA cf s H a Q E e hsp=>?_;obtain⟨t,h,q⟩:=hbody cdv A cf s H a Q E e hsp;exact⟨t,h.nox,q⟩
end
theorem RF.oe{K:av}{st:Stmt}{i:aC}{d:List aa}(F:RF K x qual st f j T)(q:K.lookup T=Z o)(r:o.data=.seq items n)
  (h:∀(kV doc e:aa) (b:Option Addr) (cdv c:aa) (a:List aa),a.length=i.length - d.length->∃k,bindArgs (fA x qual (yM st) (vQ st) (vn st) (.ref T) kV doc e b cdv c) ⟨a,[]⟩=seqItems? (.ref T)>>=k/\k (Z items)=pure (i.zip (a++d))):jj K j i d:=by
 obtain⟨t,u,kV,doc,e,b,cdv,c,osl,rfl,lk,hcd⟩:=F.ex;intro s a KX p;obtain⟨k,l,m⟩:=h kV doc e b cdv c a (by rw[aE]at p;omega);exact BindsTo.of_defaults J (KX _ _ q) r l m
section
variable{X:Cx}
def OF:fu X (cO .Mult) (λx y H Q=>∃z n,x=.str z/\y=.int n/\MulOk z n/\Q (.str (nU z n)) H):=by intro a s i H x y v u Q I c d h;obtain⟨z,n,rfl,rfl,b,q⟩:=h;obtain⟨t,rfl⟩:=c;obtain⟨f,rfl⟩:=d;exact SB.mul b λe k=>⟨.str _,H,I.pa _,⟨e,J⟩,q⟩
end
section
variable{X:Cx}(K:av)
def Tu(hK:X.K=K:=by rfl):χ X (WE K):=by subst hK;exact PY
def M5(a:PE X l b)(hK:X.K=K:=by rfl):PI X c l (SV K b):=by subst hK;exact Wn a
def WO(a:PE X l b)(hK:X.K=K:=by rfl):PI X c l (Zx K b):=by subst hK;exact Zy a
def WQ(b:X.j0=γ)(h:I' X a t)(c:(cu a X.b3).length=n:=by rfl)(hst:(cu a X.b3).findIdx? (·.1)=O:=by rfl)(hK:X.K=K:=by rfl):PG X (.Tuple a k pos) (Zt K n t):=by subst hK;exact Zu b h c hst
variable{o e:Expr}{es:List Expr}{to:TE}{t:TA}{name:Str}{apos cpos:Pos}{T id:String}{r:V->bA->Hp->VK->Prop}
def Tv(f:nL T)(slot:Slot T name id)(hty:typeOf (.builtin id)=pure (.type "method_descriptor"))(b:MtR X id r)(c:PE X o to)(a:PA X (e::es) t)
  (hbase:fN o name X.b3 (eval o X.b3)=eval o X.b3:=by rfl)
  (hfew:((bG cpos (az (e::es) X.b3)).all (λx=>!x.1)&&(backToKw cpos (eh [] X.b3)).all (λx=>x.1.isSome)
   && decide ((e::es).length+([]:List fS).length+(if ([]:List fS).isEmpty then 0 else 1)<30))=γ:=by rfl)
  (hline:(apos.endLine==cpos.line)=γ:=by rfl) (d:az (e::es) X.b3=(δ,eval e X.b3)::az es X.b3:=by rfl) (hplain:(bG cpos (az es X.b3)).any (·.1)=δ:=by rfl) (hK:X.K=K:=by rfl):
  PE X (.Call (.Attribute o name apos) (e::es) [] cpos) (tBM K T r to t):=by subst hK;exact adH f slot hty b c a hbase hfew hline d hplain
end
end L3
namespace L2
open PySem PySem.Spec PyProof.Rows
section
variable{X:Cx}{pins:cE}{σ:St}{H:Hp}{s:af}
def BB(e:H a=Z u)(q:H c=Z v)(d:u≠v)(n:HO):eg H a n c=Z v:=by rw[vb (λz=>by subst z;rw[e]at q;exact d (cJ q))];exact q
def cb.m1(I:cb X pins σ H s)(e:H a=Z (.dK kvs)):∃o,cb X pins σ (eg H a (.lb o (.dK kvs))) s:=by
 obtain⟨z,y,Q,r,f,F,E,l,c⟩:=(show ef X.prog X.w H s.heap a (.dK kvs) from I.er a _ e);refine⟨f,?_⟩;have j:=I.step (H':=eg H a (.lb f (.dK kvs))) (h':=s.heap) (g':=s.gens) (d':=s.drawn) (t':=s.toks) (ch:=[]) (λv z=>nomatch z) (λb o v v v q v=>q) (λb o v v v q v=>⟨o.slots,q⟩)
  (λb o v v n=>by rw[vb (λz=>by subst z;rw[e]at n;cases n)];exact n) (λb o v q=>⟨o,q⟩) (λb p q=>BB e q (λz=>nomatch z) _) (λb o u q=>BB e q (λz=>nomatch z) _)
  (λb N q=>⟨#[],by rw[BB e q (λz=>nomatch z) _];simp⟩) (λm q=>q) ?_ I.gi
 .obtain⟨h,g,d,t,os⟩:=s;exact j
 .intro b u q;have st:∀{b:Addr} {u:HO},ef X.prog X.w H s.heap b u->ef X.prog X.w (eg H a (.lb f (.dK kvs))) s.heap b u:=λ{b u} x=>x.H4 (λv v v q=>q) (λc q=>BB e q (λz=>nomatch z) _) λc p q=>BB e q (λz=>nomatch z) _
  by_cases i:b=a
  .subst i;rw[uZ]at q;cases q;exact⟨l,st (I.er b _ e)⟩
  .rw[vb i]at q;exact st (I.er b u q)
def PE.ghost(h:PE X e t):PE X e (λσ H Q=>t σ H λx b=>Q x b\/∃a kvs,b a=Z (.dK kvs)/\∀o,Q x (eg b a (.lb o (.dK kvs)))):=λpins s σ H Q I i=>
 e0 (h pins s σ H _ I i) λu l ⟨x,b,c,d,j⟩=>by
  rcases j with q|⟨a,kvs,e,q⟩
  .exact⟨x,b,c,d,q⟩
  .obtain⟨o,f⟩:=c.m1 e;exact⟨x,_,f,d,q o⟩
end
end L2
namespace L4
open PySem PySem.Spec PyProof.Rows L2 L3
abbrev St:=L2.St
inductive D where
 |J|U (b:Bool)|int (i:Int)|str (x:Str)
 |c4 (ds:List D)|b4 (ds:List D)
 |qi (ds:List D)
 |obj (c:Nat) (ns:aC) (ds:List D)
 |Y (ks:List dr) (ds:List D)
 |tH (ks:List (List dr)) (ds:List D)
abbrev aY:=List D
structure Bg where
 K:av
 ca:Nat->Addr
 hs:List dr->Int
def isO(a:Addr)(o:Obj):Heap->Prop:=λh=>h.get? a=Z o
structure DtE(hs:List dr->Int)(o:Obj)(qs:List (List dr×Addr×aa)):Prop where
 ex:o.ExactDict
 da:∃es ep,o.data=.dict es ep/\es.toList=qs.map λq=>⟨hs q.1,.ref q.2.1,q.2.2⟩
 nd:(qs.map (·.1)).Nodup
 sz:qs.length<=1000
def DtO(G:Bg)(H:Hp)(a:Addr)(c:List (List dr))(d:bA):Prop:=∃(o:Obj) (b:List (List dr×Addr×aa)),H a=Z (.ext (isO a o))/\(a==cU)=δ/\DtE G.hs o b/\b.map (·.1)=c/\(∀q∈b,e? G.K H q.2.1 (q.1.map kV))/\de d (b.map (·.2.2))
mutual
def df(G:Bg)(H:Hp):D->V->Prop
 |.J,v=>v=.J
 |.U b,v=>v=.U b
 |.int i,v=>v=.int i
 |.str x,v=>v=.str x
 |.c4 e,v=>∃a d,v=.ref a/\e? G.K H a d/\b? G H e d
 |.b4 e,v=>∃a d,v=.ref a/\H a=Z (.b4 d)/\b? G H e d
 |.qi e,v=>∃a d,v=.ref a/\fb G.K H a d/\b? G H e d
 |.obj c h e,v=>∃a j d,v=.ref a/\H a=Z (.ka (G.ca c) j (h.zip d))/\h.length=d.length/\b? G H e d
 |.Y f e,v=>∃a o d,v=.ref a/\H a=Z (.lb o (.dK (f.zip d)))/\f.length=d.length/\b? G H e d
 |.tH f e,v=>∃a d,v=.ref a/\DtO G H a f d/\b? G H e d
def b?(G:Bg)(H:Hp):aY->bA->Prop
 |[],a=>a=[]
 |d::b,a=>∃v r,a=v::r/\df G H d v/\b? G H b r
end
def e?.mono{K:av}{H b:Hp}{a:Addr}{c:bA}(e:ve H b)(h:e? K H a c):e? K b a c:=by
 rcases h with (h|⟨o,h⟩)|h
 .exact .inl (.inl (e _ _ h))
 .exact .inl (.inr ⟨o,e _ _ h⟩)
 .exact .inr h
theorem DtO.mono{G:Bg}{H b:Hp}{a:Addr}{ks:List (List dr)}{c:bA}(e:ve H b)(h:DtO G H a ks c):DtO G b a ks c:=by obtain⟨o,r,d,f,i,j,l,m⟩:=h;exact⟨o,r,e _ _ d,f,i,j,λq p=>e?.mono e (l q p),m⟩
mutual
theorem df.mono{G:Bg}{H q:Hp}(e:ve H q):∀(d:D) (v:V),df G H d v->df G q d v
 |.J,v,h=>by unfold df at h ⊢;exact h
 |.U b,v,h=>by unfold df at h ⊢;exact h
 |.int i,v,h=>by unfold df at h ⊢;exact h
 |.str x,v,h=>by unfold df at h ⊢;exact h
 |.c4 j,v,h=>by obtain⟨a,f,rfl,l,m⟩:=h;exact⟨a,f,J,e?.mono e l,b?.mono e j f m⟩
 |.b4 j,v,h=>by obtain⟨a,f,rfl,l,m⟩:=h;exact⟨a,f,J,e _ _ l,b?.mono e j f m⟩
 |.qi j,v,h=>by obtain⟨a,f,rfl,l,m⟩:=h;exact⟨a,f,J,e.seq l,b?.mono e j f m⟩
 |.obj c u j,v,h=>by obtain⟨a,r,f,rfl,l,m,p⟩:=h;exact⟨a,r,f,J,e _ _ l,m,b?.mono e j f p⟩
 |.Y t j,v,h=>by obtain⟨a,o,f,rfl,l,m,p⟩:=h;exact⟨a,o,f,J,e _ _ l,m,b?.mono e j f p⟩
 |.tH t j,v,h=>by obtain⟨a,f,rfl,l,m⟩:=h;exact⟨a,f,J,l.mono e,b?.mono e j f m⟩
theorem b?.mono{G:Bg}{H c:Hp}(e:ve H c):∀(a:aY) (b:bA),b? G H a b->b? G c a b
 |[],b,h=>by unfold b? at h ⊢;exact h
 |d::a,b,h=>by obtain⟨v,r,rfl,f,i⟩:=h;exact⟨v,r,J,df.mono e d v f,b?.mono e a r i⟩
end
section
variable{G:Bg}{H:Hp}
def vJ:b? G H [] []:=by unfold b?;rfl
def vM{d:D}{v:V}{b:aY}{a:bA}(h:df G H d v)(r:b? G H b a):b? G H (d::b) (v::a):=by unfold b?;exact⟨v,a,J,h,r⟩
theorem uW:∀{b:aY} {a:bA},b? G H b a->b.length=a.length
 |[],a,h=>by unfold b? at h;subst h;rfl
 |d::b,a,h=>by obtain⟨v,r,rfl,_,c⟩:=h;rw[aN,aN,uW c]
theorem w9:∀{e a:aY} {b c:bA},b? G H e b->b? G H a c->b? G H (e++a) (b++c)
 |[],a,b,c,h,f=>by unfold b? at h;subst h;exact f
 |d::e,a,b,c,h,f=>by obtain⟨v,r,rfl,i,j⟩:=h;exact vM i (w9 j f)
theorem yi:∀{b:aY} {a:bA} {i:Nat} {d:D},b? G H b a->b[i]?=Z d->∃v,a[i]?=Z v/\df G H d v
 |[],a,i,d,h,e=>by simp at e
 |j::b,a,i,d,h,e=>by
  obtain⟨v,r,rfl,c,f⟩:=h;cases i with
  |zero=>simp at e;subst e;exact⟨v,J,c⟩
  |succ i=>simpa using yi f (by simpa using e)
theorem M6:∀{b:aY} {a:bA} (i:Nat) {d:D} {v:V},b? G H b a->df G H d v->b? G H (b.set i d) (a.set i v)
 |[],a,i,d,v,h,e=>by unfold b? at h;subst h;exact vJ
 |j::b,a,i,d,v,h,e=>by
  obtain⟨l,r,rfl,f,c⟩:=h;cases i with
  |zero=>exact vM e c
  |succ i=>exact vM f (M6 i c e)
theorem KQ:∀{ds:aY} {a:bA} (n:Nat),b? G H ds a->b? G H (ds.drop n) (a.drop n)
 |ds,a,0,h=>h
 |[],a,n+1,h=>by unfold b? at h;subst h;exact vJ
 |d::ds,a,n+1,h=>by obtain⟨v,r,rfl,c,b⟩:=h;exact KQ n b
theorem KR:∀{ds:aY} {a:bA} (n:Nat),b? G H ds a->b? G H (ds.take n) (a.take n)
 |ds,a,0,h=>vJ
 |[],a,n+1,h=>by unfold b? at h;subst h;exact vJ
 |d::ds,a,n+1,h=>by obtain⟨v,r,rfl,b,c⟩:=h;exact vM b (KR n c)
def DT{a:Addr}{b:bA}{c:aY}(h:e? G.K H a b)(r:b? G H c b):df G H (.c4 c) (.ref a):=by unfold df;exact⟨a,b,J,h,r⟩
def BY{a:Addr}{b:bA}{c:aY}(h:H a=Z (.b4 b))(r:b? G H c b):df G H (.b4 c) (.ref a):=by unfold df;exact⟨a,b,J,h,r⟩
def xa(i:Int):df G H (.int i) (.int i):=by unfold df;rfl
def xy(i:Bool):df G H (.U i) (.U i):=by unfold df;rfl
def zB(i:Str):df G H (.str i) (.str i):=by unfold df;rfl
def AU:df G H .J .J:=by unfold df;rfl
end
inductive Sl where
 |un
 |I (d:D)
 |ls (ds:aY)
 |pm (ds:aY)
 |dk (ks:List dr) (ds:aY)
 |ob (c:Nat) (ns:aC) (ds:aY)
abbrev aP:=List Sl
def Sl.fl:Sl->Bool
 |.ls _=>γ
 |.pm _=>γ
 |.dk _ _=>γ
 |.ob _ _ _=>γ
 |_=>δ
structure Fr where
 B0:Hp
 B:Hp
 A:List Addr
def Kq(G:Bg)(F:Fr)(e H:Hp)(o:Option V):Sl->Prop
 |.un=>True
 |.I d=>∃v,o=Z v/\df G e d v
 |.ls f=>∃a b,o=Z (.ref a)/\H a=Z (.b4 b)/\e a=O/\F.B a=O/\b? G e f b
 |.pm f=>∃a b,o=Z (.ref a)/\H a=Z (.b4 b)/\e a=O/\a∈F.A/\b? G e f b
 |.dk h f=>∃a b,o=Z (.ref a)/\H a=Z (.dK (h.zip b))/\e a=O/\F.B a=O/\h.length=b.length/\b? G e f b
 |.ob c i f=>∃a j b,o=Z (.ref a)/\H a=Z (.ka (G.ca c) j (i.zip b))/\e a=O/\a∈F.A/\i.length=b.length/\b? G e f b
structure c3(G:Bg)(F:Fr)(σ:St)(ρ:aP)(H0 H:Hp):Prop where
 sub:ve H0 H
 g0:ve F.B0 H0
 keep:∀b o,F.B b=Z o->b∉F.A->H b=Z o
 fr:∀b o,H0 b=Z o->F.B0 b=Z o\/F.B b=O
 am:∀a∈F.A,∃o,H a=Z o
 len:σ.length=ρ.length
 sl:∀(i:Nat) (s:Sl),ρ[i]?=Z s->Kq G F H0 H (σ[i]?).join s
 ap:∀(i j:Nat) (s t:Sl) (a:Addr),i≠j->ρ[i]?=Z s->ρ[j]?=Z t->s.fl=γ->t.fl=γ->(σ[i]?).join=Z (.ref a)->(σ[j]?).join=Z (.ref a)->False
theorem Kq.at{G:Bg}{F:Fr}{p H:Hp}{o:Option V}{s:Sl}(h:Kq G F p H o s)(e:s.fl=γ):∃a u,o=Z (.ref a)/\H a=Z u/\p a=O/\(F.B a=O\/a∈F.A):=by
 cases s with
 |un=>cases e
 |I d=>cases e
 |ls l=>obtain⟨a,m,b,f,i,j,_⟩:=h;exact⟨a,_,b,f,i,.inl j⟩
 |pm l=>obtain⟨a,m,b,f,i,j,_⟩:=h;exact⟨a,_,b,f,i,.inr j⟩
 |dk r l=>obtain⟨a,m,b,f,i,j,_⟩:=h;exact⟨a,_,b,f,i,.inl j⟩
 |ob c t l=>obtain⟨a,q,m,b,f,i,j,_⟩:=h;exact⟨a,_,b,f,i,.inr j⟩
def Kq.ff{G:Bg}{F:Fr}{t H f y:Hp}{o:Option V}{s:Sl}(h:Kq G F t H o s)(p:ve t f)(q:∀a u,o=Z (.ref a)->s.fl=γ->H a=Z u->y a=Z u)
  (r:∀a u,o=Z (.ref a)->s.fl=γ->H a=Z u->t a=O->f a=O):Kq G F f y o s:=by
 cases s with
 |un=>trivial
 |I d=>obtain⟨v,b,e⟩:=h;exact⟨v,b,df.mono p _ _ e⟩
 |ls w=>obtain⟨a,m,b,e,i,j,l⟩:=h;exact⟨a,m,b,q _ _ b J e,r _ _ b J e i,j,b?.mono p _ _ l⟩
 |pm w=>obtain⟨a,m,b,e,i,j,l⟩:=h;exact⟨a,m,b,q _ _ b J e,r _ _ b J e i,j,b?.mono p _ _ l⟩
 |dk A w=>obtain⟨a,m,b,e,i,j,l,x⟩:=h;exact⟨a,m,b,q _ _ b J e,r _ _ b J e i,j,l,b?.mono p _ _ x⟩
 |ob c B w=>obtain⟨a,z,m,b,e,i,j,l,x⟩:=h;exact⟨a,z,m,b,q _ _ b J e,r _ _ b J e i,j,l,b?.mono p _ _ x⟩
section
variable{G:Bg}{F:Fr}{σ:St}{ρ:aP}{H0 H H0' H':Hp}
theorem c3.fg(R:c3 G F σ ρ H0 H){b:Addr}(h:H b=O):F.B b=O:=by
 cases e:F.B b with
 |none=>rfl
 |some o=>
  by_cases a:b∈F.A
  .obtain⟨c,q⟩:=R.am b a;rw[q]at h;cases h
  .have q:=R.keep b o e a;rw[q]at h;cases h
theorem c3.ff(R:c3 G F σ ρ H0 H)(hs:ve H H')(h0:ve H0 H0')(sub':ve H0' H')(hf:∀b o,H0' b=Z o->H0 b=Z o\/H b=O):c3 G F σ ρ H0' H' where
 sub:=sub'
 g0:=R.g0.t h0
 keep:=λb o e n=>hs _ _ (R.keep b o e n)
 fr:=λb o e=>by
  rcases hf b o e with q|q
  .exact R.fr b o q
  .exact .inr (R.fg q)
 am:=λa ha=>let ⟨xs,q⟩:=R.am a ha;⟨xs,hs _ _ q⟩
 len:=R.len
 sl:=λi s e=>(R.sl i s e).ff h0 (λa u w w q=>hs _ _ q) λa u w w q c=>by
  cases z:H0' a with
  |none=>rfl
  |some o=>
   rcases hf a o z with y|y
   .rw[y]at c;cases c
   .rw[y]at q;cases q
 ap:=R.ap
def vm{H:Hp}{p:Addr}(a:H p=O)(o:HO):ve H (eg H p o):=ve.new (ve.refl H) a o
def c3.e4(R:c3 G F σ ρ H0 H){p:Addr}(a:H p=O):H0 p=O:=by
 cases e:H0 p with
 |none=>rfl
 |some o=>have:=R.sub _ _ e;rw[this]at a;cases a
def Tw{H0 H:Hp}(s:ve H0 H)(p:Addr)(o:HO):ve (eg H0 p o) (eg H p o):=λb u e=>by
 by_cases a:b=p
 .subst a;rw[uZ]at e ⊢;exact e
 .rw[vb a]at e ⊢;exact s _ _ e
def c3.yr(R:c3 G F σ ρ H0 H){p:Addr}(a:H p=O)(o:HO):c3 G F σ ρ (eg H0 p o) (eg H p o):=
 R.ff (vm a o) (vm (R.e4 a) o) (Tw R.sub p o) λb u e=>by
  by_cases c:b=p
  .subst c;exact .inr a
  .rw[vb c]at e;exact .inl e
def c3.ij(R:c3 G F σ ρ H0 H){p:Addr}(a:H p=O)(o:HO):c3 G F σ ρ H0 (eg H p o):=
 R.ff (vm a o) (ve.refl _) (λb u e=>by rw[vb (xS (R.sub _ _ e) a)];exact R.sub _ _ e) λb u e=>.inl e
def l4(σ:St)(ρ:aP)(p:Addr):Prop:=∀(i:Nat) (s:Sl),ρ[i]?=Z s->s.fl=γ->(σ[i]?).join≠Z (.ref p)
def c3.apart(R:c3 G F σ ρ H0 H){p:Addr}(d:H p=O):l4 σ ρ p:=λi s e so z=>by obtain⟨a,u,b,c,_⟩:=(R.sl i s e).at so;rw[z]at b;cases b;rw[d]at c;cases c
theorem c3.m1(R:c3 G F σ ρ H0 H){p:Addr}{o:HO}(d:H p=Z o)(h0:H0 p=O)(hb:F.B p=O)(ap:l4 σ ρ p):c3 G F σ ρ (eg H0 p o) H where
 sub:=λb u e=>by
  by_cases hb:b=p
  .subst hb;rw[uZ]at e;cases e;exact d
  .rw[vb hb]at e;exact R.sub _ _ e
 g0:=R.g0.t (vm h0 o)
 keep:=R.keep
 fr:=λb u e=>by
  by_cases c:b=p
  .subst c;exact .inr hb
  .rw[vb c]at e;exact R.fr _ _ e
 am:=R.am
 len:=R.len
 sl:=λi s e=>(R.sl i s e).ff (vm h0 o) (λa u w w q=>q) λa u z so q f=>by rw[vb (λy=>ap i s e so (by rw[z,y]))];exact f
 ap:=R.ap
def M7{σ:St}{i j:Nat}{v:Option V}(a:i<σ.length):((σ.set i v)[j]?).join=if j=i then v else (σ[j]?).join:=by
 rw[cn];by_cases h:i=j
 .subst h;simp[a]
 .rw[ak h,ak (λz=>h z.symm)]
set_option tactic.hygienic true
theorem c3.set(R:c3 G F σ ρ H0 H){i:Nat}{v:V}{s:Sl}(hs:Kq G F H0 H (Z v) s)(ap:s.fl=γ->∀a,v=.ref a->∀(j:Nat) (t:Sl),j≠i->ρ[j]?=Z t->t.fl=γ->(σ[j]?).join≠Z (.ref a)):
  c3 G F (σ.set i (Z v)) (ρ.set i s) H0 H where
 sub:=R.sub
 g0:=R.g0
 keep:=R.keep
 fr:=R.fr
 am:=R.am
 len:=by rw[eW,eW,R.len]
 sl:=λj t e=>by
  rw[cn]at e;by_cases h:i=j
  .subst h;rw[aj J]at e;split at e
   .rename_i hi;cases e;rw[M7 (by rw[R.len];exact hi),aj J];exact hs
   .cases e
  .rw[ak h]at e;have A:=R.sl j t e;rw[cn,ak h];exact A
 ap:=λj k t u a hjk q f p tk b vk=>by
  have nr:∀{m:Nat} {x:Sl},(ρ.set i s)[m]?=Z x->m≠i->ρ[m]?=Z x/\((σ.set i (Z v))[m]?).join=(σ[m]?).join:=λ{m x} e hm=>by rw[cn,ak (λz=>hm z.symm)]at e;exact⟨e,by rw[cn,ak (λz=>hm z.symm)]⟩
  have self:∀{x:Sl},(ρ.set i s)[i]?=Z x->x=s/\((σ.set i (Z v))[i]?).join=Z v:=λ{x} e=>by
   rw[cn,aj J]at e;split at e
   .rename_i hi;cases e;exact⟨J,by rw[M7 (by rw[R.len];exact hi),aj J]⟩
   .cases e
  by_cases o:j=i
  .subst o;obtain⟨rfl,l⟩:=self q;rw[l]at b;cases b;obtain⟨c,d⟩:=nr f (λz=>hjk z.symm);rw[d]at vk;exact ap p a J k u (λz=>hjk z.symm) c tk vk
  .obtain⟨c,d⟩:=nr q o;by_cases r:k=i
   .subst r;obtain⟨rfl,l⟩:=self f;rw[l]at vk;cases vk;rw[d]at b;exact ap tk a J j t o c p b
   .obtain⟨w,y⟩:=nr f r;rw[d]at b;rw[y]at vk;exact R.ap j k t u a hjk c w p tk b vk
set_option tactic.hygienic false
def c3.setIm(R:c3 G F σ ρ H0 H)(i:Nat){v:V}{d:D}(h:df G H0 d v):c3 G F (σ.set i (Z v)) (ρ.set i (.I d)) H0 H:=R.set ⟨v,J,h⟩ λz=>by cases z
theorem c3.setLs(R:c3 G F σ ρ H0 H)(i:Nat){p:Addr}{b:bA}{c:aY}(o:H p=Z (.b4 b))(l:H0 p=O)(m:F.B p=O)(d:l4 σ ρ p)(h:b? G H0 c b):c3 G F (σ.set i (Z (.ref p))) (ρ.set i (.ls c)) H0 H:=
 R.set ⟨p,b,J,o,l,m,h⟩ λy a e j t y f q=>by cases e;exact d j t f q
def c3.mut(R:c3 G F σ ρ H0 H){i:Nat}{a:Addr}{s c:Sl}{o:HO}(hi:ρ[i]?=Z s)(so:s.fl=γ)(ha:(σ[i]?).join=Z (.ref a))(ok:∀H',H' a=Z o->Kq G F H0 H' (Z (.ref a)) c)
  (M:c.fl=γ):c3 G F σ (ρ.set i c) H0 (eg H a o):=by
 obtain⟨Q,u,d,S,f,l⟩:=(R.sl i s hi).at so;rw[ha]at d;cases d;exact {
  sub:=λb w e=>by rw[vb (λz=>by rw[z,f]at e;cases e)];exact R.sub _ _ e
  g0:=R.g0
  keep:=λb w e n=>by
   have C:b≠a:=λz=>by
    subst z;rcases l with q|q
    .rw[q]at e;cases e
    .exact n q
   rw[vb C];exact R.keep b w e n
  fr:=R.fr
  am:=λb hb=>by
   by_cases z:b=a
   .subst z;exact⟨o,uZ⟩
   .rw[vb z];exact R.am b hb
  len:=by rw[eW];exact R.len
  sl:=λj t e=>by
   rw[cn]at e;by_cases h:i=j
   .subst h;rw[aj J]at e;split at e
    .cases e;rw[ha];exact ok _ uZ
    .cases e
   .rw[ak h]at e;refine(R.sl j t e).ff (ve.refl _) (λb w z to q=>?_) λb w v v v q=>q;rw[vb (λy=>by subst y;exact R.ap j i t s b (λy=>h y.symm) e hi to so z ha)];exact q
  ap:=λj k t u b hjk p r N tk P vk=>by
   have nr:∀{m:Nat} {x:Sl},(ρ.set i c)[m]?=Z x->∃y,ρ[m]?=Z y/\(x.fl=γ->y.fl=γ):=λ{m x} e=>by
    rw[cn]at e;by_cases h:i=m
    .subst h;exact⟨s,hi,λv=>so⟩
    .rw[ak h]at e;exact⟨x,e,λq=>q⟩
   obtain⟨y,A,E⟩:=nr p;obtain⟨z,B,I⟩:=nr r;exact R.ap j k y z b hjk A B (E N) (I tk) P vk }
end
abbrev FE:=aP->Option (D×aP)
abbrev FT:=aP->Option (Bool×aP)
abbrev FA:=aP->Option (aY×aP)
inductive ItF(G:Bg) (f:FE) (σ:St) (H:Hp) (Q:VK):Prop
 |i (F ρ H0 d ρ') (h0:c3 G F σ ρ H0 H) (h1:f ρ=Z (d,ρ')) (h2:∀v H0' H',ve H0 H0'->c3 G F σ ρ' H0' H'->df G H0' d v->Q v H'):ItF G f σ H Q
def tF(G:Bg)(f:FE):TE:=λa H Q=>ItF G f a H Q
inductive ItFT(G:Bg) (f:FT) (σ:St) (H:Hp) (Q:(Bool->Hp->Prop)):Prop
 |i (F ρ H0 d ρ') (h0:c3 G F σ ρ H0 H) (h1:f ρ=Z (d,ρ')) (h2:∀H0' H',ve H0 H0'->c3 G F σ ρ' H0' H'->Q d H'):ItFT G f σ H Q
def kg(G:Bg)(f:FT):TT:=λa H Q=>ItFT G f a H Q
inductive ItFA(G:Bg) (f:FA) (σ:St) (H:Hp) (Q:(bA->Hp->Prop)):Prop
 |i (F ρ H0 ds ρ') (h0:c3 G F σ ρ H0 H) (h1:f ρ=Z (ds,ρ')) (h2:∀xs H0' H',ve H0 H0'->c3 G F σ ρ' H0' H'->b? G H0' ds xs->Q xs H'):ItFA G f σ H Q
def o?(G:Bg)(f:FA):TA:=λa H Q=>ItFA G f a H Q
inductive ItFN(G:Bg) (f:FA) (σ:St) (H:Hp) (Q:VK):Prop
 |i (F ρ H0 ds ρ') (h0:c3 G F σ ρ H0 H) (h1:f ρ=Z (ds,ρ')) (h2:∀p xs H0' H',ve H0 H0'->c3 G F σ ρ' H0' H'->H' p=Z (.b4 xs)->H0' p=O->F.B p=O->l4 σ ρ' p->b? G H0' ds xs->Q (.ref p) H'):ItFN G f σ H Q
def ub(G:Bg)(f:FA):TE:=λa H Q=>ItFN G f a H Q
def PE.dd(h:PE X e t)(w:∀b H Q,d b H Q->t b H Q):PE X e d:=λa s b H Q I c=>h a s b H Q I (w _ _ _ c)
def PT.dd(h:PT X e t)(w:∀b H Q,d b H Q->t b H Q):PT X e d:=λa s b H Q I c=>h a s b H Q I (w _ _ _ c)
def PW.dd(h:PW X e t)(w:∀b H Q,d b H Q->t b H Q):PW X e d:=λf a s b H Q I c=>h f a s b H Q I (w _ _ _ c)
def PA.dd(h:PA X e t)(w:∀b H Q,d b H Q->t b H Q):PA X e d:=λpos a s b H Q I c=>h pos a s b H Q I (w _ _ _ c)
noncomputable def cC(d:D):FE:=λa=>Z (d,a)
noncomputable def cV(i:Nat):FE:=λa=>match a[i]? with
 |some (.I d)=>Z (d,a)
 |_=>O
noncomputable def c1(g:D->Option D) (f:FE):FE:=λb=>match f b with
 |some (d,a)=>match g d with
  |some x=>Z (x,a)
  |none=>O
 |none=>O
noncomputable def c2(g:D->D->Option D) (f c:FE):FE:=λd=>match f d with
 |some (x,a)=>match c a with
  |some (y,b)=>match g x y with
   |some z=>Z (z,b)
   |none=>O
  |none=>O
 |none=>O
def Fc(h:c1 g f c=Z (z,b)):∃d,f c=Z (d,b)/\g d=Z z:=by
 unfold c1 at h;cases e:f c with
 |none=>rw[e]at h;cases h
 |some p=>
  obtain⟨d,i⟩:=p;rw[e]at h;cases a:g d with
  |none=>simp only[a]at h;cases h
  |some x=>simp only[a]at h;cases h;exact⟨d,J,a⟩
def Fd(h:c2 g f i j=Z (z,d)):∃x y a,f j=Z (x,a)/\i a=Z (y,d)/\g x y=Z z:=by
 unfold c2 at h;cases e:f j with
 |none=>rw[e]at h;cases h
 |some p=>
  obtain⟨x,a⟩:=p;simp only[e]at h;cases b:i a with
  |none=>simp only[b]at h;cases h
  |some q=>
   obtain⟨y,l⟩:=q;simp only[b]at h;cases c:g x y with
   |none=>simp only[c]at h;cases h
   |some w=>simp only[c]at h;cases h;exact⟨x,y,a,J,b,c⟩
section
variable{X:Cx}{G:Bg}
def aah{i j pos}:PE X (.Constant (.int i) j pos) (tF G (cC (.int i))):=PE.dd LH λf H Q h=>by obtain⟨F,c,b,d,a,R,e,k⟩:=h;cases e;exact k _ _ _ (ve.refl _) R (xa i)
def adO{i j pos}:PE X (.Constant (.bool i) j pos) (tF G (cC (.U i))):=PE.dd ade λf H Q h=>by obtain⟨F,c,b,d,a,R,e,k⟩:=h;cases e;exact k _ _ _ (ve.refl _) R (xy i)
def aai{i j pos}:PE X (.Constant (.str i) j pos) (tF G (cC (.str i))):=PE.dd Zl λf H Q h=>by obtain⟨F,c,b,d,a,R,e,k⟩:=h;cases e;exact k _ _ _ (ve.refl _) R (zB i)
def aaj{j pos}:PE X (.Constant .none j pos) (tF G (cC .J)):=PE.dd Zk λf H Q h=>by obtain⟨F,c,b,d,a,R,e,k⟩:=h;cases e;exact k _ _ _ (ve.refl _) R AU
set_option tactic.hygienic true
def WR(h:cV i b=Z (d,a)):b[i]?=Z (.I d)/\a=b:=by
 unfold cV at h;split at h
 .rename_i e;cases h;exact⟨e,J⟩
 .cases h
set_option tactic.hygienic false
def yO{a:Type}{o:Option (Option a)}{v:a}(h:o.join=Z v):o=Z (Z v):=by
 cases o with
 |none=>cases h
 |some u=>cases u with
  |none=>cases h
  |some w=>cases h;rfl
def OG(h:PE X e (BU i)):PE X e (tF G (cV i)):=PE.dd h λo H Q f=>by obtain⟨F,m,l,d,j,R,e,k⟩:=f;obtain⟨a,rfl⟩:=WR e;obtain⟨v,b,c⟩:=R.sl i _ a;exact⟨v,yO b,k _ _ _ (ve.refl _) R c⟩
def WS(h:PE X e (tC v))(r:∀H,df G H d v):PE X e (tF G (cC d)):=PE.dd h λj H Q a=>by obtain⟨F,i,c,f,b,R,e,k⟩:=a;cases e;exact k _ _ _ (ve.refl _) R (r _)
def g?(G:Bg)(r:R2)(g:D->D->Option D):Prop:=∀x y z b H v u (Q:VK),g x y=Z z->ve b H->df G b x v->df G b y u->(∀w,(∀a,ve b a->df G a z w)->Q w H)->r v u H Q
def M8(C:g? G r g):∀h H Q,tF G (c2 g f A) h H Q->tOp r (tF G f) (tF G A) h H Q:=λh H Q B=>by obtain⟨F,P,l,d,c,R,e,k⟩:=B;obtain⟨x,y,b,q,t,z⟩:=Fd e;refine⟨F,P,l,x,b,R,q,λv m o N p I=>⟨F,b,m,y,c,p,t,λu i a j R2 M=>?_⟩⟩;exact C x y d i a v u Q z R2.sub (df.mono j _ _ I) M λw E=>k w i a (N.t j) R2 (E _ (ve.refl _))
def adP(i:fu X (cO j) r)(h:g? G r g)(d:PE X a (tF G f))(e:PE X b (tF G c)):PE X (.BinOp a j b pos) (tF G (c2 g f c)):=PE.dd (PH i d e) (M8 h)
def aak(l:fu X (bz c) r)(j:g? G r g)(e:PE X a (tF G f))(h:PE X b (tF G d))(i:gr c b=δ):PE X (.Compare a [c] [b] pos) (tF G (c2 g f d)):=PE.dd (Wt l e h i) (M8 j)
def adQ(i:χ X r)(h:g? G r g)(d:PE X a (tF G f))(e:PE X b (tF G c))(j:PX b):PE X (.Subscript a b pos) (tF G (c2 g f c)):=PE.dd (YK i d e j) (M8 h)
def cT(f:FE):FT:=λc=>match f c with
 |some (.U b,a)=>Z (b,a)
 |_=>O
set_option tactic.hygienic true
def P3(h:cT f c=Z (b,a)):f c=Z (.U b,a):=by
 unfold cT at h;split at h
 .rename_i e;cases h;exact e
 .cases h
set_option tactic.hygienic false
def P4:∀b H Q,kg G (cT f) b H Q->SZ (tF G f) b H Q:=λb H Q j=>by obtain⟨F,l,c,d,a,R,e,k⟩:=j;refine⟨F,l,c,_,a,R,P3 e,λv h m s i r=>?_⟩;exact⟨d,r,k _ _ s i⟩
def WT(u:fu X (bz h) r)(t:g? G r g)(m:PE X a (tF G f))(o:PE X b (tF G l))(q:gr h b=δ):
  PT X (.Compare a [h] [b] pos) (kg G (cT (c2 g f l))):=PT.dd (Wu u m o q) λi H Q p=>by
 obtain⟨F,w,j,d,c,R,e,k⟩:=P4 i H Q p;exact M8 t i H _ ⟨F,w,j,d,c,R,e,k⟩
def WU(h:PE X e (tF G f))(j:∀whole,isTrue e X.b3 whole=(do let v<-whole;standAt e.pos;holding [v] (truthy v)):=by intro _;rfl):PT X e (kg G (cT f)):=PT.dd (Zm h j) λp H Q l=>by obtain⟨F,m,b,d,a,R,e,k⟩:=l;refine⟨F,m,b,_,a,R,P3 e,λv c o s i r=>?_⟩;exact⟨d,r,k _ _ s i⟩
def wq(f:FT):FT:=λc=>match f c with
 |some (b,a)=>Z (!b,a)
 |none=>O
def zJ(f g:FT):FT:=λb=>match f b with
 |some (γ,a)=>g a
 |r=>r
def xk(f g:FT):FT:=λb=>match f b with
 |some (δ,a)=>g a
 |r=>r
def WV(h:PT X a (kg G f)):PT X (.UnaryOp .Not a pos) (kg G (wq f)):=PT.dd (Zp h) λu H Q o=>by
 obtain⟨F,i,j,d,q,R,e,k⟩:=o;unfold wq at e;cases c:f i with
 |none=>simp only[c]at e;cases e
 |some p=>obtain⟨b,r⟩:=p;simp only[c]at e;cases e;exact⟨F,i,j,b,_,R,c,λl t s m=>k _ _ s m⟩
def aal:∀m H Q,kg G (zJ f g) m H Q->tAnd (kg G f) (kg G g) m H Q:=λm H Q t=>by
 obtain⟨F,j,o,d,l,R,e,k⟩:=t;unfold zJ at e;cases c:f j with
 |none=>simp only[c]at e;cases e
 |some p=>
  obtain⟨b,h⟩:=p;cases b with
  |true=>simp only[c]at e;exact⟨F,j,o,γ,h,R,c,λa q s i=>LW ⟨F,h,a,d,l,i,e,λw r u R2=>k _ _ (s.t u) R2⟩⟩
  |false=>simp only[c]at e;cases e;exact⟨F,j,o,δ,_,R,c,λa q s i=>LV (k _ _ s i)⟩
def adR:∀m H Q,kg G (xk f g) m H Q->tOr (kg G f) (kg G g) m H Q:=λm H Q t=>by
 obtain⟨F,j,o,d,l,R,e,k⟩:=t;unfold xk at e;cases c:f j with
 |none=>simp only[c]at e;cases e
 |some p=>
  obtain⟨b,h⟩:=p;cases b with
  |false=>simp only[c]at e;exact⟨F,j,o,δ,h,R,c,λa q s i=>LV ⟨F,h,a,d,l,i,e,λw r u R2=>k _ _ (s.t u) R2⟩⟩
  |true=>simp only[c]at e;cases e;exact⟨F,j,o,γ,_,R,c,λa q s i=>LW (k _ _ s i)⟩
def Tx(h:PT X a (kg G f)):PW X (.BoolOp .And [a] pos) (kg G f):=Wk h
def WW(h:PT X a (kg G f)):PW X (.BoolOp .Or [a] pos) (kg G f):=Zn h
def WX{ey:List Expr}(c:PT X a (kg G f))(d:PW X (.BoolOp .And (b::ey) pos) (kg G g)):PW X (.BoolOp .And (a::b::ey) pos) (kg G (zJ f g)):=PW.dd (Zo c d) aal
def TB{ey:List Expr}(c:PT X a (kg G f))(d:PW X (.BoolOp .Or (b::ey) pos) (kg G g)):PW X (.BoolOp .Or (a::b::ey) pos) (kg G (xk f g)):=PW.dd (adg c d) adR
def v3(f g:FE):FE:=λb=>match f b with
 |some (.U γ,a)=>g a
 |some (.U δ,a)=>Z (.U δ,a)
 |_=>O
def J'(f g:FE):FE:=λb=>match f b with
 |some (.U δ,a)=>g a
 |some (.U γ,a)=>Z (.U γ,a)
 |_=>O
def Gu(f:FE):FE:=λc=>match f c with
 |some (.U b,a)=>Z (.U !b,a)
 |_=>O
def rr(c:FT)(f g:FE):FE:=λb=>match c b with
 |some (γ,a)=>f a
 |some (δ,a)=>g a
 |none=>O
def aam{b}(h:PE X a (tF G f)):PE X (.BoolOp b [a] pos) (tF G f):=Zq h
def M9{f:FE}{ρ:aP}:(∃a,f ρ=Z (.U γ,a))\/(∃a,f ρ=Z (.U δ,a))\/(∀b a,f ρ≠Z (.U b,a)):=by
 by_cases c:∃a,f ρ=Z (.U γ,a)
 .exact .inl c
 by_cases d:∃a,f ρ=Z (.U δ,a)
 .exact .inr (.inl d)
 refine .inr (.inr λb a z=>?_);cases b with
 |true=>exact c ⟨a,z⟩
 |false=>exact d ⟨a,z⟩
set_option tactic.hygienic true
def RG(h:∀b a,f ρ≠Z (.U b,a)):v3 f g ρ=O:=by
 unfold v3;split
 .rename_i e;exact ar e (h _ _)
 .rename_i e;exact ar e (h _ _)
 .rfl
def TC(h:∀b a,f ρ≠Z (.U b,a)):J' f g ρ=O:=by
 unfold J';split
 .rename_i e;exact ar e (h _ _)
 .rename_i e;exact ar e (h _ _)
 .rfl
set_option tactic.hygienic false
def aan{ey:List Expr}(u:PE X a (tF G f))(w:PE X (.BoolOp .And (b::ey) pos) (tF G g)):PE X (.BoolOp .And (a::b::ey) pos) (tF G (v3 f g)):=PE.dd (Zr u w) λC H Q x=>by
 obtain⟨F,i,p,d,o,R,e,k⟩:=x;rcases M9 (f:=f) (ρ:=i)with ⟨h,c⟩|⟨h,c⟩|c
 .have m:=by unfold v3 at e;simp only[c]at e;exact e
  refine⟨F,i,p,_,h,R,c,λv q j s l r=>?_⟩;refine⟨γ,r,?_⟩;exact LW ⟨F,h,q,d,o,l,m,λv B t A R2 z=>k _ _ _ (s.t A) R2 z⟩
 .have m:=by unfold v3 at e;simp only[c]at e;exact e
  cases m;refine⟨F,i,p,_,_,R,c,λv q j s l r=>?_⟩;have y:=r;refine⟨δ,y,?_⟩;exact LV (k _ _ _ s l (xy δ))
 .rw[RG c]at e;cases e
def adS{ey:List Expr}(u:PE X a (tF G f))(w:PE X (.BoolOp .Or (b::ey) pos) (tF G g)):PE X (.BoolOp .Or (a::b::ey) pos) (tF G (J' f g)):=PE.dd (adj u w) λB H Q x=>by
 obtain⟨F,i,p,d,o,R,e,k⟩:=x;rcases M9 (f:=f) (ρ:=i)with ⟨h,c⟩|⟨h,c⟩|c
 .have m:=by unfold J' at e;simp only[c]at e;exact e
  cases m;refine⟨F,i,p,_,_,R,c,λv q j s l r=>?_⟩;refine⟨γ,r,?_⟩;exact LW (k _ _ _ s l (xy γ))
 .have m:=by unfold J' at e;simp only[c]at e;exact e
  refine⟨F,i,p,_,h,R,c,λv q j s l r=>?_⟩;refine⟨δ,r,?_⟩;exact LV ⟨F,h,q,d,o,l,m,λv A t z R2 y=>k _ _ _ (s.t z) R2 y⟩
 .rw[TC c]at e;cases e
set_option tactic.hygienic true
def aao(l:PE X a (tF G f)):PE X (.UnaryOp .Not a pos) (tF G (Gu f)):=PE.dd (Zs l) λu H Q m=>by
 obtain⟨F,o,c,d,p,R,e,k⟩:=m;unfold Gu at e;split at e
 .rename_i b q j;cases e;refine⟨F,o,c,_,_,R,j,λv t h s i r=>?_⟩;exact⟨b,r,k _ _ _ s i (xy _)⟩
 .cases e
set_option tactic.hygienic false
def adT(B:PT X c (kg G h))(z:PE X a (tF G f))(A:PE X b (tF G g)):PE X (.IfExp c a b pos) (tF G (rr h f g)):=PE.dd (SN B z A) λE H Q C=>by
 obtain⟨F,u,w,d,j,R,e,k⟩:=C;unfold rr at e;cases l:h u with
 |none=>simp only[l]at e;cases e
 |some p=>
  obtain⟨b,i⟩:=p;refine⟨F,u,w,b,i,R,l,λr x s t=>?_⟩;cases b with
  |true=>simp only[l]at e;exact LW ⟨F,i,r,d,j,t,e,λv y m q R2 o=>k _ _ _ (s.t q) R2 o⟩
  |false=>simp only[l]at e;exact LV ⟨F,i,r,d,j,t,e,λv y m q R2 o=>k _ _ _ (s.t q) R2 o⟩
noncomputable def vA:FA:=λa=>Z ([],a)
noncomputable def ax(f:FE) (g:FA):FA:=λe=>match f e with
 |some (d,a)=>match g a with
  |some (c,b)=>Z (d::c,b)
  |none=>O
 |none=>O
def OH(h:ax f g i=Z (j,c)):∃d r a,f i=Z (d,a)/\g a=Z (r,c)/\j=d::r:=by
 unfold ax at h;cases e:f i with
 |none=>rw[e]at h;cases h
 |some p=>
  obtain⟨x,a⟩:=p;simp only[e]at h;cases b:g a with
  |none=>simp only[b]at h;cases h
  |some q=>obtain⟨y,l⟩:=q;simp only[b]at h;cases h;exact⟨x,y,a,J,b,J⟩
def xO:PA X [] (o? G vA):=PA.dd z6 λh H Q a=>by obtain⟨F,f,c,d,b,R,e,k⟩:=a;cases e;exact k _ _ _ (ve.refl _) R vJ
def wI(t:PE X e (tF G f))(w:PA X b (o? G g))(y:az (e::b) X.b3=(δ,eval e X.b3)::az b X.b3:=by rfl):PA X (e::b) (o? G (ax f g)):=PA.dd (w6 t w y) λE H Q u=>by obtain⟨F,A,i,d,c,R,e,k⟩:=u;obtain⟨x,r,a,p,q,rfl⟩:=OH e;exact⟨F,A,i,x,a,R,p,λv j l s o z=>⟨F,a,j,r,c,o,q,λC B m h R2 rs=>k _ _ _ (s.t h) R2 (vM (df.mono h _ _ z) rs)⟩⟩
def vI(g:FA):FE:=λc=>match g c with
 |some (b,a)=>if b.length<=1000 then Z (.c4 b,a)else O
 |none=>O
def vF(g:FA):FA:=λc=>match g c with
 |some (b,a)=>if b.length<=1000 then Z (b,a)else O
 |none=>O
set_option tactic.hygienic true
def aap{q}(h:PA X l (o? G g)):PE X (.Tuple l q pos) (tF G (vI g)):=PE.dd (S7 h) λy H Q m=>by
 obtain⟨F,f,i,d,r,R,e,k⟩:=m;unfold vI at e;cases b:g f with
 |none=>simp only[b]at e;cases e
 |some p=>
  obtain⟨w,t⟩:=p;simp only[b]at e;split at e
  .rename_i o;cases e;refine⟨F,f,i,_,_,R,b,λx u j s a rs=>⟨by rw[<-uW rs];exact xT o,λp c=>?_⟩⟩;exact k _ _ _ (s.t (vm (a.e4 c) _)) (a.yr c _) (DT (e?.of uZ) (b?.mono (vm (a.e4 c) _) _ _ rs))
  .cases e
def WY(h:PA X l (o? G g)):PE X (.List l pos) (ub G (vF g)):=PE.dd (S8 h) λx H Q m=>by
 obtain⟨F,f,i,d,q,R,e,k⟩:=m;unfold vF at e;cases c:g f with
 |none=>simp only[c]at e;cases e
 |some p=>
  obtain⟨u,r⟩:=p;simp only[c]at e;split at e
  .rename_i o;cases e;refine⟨F,f,i,_,_,R,c,λw t j s a rs=>⟨by rw[<-uW rs];exact xT o,λp b=>?_⟩⟩;exact k _ _ _ _ s (a.ij b _) uZ (a.e4 b) (a.fg b) (a.apart b) rs
  .cases e
set_option tactic.hygienic false
def cL(g:FA):FE:=λc=>match g c with
 |some (b,a)=>Z (.b4 b,a)
 |none=>O
def WZ(h:cL g c=Z (d,b)):∃a,g c=Z (a,b)/\d=.b4 a:=by
 unfold cL at h;cases e:g c with
 |none=>simp only[e]at h;cases h
 |some p=>obtain⟨a,f⟩:=p;simp only[e]at h;cases h;exact⟨a,J,J⟩
def tN_F:∀c H Q,tF G (cL g) c H Q->ub G g c H Q:=λc H Q q=>by obtain⟨F,t,f,d,b,R,e,k⟩:=q;obtain⟨l,m,rfl⟩:=WZ e;refine⟨F,t,f,l,b,R,m,λp w u h s i r a o j rs=>?_⟩;exact k _ _ _ (s.t (vm a _)) (i.m1 r a o j) (BY uZ (b?.mono (vm a _) _ _ rs))
def aaq(h:PE X e (ub G g)):PE X e (tF G (cL g)):=PE.dd h tN_F
end
inductive x3 where
 |nx (ρ:aP)|bk (ρ:aP)|ct (ρ:aP)
 |rt (d:D) (ρ:aP)
 |rn (ds:aY) (ρ:aP)
abbrev FS:=aP->Option x3
def P5(G:Bg)(F:Fr)(f:Hp)(E:Q'):x3->Prop
 |.nx c=>∀b a e,ve f a->c3 G F b c a e->E.nx b e
 |.bk c=>∀b a e,ve f a->c3 G F b c a e->E.bk b e
 |.ct c=>∀b a e,ve f a->c3 G F b c a e->E.ct b e
 |.rt d c=>∀v b a e,ve f a->c3 G F b c a e->df G a d v->E.rt v e
 |.rn i c=>∀p h b a e,ve f a->c3 G F b c a e->e p=Z (.b4 h)->a p=O->F.B p=O->l4 b c p->b? G a i h->E.rt (.ref p) e
inductive ItFS(G:Bg) (f:FS) (E:Q') (σ:St) (H:Hp):Prop
 |i (F ρ H0 o) (h0:c3 G F σ ρ H0 H) (h1:f ρ=Z o) (h2:P5 G F H0 E o) (h3:(∀p,E.rt p=E.rt p)):ItFS G f E σ H
def iE(G:Bg)(f:FS):TS:=λE a H=>ItFS G f E a H
def P5.C?(h:P5 G F i E o)(s:ve i j):P5 G F j E o:=by
 cases o with
 |nx f=>exact λb a c e R=>h b a c (s.t e) R
 |bk f=>exact λb a c e R=>h b a c (s.t e) R
 |ct f=>exact λb a c e R=>h b a c (s.t e) R
 |rt d f=>exact λv b a c e R=>h v b a c (s.t e) R
 |rn m f=>exact λp l b a c e R=>h p l b a c (s.t e) R
def PS.dd(h:PS X e t)(w:∀E b H,d E b H->t E b H):PS X e d:=λa s b H D I c=>h a s b H D I (w _ _ _ c)
def k?.dd(h:k? X e t)(w:∀E b H,d E b H->t E b H):k? X e d:=λa s b H D I c=>h a s b H D I (w _ _ _ c)
def u0:FS:=λa=>Z (.nx a)
noncomputable def bt(f g:FS):FS:=λb=>match f b with
 |some (.nx a)=>g a
 |r=>r
section
variable{X:Cx}{G:Bg}
def aar(h:iE G u0 E a H):E.nx a H:=by obtain⟨F,c,b,o,R,e,k,_⟩:=h;cases e;exact k _ _ _ (ve.refl _) R
def W0:k? X [] (iE G u0):=k?.dd Wl λE a H h=>aar h
def TF{st:Stmt}{ey:List Stmt}(p:PS X st (iE G f))(q:k? X ey (iE G g)):k? X (st::ey) (iE G (bt f g)):=k?.dd (IS p q) λE w H h=>by
 obtain⟨F,i,j,o,R,e,k,c⟩:=h;unfold bt at e;cases a:f i with
 |none=>simp only[a]at e;cases e
 |some r=>
  cases r with
  |nx b=>simp only[a]at e;exact⟨F,i,j,_,R,a,λt l u s m=>⟨F,b,l,o,m,e,k.C? s,c⟩,c⟩
  |bk b=>simp only[a]at e;cases e;exact⟨F,i,j,_,R,a,k,c⟩
  |ct b=>simp only[a]at e;cases e;exact⟨F,i,j,_,R,a,k,c⟩
  |rt d b=>simp only[a]at e;cases e;exact⟨F,i,j,_,R,a,k,c⟩
  |rn d b=>simp only[a]at e;cases e;exact⟨F,i,j,_,R,a,k,c⟩
def W1{st:Stmt}(a:PS X st (iE G f)):k? X [st] (iE G f):=LI a
noncomputable def uU(f:FE):FS:=λb=>match f b with
 |some (d,a)=>Z (.rt d a)
 |none=>O
noncomputable def wy(f:FA):FS:=λb=>match f b with
 |some (d,a)=>Z (.rn d a)
 |none=>O
def vB{b:Type}{f:aP->Option (b×aP)}{ρ:aP}:f ρ=O\/∃d a,f ρ=Z (d,a):=by
 cases e:f ρ with
 |none=>exact .inl J
 |some p=>exact .inr ⟨p.1,p.2,J⟩
def W3(h:PE X e (tF G f)):PS X (.Return (Z e) pos) (iE G (uU f)):=PS.dd (Ol h) λE t H m=>by
 obtain⟨F,b,i,o,R,e,k,q⟩:=m;unfold uU at e;rcases vB (f:=f) (ρ:=b)with a|⟨d,c,a⟩<;>simp only[a]at e
 .cases e
 .cases e;exact⟨F,b,i,d,c,R,a,λv j p s l r=>k _ _ _ _ s l r⟩
def TH(h:PE X e (ub G f)):PS X (.Return (Z e) pos) (iE G (wy f)):=PS.dd (Ol h) λE A H w=>by
 obtain⟨F,b,i,o,R,e,k,y⟩:=w;unfold wy at e;rcases vB (f:=f) (ρ:=b)with a|⟨d,c,a⟩<;>simp only[a]at e
 .cases e
 .cases e;exact⟨F,b,i,d,c,R,a,λp z j x s l m q r t u=>k _ _ _ _ _ s l m q r t u⟩
noncomputable def vH(f:FE):FS:=λb=>match f b with
 |some (_,a)=>Z (.nx a)
 |none=>O
def TJ{pos:Pos}(h:PE X e (tF G f))(p:dO e O pos.line X.b3=pure δ:=by rfl):PS X (.Expr e pos) (iE G (vH f)):=PS.dd (PB h p) λE u H m=>by
 obtain⟨F,b,i,o,R,e,k,t⟩:=m;unfold vH at e;rcases vB (f:=f) (ρ:=b)with a|⟨d,c,a⟩<;>simp only[a]at e
 .cases e
 .cases e;exact⟨F,b,i,d,c,R,a,λv j q s l r=>k _ _ _ s l⟩
noncomputable def ew(c:FT) (f g:FS):FS:=λb=>match c b with
 |some (γ,a)=>f a
 |some (δ,a)=>g a
 |none=>O
def aas(w:PT X c (kg G h))(t:k? X a (iE G f))(u:k? X b (iE G g)):PS X (.If c a b pos) (iE G (ew h f g)):=PS.dd (adm w t u) λE z H x=>by
 obtain⟨F,m,r,o,R,e,k,q⟩:=x;unfold ew at e;rcases vB (f:=h) (ρ:=m)with l|⟨d,i,l⟩
 .simp only[l]at e;cases e
 .refine⟨F,m,r,d,i,R,l,λj y s p=>?_⟩;cases d with
  |true=>simp only[l]at e;exact LW ⟨F,i,j,o,p,e,k.C? s,q⟩
  |false=>simp only[l]at e;exact LV ⟨F,i,j,o,p,e,k.C? s,q⟩
abbrev FG:=D->aP->Option aP
inductive ItFG(G:Bg) (n:Nat) (g:FG) (v:V) (σ:St) (H:Hp) (Q:(St->Hp->Prop)):Prop
 |i (F ρ H0 d ρ') (h0:c3 G F σ ρ H0 H) (h1:df G H0 d v) (h2:g d ρ=Z ρ') (h3:∀σ',σ'.drop n=σ.drop n->c3 G F σ' ρ' H0 H->Q σ' H):ItFG G n g v σ H Q
def ι(G:Bg)(n:Nat)(g:FG):TG:=λv a H Q=>ItFG G n g v a H Q
inductive YS(G:Bg) (n:Nat) (g:aY->aP->Option aP) (vs:bA) (σ:St) (H:Hp) (Q:(St->Hp->Prop)):Prop
 |i (F ρ H0 ds ρ') (h0:c3 G F σ ρ H0 H) (h1:b? G H0 ds vs) (h2:g ds ρ=Z ρ') (h3:∀σ',σ'.drop n=σ.drop n->c3 G F σ' ρ' H0 H->Q σ' H):YS G n g vs σ H Q
def RH(G:Bg)(n:Nat)(g:aY->aP->Option aP):TGs:=λa b H Q=>YS G n g a b H Q
def PG.dd(h:PG X e t)(w:∀v b H Q,d v b H Q->t v b H Q):PG X e d:=λa s b H x u Q I r c=>h a s b H x u Q I r (w _ _ _ _ c)
def I'.dd(h:I' X e t)(w:∀v b H Q,d v b H Q->t v b H Q):I' X e d:=λa s b H x u Q I r c=>h a s b H x u Q I r (w _ _ _ _ c)
def gN(i:Nat):FG:=λd a=>Z (a.set i (.I d))
def Na{a:Type}{l:List a}{i n:Nat}{x:a}(h:i<n):(l.set i x).drop n=l.drop n:=by apply mj;intro j;rw[fE,fE,cn,ak (by omega)]
def TL(n:Nat)(h:PG X c (AR i))(b:i<n):PG X c (ι G n (gN i)):=PG.dd h λv m H Q a=>by obtain⟨F,l,j,d,f,R,r,e,k⟩:=a;cases e;exact k _ (Na b) (R.setIm i r)
def G9:aY->aP->Option aP:=λa b=>match a with
 |[]=>Z b
 |_=>O
def xA(g:FG)(c:aY->aP->Option aP):aY->aP->Option aP:=λb e=>match b with
 |d::r=>match g d e with
  |some a=>c r a
  |none=>O
 |[]=>O
def W4(h:I' X [] gNil):I' X [] (RH G n G9):=I'.dd h λv j H Q b=>by
 obtain⟨F,i,f,a,c,R,r,e,k⟩:=b;cases a with
 |nil=>cases e;unfold b? at r;exact⟨r,k _ J R⟩
 |cons d a=>cases e
def TM(h:I' X (e::p) (YF (ι G n g) (RH G n q))):I' X (e::p) (RH G n (xA g q)):=I'.dd h λv B H Q t=>by
 obtain⟨F,l,j,c,i,R,r,e,k⟩:=t;cases c with
 |nil=>cases e
 |cons d c=>
  obtain⟨z,x,rfl,u,w⟩:=r;unfold xA at e;cases f:g d l with
  |none=>simp only[f]at e;cases e
  |some a=>simp only[f]at e;exact⟨z,x,J,F,l,j,d,a,R,u,f,λA s o=>⟨F,a,j,c,i,o,w,e,λm y b=>k _ (y.t s) b⟩⟩
def gT(b:aY->aP->Option aP)(n:Nat):FG:=λd c=>match d with
 |.c4 a=>if a.length=n then b a c else O
 |_=>O
set_option tactic.hygienic true
def W5(h:PG X (.Tuple j k pos) (Zt G.K m (RH G n l))):PG X (.Tuple j k pos) (ι G n (gT l m)):=PG.dd h λv w H Q p=>by
 obtain⟨F,u,f,d,b,R,r,e,k⟩:=p;cases d with
 |c4 i=>
  unfold gT at e;simp only at e;split at e
  .rename_i q;obtain⟨a,t,rfl,o,c⟩:=r;exact⟨a,t,J,e?.mono R.sub o,by rw[<-uW c];exact q,F,u,f,i,b,R,c,e,k⟩
  .cases e
 |_=>cases e
set_option tactic.hygienic false
def LY(f:FE)(g:FG):FS:=λc=>match f c with
 |some (d,a)=>match g d a with
  |some b=>Z (.nx b)
  |none=>O
 |none=>O
def W6{st:Stmt}(h:PS X st (EB (tF G f) (ι G n g))):PS X st (iE G (LY f g)):=PS.dd h λE x H q=>by
 obtain⟨F,j,m,o,R,e,k,w⟩:=q;unfold LY at e;rcases vB (f:=f) (ρ:=j)with c|⟨d,a,c⟩<;>simp only[c]at e
 .cases e
 .cases i:g d a with
  |none=>simp only[i]at e;cases e
  |some l=>simp only[i]at e;cases e;exact⟨F,j,m,d,a,R,c,λv b u s p r=>⟨F,a,b,d,l,p,r,i,λt y R2=>k _ _ _ s R2⟩⟩
def vp(i:Nat)(f:FE):FS:=λb=>match f b with
 |some (d,a)=>Z (.nx (a.set i (.I d)))
 |none=>O
def P6{st:Stmt}(h:PS X st (EB (tF G f) (AR i))):PS X st (iE G (vp i f)):=PS.dd h λE u H p=>by
 obtain⟨F,b,j,o,R,e,k,t⟩:=p;unfold vp at e;rcases vB (f:=f) (ρ:=b)with a|⟨d,c,a⟩<;>simp only[a]at e
 .cases e
 .cases e;exact⟨F,b,j,d,c,R,a,λv l q s m r=>k _ _ _ s (m.setIm i r)⟩
def yj(i:Nat)(f:FA):FS:=λb=>match f b with
 |some (d,a)=>Z (.nx (a.set i (.ls d)))
 |none=>O
def Nc{st:Stmt}(h:PS X st (EB (ub G f) (AR i))):PS X st (iE G (yj i f)):=PS.dd h λE B H x=>by
 obtain⟨F,b,j,o,R,e,k,z⟩:=x;unfold yj at e;rcases vB (f:=f) (ρ:=b)with a|⟨d,c,a⟩<;>simp only[a]at e
 .cases e
 .cases e;exact⟨F,b,j,d,c,R,a,λp A l y s m q r t u w=>k _ _ _ s (m.setLs i q r t u w)⟩
def A?(n:Nat)(a:aY):aP:=a.map Sl.I++b0 (n - a.length) .un
def eb(b n:Nat)(f:FS):aY->Option D:=λa=>if a.length=b then match f (A? n a)with
 |some (.rt d _)=>Z d
 |some (.rn a _)=>Z (.b4 a)
 |some (.nx _)=>Z .J
 |_=>O
 else O
def sh(b n:Nat)(f:FS):aY->Option aY:=λa=>if a.length=b then match f (A? n a)with
 |some (.rn a _)=>Z a
 |_=>O
 else O
inductive IspF(G:Bg) (g:aY->Option D) (vs:bA) (H:Hp) (Q:VK) (_x3:XK):Prop
 |i (H0 ds d) (h0:ve H0 H) (h1:b? G H0 ds vs) (h2:g ds=Z d) (h3:∀v H0' H',ve H0 H0'->ve H0' H'->ve H H'->(∀b o,H0' b=Z o->H0 b=Z o\/H b=O)->df G H0' d v->Q v H'):IspF G g vs H Q _x3
def et(G:Bg)(g:aY->Option D):Sp:=λa H Q _x3=>IspF G g a H Q _x3
inductive IspN(G:Bg) (g:aY->Option aY) (vs:bA) (H:Hp) (Q:VK) (_x3:XK):Prop
 |i (H0 ds d) (h0:ve H0 H) (h1:b? G H0 ds vs) (h2:g ds=Z d) (h3:∀p xs H0' H',ve H0 H0'->ve H0' H'->ve H H'->(∀b o,H0' b=Z o->H0 b=Z o\/H b=O)->H p=O->H' p=Z (.b4 xs)->H0' p=O->b? G H0' d xs->Q (.ref p) H'):IspN G g vs H Q _x3
def q?(G:Bg)(g:aY->Option aY):Sp:=λa H Q _x3=>IspN G g a H Q _x3
def IG{n:Nat}{b:aY}{i:Nat}{s:Sl}(h:(A? n b)[i]?=Z s):s=.un\/∃d,b[i]?=Z d/\s=.I d:=by
 unfold A? at h;by_cases a:i<b.length
 .rw[fZ (by simpa using a),bx,bh a]at h;cases h;exact .inr ⟨_,bh a,J⟩
 .rw[fY (by simpa using a),jD]at h;split at h
  .cases h;exact .inl J
  .cases h
def BC{N:aC}{a:bA}{i:Nat}{v:V}(h:a[i]?=Z v):((L2.start N a)[i]?).join=Z v:=by unfold L2.start;have b:=(bX.1 h).1;rw[fZ (by simpa using b),bx,h];rfl
def KU{N:aC}(s:ve H0 H)(r:b? G H0 ds vs)(p:vs.length<=N.length):c3 G ⟨H0,H,[]⟩ (L2.start N vs) (A? N.length ds) H0 H where
 sub:=s
 g0:=ve.refl _
 keep:=λb o e y=>e
 fr:=λb o e=>.inl e
 am:=λa h=>by cases h
 len:=by unfold L2.start A?;rw[aE,aE,ag,ag,c5,c5,uW r]
 sl:=λi t e=>by
  rcases IG e with rfl|⟨d,c,rfl⟩
  .trivial
  .obtain⟨v,f,l⟩:=yi r c;exact⟨v,BC f,l⟩
 ap:=λi j t u a y e y m=>by rcases IG e with rfl|⟨d,_,rfl⟩<;>cases m
set_option tactic.hygienic true
def Nd(h:eb j n f b=Z d):b.length=j/\((∃a,f (A? n b)=Z (.rt d a))\/(∃c a,f (A? n b)=Z (.rn c a)/\d=.b4 c)\/∃a,f (A? n b)=Z (.nx a)/\d=.J):=by
 unfold eb at h;split at h
 .rename_i i;refine⟨i,?_⟩;split at h
  .rename_i e;cases h;exact .inl ⟨_,e⟩
  .rename_i e;cases h;exact .inr (.inl ⟨_,_,e,J⟩)
  .rename_i e;cases h;exact .inr (.inr ⟨_,e,J⟩)
  .cases h
 .cases h
def Nf(h:sh c n f a=Z d):a.length=c/\∃i,f (A? n a)=Z (.rn d i):=by
 unfold sh at h;split at h
 .rename_i b;refine⟨b,?_⟩;split at h
  .rename_i e;cases h;exact⟨_,e⟩
  .cases h
 .cases h
end
set_option tactic.hygienic false
def W7{N:aC}(hN:I<=N.length)(h:et G (eb I N.length f) P H Q E):iE G f { nx:=λ_ c=>Q .J c,rt:=Q } (L2.start N P) H:=by
 obtain⟨l,S,d,s,r,e,k⟩:=h;obtain⟨C,A⟩:=Nd e;clear e;have R:=KU s r (by rw[<-uW r,C];exact hN);have fin:∀{j:St} {x:aP} {a c:Hp},c3 G ⟨l,H,[]⟩ j x a c->ve H c/\ve a c/\∀b o,a b=Z o->l b=Z o\/H b=O:=λi=>⟨λb o e=>i.keep b o e (by simp),i.sub,i.fr⟩;rcases A with ⟨y,e⟩|⟨T,y,e,rfl⟩|⟨y,e,rfl⟩
 .refine⟨_,_,l,_,R,e,λv j a c u i M=>?_,λ_=>J⟩;obtain⟨m,q,t⟩:=fin i;exact k v a c u q m t M
 .refine⟨_,_,l,_,R,e,λp U j a c u i F w B z rs=>?_,λ_=>J⟩;have R2:=i.m1 F w B z;obtain⟨m,q,t⟩:=fin R2;exact k _ _ c (u.t (vm w _)) q m t (BY uZ (b?.mono (vm w _) _ _ rs))
 .refine⟨_,_,l,_,R,e,λj a c u i=>?_,λ_=>J⟩;obtain⟨m,q,t⟩:=fin i;exact k _ a c u q m t AU
def W8{N:aC}(hN:u<=N.length)(h:q? G (sh u N.length f) x H Q E):iE G f { nx:=λv a=>Q .J a,rt:=Q } (L2.start N x) H:=by obtain⟨j,B,d,s,r,e,k⟩:=h;obtain⟨q,C,e⟩:=Nf e;have R:=KU s r (by rw[<-uW r,q];exact hN);refine⟨_,_,j,_,R,e,λp y z c a w i t l m A rs=>?_,λv=>J⟩;exact k p y c a w i.sub (λb o e=>i.keep b o e (by simp)) i.fr m t l rs
def adZ(c:∀a d,g a=Z d->a.length=f):∀b H Q E,et G g b H Q E->b.length=f:=λb H Q E h=>by obtain⟨i,a,d,_,r,e,_⟩:=h;rw[<-uW r];exact c _ _ e
def ad0(c:∀a d,g a=Z d->a.length=f):∀b H Q E,q? G g b H Q E->b.length=f:=λb H Q E h=>by obtain⟨i,a,d,_,r,e,_⟩:=h;rw[<-uW r];exact c _ _ e
def W9:∀a d,eb b n f a=Z d->a.length=b:=λy y h=>(Nd h).1
def Xa:∀a d,sh b n f a=Z d->a.length=b:=λy y h=>(Nf h).1
def Gv{c:Type}(g:aY->Option c)(a:FA):aP->Option (c×aP):=λf=>match a f with
 |some (e,b)=>match g e with
  |some d=>Z (d,b)
  |none=>O
 |none=>O
abbrev uQ(g:aY->Option D)(a:FA):FE:=Gv g a
abbrev vN(g:aY->Option aY)(a:FA):FA:=Gv g a
def EC{j:Type}{g:aY->Option j}{a:FA}{ρ c:aP}{d:j}(h:Gv g a ρ=Z (d,c)):∃b,a ρ=Z (b,c)/\g b=Z d:=by
 unfold Gv at h;rcases vB (f:=a) (ρ:=ρ)with e|⟨b,l,e⟩<;>simp only[e]at h
 .cases h
 .cases i:g b with
  |none=>simp only[i]at h;cases h
  |some x=>simp only[i]at h;cases h;exact⟨b,e,i⟩
section
variable{X:Cx}{G:Bg}
def Xb(hd:∀H,b? G H dds dvs):∀h H Q,tF G (uQ (λb=>g (b++dds)) a) h H Q->E5 (et G g) dvs E (o? G a) h H Q:=λh H Q t=>by obtain⟨F,y,l,d,f,R,e,k⟩:=t;obtain⟨b,q,r⟩:=EC e;refine⟨F,y,l,b,f,R,q,λz m o s i rs=>⟨m,b++dds,d,i.sub,w9 rs (hd _),r,λv p c j w x fr u=>?_⟩⟩;exact k v p c (s.t j) (i.ff x j w fr) u
def Xc(hd:∀H,b? G H dds dvs):∀i H Q,ub G (vN (λc=>g (c++dds)) a) i H Q->E5 (q? G g) dvs E (o? G a) i H Q:=λi H Q x=>by obtain⟨F,I,m,d,h,R,e,k⟩:=x;obtain⟨c,t,u⟩:=EC e;refine⟨F,I,m,c,h,R,t,λM o q s b rs=>⟨o,c++dds,d,b.sub,w9 rs (hd _),u,λp C r f l A B fr j y w z=>?_⟩⟩;exact k p C r f (s.t l) (b.ff B l A fr) y w (b.fg j) (b.apart j) z
end
section
variable{X:Cx}{G:Bg}
def Xd(hd:∀H,b? G H dds dvs)(h:PE X e (E5 (et G g) dvs E (o? G a))):PE X e (tF G (uQ (λb=>g (b++dds)) a)):=PE.dd h (Xb hd)
def TN(hd:∀H,b? G H dds dvs)(h:PE X e (E5 (q? G g) dvs E (o? G a))):PE X e (ub G (vN (λb=>g (b++dds)) a)):=PE.dd h (Xc hd)
def RI(h:PE X e (E5 (q? G g) [] E Kl)):PE X e (ub G (vN g vA)):=PE.dd h λA H Q o=>by obtain⟨F,z,f,d,x,R,e,k⟩:=o;obtain⟨y,j,l⟩:=EC e;cases j;exact⟨f,[],d,R.sub,vJ,l,λp w i a c t u fr b q m r=>k p w i a c (R.ff u c t fr) q m (R.fg b) (R.apart b) r⟩
def RJ:aC->aY->Str->Option D
 |n::b,d::a,f=>if n=f then Z d else RJ b a f
 |_,_,_=>O
theorem KW:∀{h:aC} {b:aY} {a:bA} {f:Str} {d:D},b? G H b a->RJ h b f=Z d->∃v,(h.zip a).lookup f=Z v/\df G H d v
 |[],b,a,f,d,r,e=>by simp[RJ]at e
 |n::h,[],a,f,d,r,e=>by simp[RJ]at e
 |n::h,p::b,a,f,d,r,e=>by
  obtain⟨v,q,rfl,l,m⟩:=r;unfold RJ at e;by_cases c:n=f
  .rw[aj c]at e;cases e;subst c;exact⟨v,by simp[dN],l⟩
  .rw[ak c]at e;obtain⟨w,i,j⟩:=KW m e;refine⟨w,?_,j⟩;have o:=beq_eq_false_iff_ne.2 λz=>c z.symm;simp only[fF,dN,o];exact i
def uV(ok:Nat->Bool)(f:Str):D->Option D
 |.obj c b a=>if ok c=γ then RJ b a f else O
 |_=>O
set_option tactic.hygienic true
def TQ(A:PE X e (tF G t))(j:∀c,ok c=γ->Q? X.K (G.ca c)/\Bf X.K (G.ca c) f)(z:fN e f X.b3 (eval e X.b3)=eval e X.b3:=by rfl):PE X (.Attribute e f pos) (tF G (c1 (uV ok f) t)):=PE.dd (ZU A z) λU H Q B=>by
 obtain⟨F,I,m,d,h,R,e,k⟩:=B;obtain⟨x,q,b⟩:=Fc e;cases x with
 |obj c S N=>
  unfold uV at b;simp only at b;split at b
  .rename_i l;refine⟨F,I,m,_,h,R,q,λv M o s i r=>?_⟩;obtain⟨a,p,T,rfl,u,P,y⟩:=r;obtain⟨w,C,E⟩:=KW y b;exact⟨a,_,p,_,w,J,i.sub _ _ u,(j c l).1,(j c l).2,C,k _ _ _ s i E⟩
  .cases b
 |_=>cases b
set_option tactic.hygienic false
def MOk(X:Cx)(C:Addr)(m:Str)(d:Sp)(dvs:bA)(E:XK):Prop:=∃(k:Nat) (f:Addr) (b:bU) (c:aC) (a:List aa),Q? X.K C/\Meth X.K C m f/\zi X.prog X.w X.K X.mg X.b1 ze k f b c d/\xj k X.A/\jj X.K b c a/\de dvs a/\mu ze X E
def vh(g:Nat->Option (aY->Option D))(m:Str)(f:FE)(a:FA):FE:=λo=>match f o with
 |some (.obj c i j,b)=>match g c with
  |some h=>if i.contains m=γ then O else match a b with
   |some (l,e)=>match h (.obj c i j::l)with
    |some d=>Z (d,e)
    |none=>O
   |none=>O
  |none=>O
 |_=>O
set_option tactic.hygienic true
def Jg(h:vh g m f a ρ=Z (d,t)):
  ∃c e i b l j,f ρ=Z (.obj c e i,b)/\g c=Z l/\e.contains m=δ/\a b=Z (j,t)/\l (.obj c e i::j)=Z d:=by
 unfold vh at h;split at h
 .rename_i c e i b u;cases o:g c with
  |none=>simp only[o]at h;cases h
  |some l=>
   simp only[o]at h;cases p:e.contains m with
   |true=>simp only[p,if_true]at h;cases h
   |false=>
    simp only[p,eQ,if_false]at h;rcases vB (f:=a) (ρ:=b)with q|⟨j,w,q⟩<;>simp only[q]at h
    .cases h
    .cases r:l (.obj c e i::j)with
     |none=>simp only[r]at h;cases h
     |some x=>simp only[r]at h;cases h;exact⟨c,e,i,b,l,j,u,o,p,q,r⟩
 .cases h
set_option tactic.hygienic false
theorem ED:∀{a:aC} {b:bA},a.contains m=δ->(a.zip b).lookup m=O
 |[],b,h=>rfl
 |n::a,[],h=>rfl
 |n::a,x::b,h=>by rw[pB,l6]at h;simp only[fF,dN,h.1];exact ED h.2
def TR(T:Addr->Sp->Prop)(hT:∀C d,T C d->MOk X C m d dvs E)(W:PE X o ta)(S:PA X (e::i) t)
  (hst:az (e::i) X.b3=(δ,eval e X.b3)::az i X.b3:=by rfl) (hpl:(bG pos (az i X.b3)).any (·.1)=δ:=by rfl)
  (w:eval (.Call (.Attribute o m apos) (e::i) [] pos) X.b3=(do
   let N<-eval o X.b3
   standAt apos.atName
   let (f,first)<-holding [N] (getMethod N m pl)
   callWith pos f first (bG pos (az (e::i) X.b3)) (backToKw pos (eh [] X.b3))):=by rfl):
  PE X (.Call (.Attribute o m apos) (e::i) [] pos) (λj H Q=>ta j H λx p=>∃a C B fs d,x=.ref a/\p a=Z (.ka C B fs)/\T C d/\fs.lookup m=O/\t j p λvs y=>d (x::(vs++dvs)) y Q E):=by
 intro b s j H Q I h;refine qu (e0 (W b s j H _ I h) λu s1 zz=>?_) w;obtain⟨x,p,z,rx,a,C,B,fs,d,R,P,w,l,q⟩:=zz;obtain⟨k,f,fd,ps,ds,c,M,F,Y,U,hd,hx⟩:=hT C d w;subst R;obtain rfl:u=Value.ref a:=rx;refine IU z P c M l ?_;refine nh I.ok.xo.kin M.kp (e0 (S pos b s1 j p _ z q) λus s2 ⟨vs,y,A,r,q2⟩=>⟨A.kx,?_⟩) hst hpl;exact LK (vs:=.ref a::vs) F Y U hd hx A (.cons J r) q2
def RK(T:Addr->Sp->Prop)(hT:∀C b,T C b->MOk X C m b dvs E)(B:PE X o R)
  (j:eval (.Call (.Attribute o m apos) [] [] pos) X.b3=(do
   let w<-eval o X.b3
   standAt apos.atName
   let (f,first)<-holding [w] (getMethod w m pl)
   callWith pos f first (bG pos (az [] X.b3)) (backToKw pos (eh [] X.b3))):=by rfl):
  PE X (.Call (.Attribute o m apos) [] [] pos) (λp H Q=>R p H λx e=>∃a C r fs b,x=.ref a/\e a=Z (.ka C r fs)/\T C b/\fs.lookup m=O/\b (x::dvs) e Q E):=by
 intro d s p H Q I h;refine qu (e0 (B d s p H _ I h) λu Y zz=>?_) j;obtain⟨x,e,i,P,a,C,r,fs,b,z,y,j,l,q⟩:=zz;obtain⟨k,f,U,W,S,c,t,F,M,A,hd,N⟩:=hT C b j;subst z;obtain rfl:u=Value.ref a:=P;refine IU i y c t l ?_;exact mU i.kx t.kp (LK (vs:=[.ref a]) F M A hd N i (.cons J .nil) q)
def MT(G:Bg)(g:Nat->Option (aY->Option D)):Addr->Sp->Prop:=λC a=>∃c h,g c=Z h/\C=G.ca c/\a=et G h
def Xe(h:PE X (.Call (.Attribute o m apos) (e::es) [] pos) (λz H Q=>tF G f z H λx j=>∃b C u fs I,x=.ref b/\j b=Z (.ka C u fs)/\MT G g C I/\fs.lookup m=O/\o? G a z j λvs p=>I (x::(vs++[])) p Q E)):
  PE X (.Call (.Attribute o m apos) (e::es) [] pos) (tF G (vh g m f a)):=PE.dd h λz H Q l=>by
 obtain⟨F,ρ,N,d,y,R,e,k⟩:=l;obtain⟨c,ns,ds,i,l,w,T,U,W,Y,e5⟩:=Jg e;refine⟨F,ρ,N,_,i,R,T,λv j P s A r=>?_⟩;have r0:=r;obtain⟨b,u,xs,rfl,h1,h2,h3⟩:=r;refine⟨b,_,u,_,_,J,A.sub _ _ h1,⟨c,l,U,J,J⟩,ED W,F,i,j,w,y,A,Y,λys p q B R2 rs=>?_⟩;show et G l (V.ref b::(ys++[])) q Q E;rw[bT];exact⟨p,_,d,R2.sub,vM (df.mono B _ _ r0) rs,e5,λv S t M t2 t3 fr rv=>k v S t (s.t (B.t M)) (R2.ff t3 M t2 fr) rv⟩
def TU(h:PE X (.Call (.Attribute o m apos) [] [] pos) (λu H Q=>tF G f u H λx a=>∃b C l fs q,x=.ref b/\a b=Z (.ka C l fs)/\MT G g C q/\fs.lookup m=O/\q (x::[]) a Q E)):
  PE X (.Call (.Attribute o m apos) [] [] pos) (tF G (vh g m f vA)):=PE.dd h λu H Q p=>by
 obtain⟨F,ρ,w,d,ρ',R,e,k⟩:=p;obtain⟨c,ns,ds,ρ1,p,P,A,B,I,M,N⟩:=Jg e;cases M;refine⟨F,ρ,w,_,_,R,A,λv a y s j r=>?_⟩;have T:=r;obtain⟨b,l,xs,rfl,S,h2,h3⟩:=r;refine⟨b,_,l,_,_,J,j.sub _ _ S,⟨c,p,B,J,J⟩,ED I,?_⟩;exact⟨a,_,d,j.sub,vM T vJ,N,λv z i t W Y fr U=>k v z i (s.t t) (j.ff Y t W fr) U⟩
inductive IspI(G:Bg) (c:Nat) (g:aY->Option (aC×aY)) (vs:bA) (H:Hp) (Q:VK) (_x3:XK):Prop
 |i (p dx:Addr) (us:bA) (H0:Hp) (ds:aY) (ns:aC) (es:aY) (h0:vs=.ref p::us) (h1:H p=Z (.ka (G.ca c) dx [])) (h2:H0 p=O) (h3:ve H0 H) (h4:b? G H0 ds us) (h5:g ds=Z (ns,es)) (h6:∀ys dx' H0' H',ve H0 H0'->ve H0' H'->(∀b o,H b=Z o->b≠p->H' b=Z o)->(∀b o,H0' b=Z o->H0 b=Z o\/H b=O)->H0' p=O->H' p=Z (.ka (G.ca c) dx' (ns.zip ys))->ns.length=ys.length->b? G H0' es ys->Q .J H'):IspI G c g vs H Q _x3
def spI(G:Bg)(c:Nat)(g:aY->Option (aC×aY)):Sp:=λa H Q _x3=>IspI G c g a H Q _x3
def vC(c:Nat)(g:aY->Option (aC×aY))(a:FA):FE:=λh=>match a h with
 |some (d,b)=>match g d with
  |some (f,e)=>Z (.obj c f e,b)
  |none=>O
 |none=>O
def Xf(hd:∀H,b? G H dds dvs)(h:PE X e (YI (G.ca c) (spI G c g) dvs E (o? G a))):PE X e (tF G (vC c (λm=>g (m++dds)) a)):=PE.dd h λσ H Q hh=>by
 obtain⟨F,N,U,d,P,R,e,k⟩:=hh;unfold vC at e;rcases vB (f:=a) (ρ:=N)with y|⟨m,ρ1,y⟩<;>simp only[y]at e
 .cases e
 .cases A:g (m++dds)with
  |none=>simp only[A]at e;cases e
  |some q=>
   obtain⟨ns,es⟩:=q;simp only[A]at e;cases e;refine⟨F,N,U,m,P,R,y,λxs S j s l rs x r p hdx ne=>?_⟩;have I:(eg j r (.fl x)) x=O:=by rw[vb (λz=>ne z.symm)];exact p
   have M:ve j (eg (eg j r (.fl x)) x (.ka (G.ca c) r [])):=(vm hdx _).t (vm I _);refine⟨x,r,_,S,m++dds,ns,es,J,uZ,l.e4 p,l.sub.t M,w9 rs (hd _),A,λys w W Y T t2 t3 fr C hp hl ry=>⟨J,?_⟩⟩;have t4:=λb o e=>t3 b o (M b o e) (xS e p);have B:∀b o,W b=Z o->S b=Z o\/j b=O:=λb o e=>by
    rcases fr b o e with q|q
    .exact .inl q
    .cases z:j b with
     |none=>exact .inr J
     |some u=>rw[M b u z]at q;cases q
   have R2:=l.ff t4 T t2 B;have hb:=l.fg p;have R3:=R2.m1 hp C hb (λi t ei to z=>l.apart p i t ei to z);refine k _ _ _ (s.t (T.t (vm C _))) R3 ?_;exact⟨x,w,ys,J,uZ,hl,b?.mono (vm C _) _ _ ry⟩
def vV(h:Nat)(i:Nat)(f:Str)(j:FE):FS:=λl=>match j l with
 |some (d,a)=>match a[i]? with
  |some (.ob c b e)=>if c=h then if b.contains f=γ then O else if e.length=b.length then if b.length<900 then Z (.nx (a.set i (.ob c (b++[f]) (e++[d]))))else O else O else O
  |_=>O
 |none=>O
theorem Ng:∀{a:aC} {b:bA},a.contains f=δ->a.length=b.length->Bv f v (a.zip b)=(a++[f]).zip (b++[v])
 |[],[],h,l=>rfl
 |[],x::b,h,l=>by cases l
 |n::a,[],h,l=>by cases l
 |n::a,x::b,h,l=>by
  rw[pB,l6]at h;have c:¬n=f:=λz=>by rw[z]at h;simp at h
  have d:=Ng (v:=v) h.2 (by simpa using l);show Bv f v ((n,x)::a.zip b)=_;rw[show Bv f v ((n,x)::a.zip b)=(if n=f then (n,v)::a.zip b else (n,x)::Bv f v (a.zip b)) from J,ak c,d];rfl
set_option tactic.hygienic true
def Xg{st:Stmt}(h:PS X st (sFld X.K (BU i) (tF G x) f))(y:Q? X.K (G.ca p)/\Bf X.K (G.ca p) f):PS X st (iE G (vV p i f x)):=PS.dd h λE σ H N=>by
 obtain⟨F,j,z,o,R,e,k,k2⟩:=N;unfold vV at e;rcases vB (f:=x) (ρ:=j)with b|⟨d,l,b⟩<;>simp only[b]at e
 .cases e
 .split at e
  .rename_i c P U t;split at e
   .rename_i hcc;subst hcc;split at e
    .cases e
    rename_i hnc;split at e
    .rename_i Y;split at e
     .rename_i W;cases e;refine⟨F,j,z,d,l,R,b,λv T A s m r=>?_⟩;obtain⟨a,q,Q,u,B,C,I,w,M⟩:=m.sl i _ t;refine⟨_,yO u,a,_,q,_,J,B,y.1,y.2,by rw[iY];omega,?_⟩;have hnf:P.contains f=δ:=by simpa using hnc
      rw[Ng hnf w];refine k _ _ _ s (m.mut t J u (λS hH=>?_) J);exact⟨a,q,Q++[v],J,hH,C,I,by rw[aE,aE,w];rfl,w9 M (vM r vJ)⟩
     .cases e
    .cases e
   .cases e
  .cases e
set_option tactic.hygienic false
def stI(c n:Nat)(a:aY):aP:=.ob c [] []::A? (n - 1) a
def ro(c h n:Nat)(f:FS):aY->Option (aC×aY):=λa=>if a.length=h then match f (stI c n a)with
 |some (.nx i)=>match (i:aP)[0]? with
  |some (Sl.ob e d b)=>if e=c then if d.length=b.length then Z (d,b)else O else O
  |_=>O
 |_=>O
 else O
set_option tactic.hygienic true
def Jh(h:ro c m n f b=Z q):b.length=m/\∃a,f (stI c n b)=Z (.nx a)/\a[0]?=Z (.ob c q.1 q.2)/\q.1.length=q.2.length:=by
 unfold ro at h;split at h
 .rename_i l;refine⟨l,?_⟩;split at h
  .rename_i a e;split at h
   .rename_i o r p d;split at h
    .rename_i j;split at h
     .rename_i i;subst j;cases h;exact⟨a,e,d,i⟩
     .cases h
    .cases h
   .cases h
  .cases h
 .cases h
set_option tactic.hygienic false
def P7{N:aC}(hN:P+1<=N.length)(h:spI G c (ro c P N.length f) vs H Q E):iE G f { nx:=λ_ H'=>Q .J H',rt:=Q } (L2.start N vs) H:=by
 obtain⟨p,dx,us,H0,ds,ns,es,rfl,A,h0,s,r,e,k⟩:=h;obtain⟨hl,ρ,l,x,z⟩:=Jh e;have gets:∀{i:Nat} {t:Sl},(stI c N.length ds)[i]?=Z t->(i=0/\t=.ob c [] [])\/t=.un\/∃(j:Nat) (d:D),i=j+1/\ds[j]?=Z d/\t=.I d:=λ{i t} e=>by
  cases i with
  |zero=>cases e;exact .inl ⟨J,J⟩
  |succ j=>
   have F:=e;rcases IG F with rfl|⟨d,l,rfl⟩
   .exact .inr (.inl J)
   .exact .inr (.inr ⟨j,d,J,l,J⟩)
 have R:c3 G ⟨H0,H,[p]⟩ (L2.start N (.ref p::us)) (stI c N.length ds) H0 H:={
  sub:=s
  g0:=ve.refl _
  keep:=λb o e _=>e
  fr:=λb o e=>.inl e
  am:=λa ha=>by
   have y:=by simpa using ha
   subst y;exact⟨_,A⟩
  len:=by unfold L2.start stI A?;simp only[aE,ag,c5,aN];rw[<-uW r,jL,rS,kj 1]
  sl:=λi t e=>by
   rcases gets e with ⟨rfl,rfl⟩|rfl|⟨j,d,rfl,l,rfl⟩
   .exact⟨p,dx,[],BC J,A,h0,by simp,J,vJ⟩
   .trivial
   .obtain⟨v,x,z⟩:=yi r l;exact⟨v,BC (by simpa using x),z⟩
  ap:=λi j t u a hij I M B C=>by
   rcases gets I with ⟨rfl,rfl⟩|rfl|⟨_,_,_,_,rfl⟩
   .rcases gets M with ⟨rfl,rfl⟩|rfl|⟨_,_,_,_,rfl⟩
    .exact ar J hij
    .cases C
    .cases C
   .cases B
   .cases B }
 refine⟨_,_,H0,_,R,l,λσ' q H' Y m=>?_,λ_=>J⟩;obtain⟨a,w,ys,q1,S,q3,T,U,W⟩:=m.sl 0 _ x;have y:=by simpa using T
 subst y;exact k ys w q H' Y m.sub (λb o e n=>m.keep b o e (by simpa using n)) m.fr q3 S U W
end
def Sl.L:Sl->Option aY
 |.ls a=>Z a
 |.pm a=>Z a
 |_=>O
def Sl.putL:Sl->aY->Sl
 |.pm _,a=>.pm a
 |_,a=>.ls a
def Sl.rl{s:Sl}(h:s.L=Z a):s.fl=γ:=by cases s<;>first|rfl|cases h
def Sl.putL_L{s:Sl}:(s.putL a).L=Z a:=by cases s<;>rfl
section
variable{G:Bg}{F:Fr}{σ:St}{ρ:aP}{H0 H:Hp}
theorem Kq.b4{o:Option V}{s:Sl}{ds:aY}(h:Kq G F H0 H o s)(e:s.L=Z ds):∃a xs,o=Z (.ref a)/\H a=Z (.b4 xs)/\H0 a=O/\b? G H0 ds xs:=by
 cases s with
 |ls b=>cases e;obtain⟨a,xs,c,d,f,j,i⟩:=h;exact⟨a,xs,c,d,f,i⟩
 |pm b=>cases e;obtain⟨a,xs,c,d,f,j,i⟩:=h;exact⟨a,xs,c,d,f,i⟩
 |_=>cases e
def c3.mutL(R:c3 G F σ ρ H0 H)(m:ρ[i]?=Z s)(o:s.L=Z w)(l:(σ[i]?).join=Z (.ref a))(r:b? G H0 d c):
  c3 G F σ (ρ.set i (s.putL d)) H0 (eg H a (.b4 c)):=by
 have ok:=R.sl i s m;rw[l]at ok;refine R.mut m (Sl.rl o) l (λu hH=>?_) (Sl.rl Sl.putL_L);cases s with
 |ls e=>obtain⟨b,t,f,p,h,j,q⟩:=ok;cases f;exact⟨a,c,J,hH,h,j,r⟩
 |pm e=>obtain⟨b,t,f,p,h,j,q⟩:=ok;cases f;exact⟨a,c,J,hH,h,j,r⟩
 |_=>cases o
end
def wY(ρ:aP)(i:Nat):Option aY:=match ρ[i]? with
 |some s=>s.L
 |none=>O
def zq(h:wY ρ i=Z a):∃s,ρ[i]?=Z s/\s.L=Z a:=by
 unfold wY at h;cases e:ρ[i]? with
 |none=>rw[e]at h;cases h
 |some s=>rw[e]at h;exact⟨s,J,h⟩
def putAt(ρ:aP)(i:Nat)(a:aY):aP:=match ρ[i]? with
 |some s=>ρ.set i (s.putL a)
 |none=>ρ
def CZ(i:Nat)(f:FE):FE:=λc=>match wY c i with
 |some _=>match f c with
  |some (d,a)=>match wY a i with
   |some b=>if b.length<1000 then Z (.J,putAt a i (b++[d]))else O
   |none=>O
  |none=>O
 |none=>O
section
variable{X:Cx}{G:Bg}
def yk(R:c3 G F m ρ e H)(h:wY ρ i=Z o):∃a d,m[i]?=Z (Z (.ref a))/\H a=Z (.b4 d)/\b? G e o d/\
  (∀b c,b? G e b c->c3 G F m (putAt ρ i b) e (eg H a (.b4 c))):=by
 obtain⟨s,f,j⟩:=zq h;obtain⟨a,d,l,p,t,q⟩:=(R.sl i s f).b4 j;refine⟨a,d,yO l,p,q,λb c r=>?_⟩;unfold putAt;rw[f];exact R.mutL f j l r
set_option tactic.hygienic true
def RM(h:PE X e (tBM G.K "list" LR (BU i) (o? G (ax f vA)))):PE X e (tF G (CZ i f)):=PE.dd h λσ H Q z=>by
 obtain⟨F,c,t,d,N,R,e,k⟩:=z;unfold CZ at e;cases j:wY c i with
 |none=>simp only[j]at e;cases e
 |some y=>
  simp only[j]at e;rcases vB (f:=f) (ρ:=c)with l|⟨x,b,l⟩<;>simp only[l]at e
  .cases e
  .cases m:wY b i with
   |none=>simp only[m]at e;cases e
   |some T=>
    simp only[m]at e;split at e
    .rename_i U;cases e;obtain⟨a,M,p,C,Y,_⟩:=yk R j;refine⟨.ref a,p,.inl ⟨J,M,fb.of C⟩,F,c,t,[x],b,R,by unfold ax;rw[l];rfl,λys P u s w rs=>?_⟩;obtain⟨v,W,rfl,B,A⟩:=rs;subst A;obtain⟨S,o,q,E,r,I⟩:=yk w m;rw[p]at q;cases q;exact⟨a,o,v,J,J,E,by rw[<-uW r];exact DS (by omega),k _ _ _ s (I _ _ (w9 r (vM B vJ))) AU⟩
    .cases e
set_option tactic.hygienic false
def Ir(i:Nat)(f:FA):FE:=λd=>match wY d i with
 |some _=>match f d with
  |some (c,a)=>match wY a i with
   |some b=>if b.length+c.length<=1000 then Z (.J,putAt a i (b++c))else O
   |none=>O
  |none=>O
 |none=>O
set_option tactic.hygienic true
def RN(h:PE X e (tBM G.K "list" PZ (BU i) (Ec (ub G f) Kl))):PE X e (tF G (Ir i f)):=PE.dd h λσ H Q A=>by
 obtain⟨F,c,u,d,S,R,e,k⟩:=A;unfold Ir at e;cases j:wY c i with
 |none=>simp only[j]at e;cases e
 |some z=>
  simp only[j]at e;rcases vB (f:=f) (ρ:=c)with l|⟨x,b,l⟩<;>simp only[l]at e
  .cases e
  .cases m:wY b i with
   |none=>simp only[m]at e;cases e
   |some Y=>
    simp only[m]at e;split at e
    .rename_i B;cases e;obtain⟨a,N,q,E,s3,_⟩:=yk R j;refine⟨.ref a,q,.inl ⟨J,N,fb.of E⟩,F,c,u,x,b,R,l,λp P T w s y C h0 hb W rs=>?_⟩;obtain⟨U,o,r,I,t,M⟩:=yk y m;rw[q]at r;cases r;refine⟨a,p,o,P,J,J,I,C,?_,k _ _ _ s (M _ _ (w9 t rs)) AU⟩;rw[<-uW t,<- uW rs];exact xT B
    .cases e
set_option tactic.hygienic false
def afO(i:Nat):FE:=λa=>match wY a i with
 |some (d::b)=>Z (d,putAt a i b)
 |_=>O
def Fe(r:b? G b a c)(h:t? a i=Z d):∃v,t? c i=Z v/\df G b d v:=by
 unfold t? at h ⊢;rw[<-uW r];cases e:ixN a.length i with
 |none=>rw[e]at h;cases h
 |some j=>rw[e]at h;exact yi r h
def OI(i:Nat)(f:FE):FE:=λb=>match wY b i with
 |some _=>match f b with
  |some (.int j,a)=>match wY a i with
   |some c=>match t? c j with
    |some d=>Z (d,a)
    |none=>O
   |none=>O
  |_=>O
 |none=>O
set_option tactic.hygienic true
def aat(h:PE X e (tOp (WE G.K) (BU i) (tF G f))):PE X e (tF G (OI i f)):=PE.dd h λσ H Q I=>by
 obtain⟨F,t,y,d,W,R,e,k⟩:=I;unfold OI at e;cases l:wY t i with
 |none=>simp only[l]at e;cases e
 |some C=>
  simp only[l]at e;obtain⟨A,U,p,_⟩:=yk R l;split at e
  .rename_i j m E;cases b:wY m i with
   |none=>simp only[b]at e;cases e
   |some B=>
    simp only[b]at e;cases c:t? B j with
    |none=>simp only[c]at e;cases e
    |some x=>simp only[c]at e;cases e;refine⟨.ref A,p,F,t,y,_,_,R,E,λu Y z s o r=>?_⟩;subst r;obtain⟨a,T,q,M,N,s4⟩:=yk o b;rw[p]at q;cases q;obtain⟨w,P,S⟩:=Fe N c;exact⟨_,T,j,w,J,J,fb.of M,P,k _ _ _ s o S⟩
  .cases e
set_option tactic.hygienic false
def vl(i:Nat):FE:=λb=>match b[i]? with
 |some (.ls a)=>Z (.b4 a,b.set i (.I (.b4 a)))
 |some (.dk c a)=>Z (.Y c a,b.set i (.I (.Y c a)))
 |some (.I d)=>Z (d,b)
 |_=>O
theorem c3.toIm(R:c3 G F σ ρ H0 H)(hi:ρ[i]?=Z s)(hs:(σ[i]?).join=Z (.ref p))(so:s.fl=γ)(A:H p=Z o)(h0:H0 p=O)(hb:F.B p=O)(r:df G (eg H0 p o) d (.ref p)):
  c3 G F σ (ρ.set i (.I d)) (eg H0 p o) H where
 sub:=λb u e=>by
  by_cases hb:b=p
  .subst hb;rw[uZ]at e;cases e;exact A
  .rw[vb hb]at e;exact R.sub _ _ e
 g0:=R.g0.t (vm h0 o)
 keep:=R.keep
 fr:=λb u e=>by
  by_cases c:b=p
  .subst c;exact .inr hb
  .rw[vb c]at e;exact R.fr _ _ e
 am:=R.am
 len:=by rw[eW];exact R.len
 sl:=λj t e=>by
  rw[cn]at e;by_cases h:i=j
  .subst h;rw[aj J]at e;split at e
   .cases e;exact⟨_,hs,r⟩
   .cases e
  .rw[ak h]at e;refine(R.sl j t e).ff (vm h0 o) (λa u v v q=>q) λa u z to q C=>?_;rw[vb (λy=>by subst y;exact R.ap j i t s a (λy=>h y.symm) e hi to so z hs)];exact C
 ap:=λj k t u b hjk l w f tk E vk=>by
  have nr:∀{m:Nat} {x:Sl},(ρ.set i (.I d))[m]?=Z x->x.fl=γ->ρ[m]?=Z x:=λ{m x} e I=>by
   rw[cn]at e;by_cases h:i=m
   .subst h;rw[aj J]at e;split at e
    .cases e;cases I
    .cases e
   .rw[ak h]at e;exact e
  exact R.ap j k t u b hjk (nr l f) (nr w tk) f tk E vk
theorem c3.toImD(R:c3 G F σ ρ H0 H)(hi:ρ[i]?=Z s)(hs:(σ[i]?).join=Z (.ref p))(so:s.fl=γ)(h0:H0 p=O)(hb:F.B p=O)(r:df G (eg H0 p o) d (.ref p)):
  c3 G F σ (ρ.set i (.I d)) (eg H0 p o) (eg H p o) where
 sub:=λb u e=>by
  by_cases hb:b=p
  .subst hb;rw[uZ]at e ⊢;exact e
  .rw[vb hb]at e ⊢;exact R.sub _ _ e
 g0:=R.g0.t (vm h0 o)
 keep:=λb u e n=>by rw[vb (λz=>by subst z;rw[hb]at e;cases e)];exact R.keep b u e n
 fr:=λb u e=>by
  by_cases c:b=p
  .subst c;exact .inr hb
  .rw[vb c]at e;exact R.fr _ _ e
 am:=λb hm=>by
  by_cases c:b=p
  .subst c;exact⟨o,uZ⟩
  .rw[vb c];exact R.am b hm
 len:=by rw[eW];exact R.len
 sl:=λj t e=>by
  rw[cn]at e;by_cases h:i=j
  .subst h;rw[aj J]at e;split at e
   .cases e;exact⟨_,hs,r⟩
   .cases e
  .rw[ak h]at e;refine(R.sl j t e).ff (vm h0 o) (λa u z to q=>?_) λa u z to q A=>?_
   .rw[vb (λy=>by subst y;exact R.ap j i t s a (λy=>h y.symm) e hi to so z hs)];exact q
   .rw[vb (λy=>by subst y;exact R.ap j i t s a (λy=>h y.symm) e hi to so z hs)];exact A
 ap:=λj k t u b hjk l w f tk C vk=>by
  have nr:∀{m:Nat} {x:Sl},(ρ.set i (.I d))[m]?=Z x->x.fl=γ->ρ[m]?=Z x:=λ{m x} e E=>by
   rw[cn]at e;by_cases h:i=m
   .subst h;rw[aj J]at e;split at e
    .cases e;cases E
    .cases e
   .rw[ak h]at e;exact e
  exact R.ap j k t u b hjk (nr l f) (nr w tk) f tk C vk
set_option tactic.hygienic true
def ad2(h:PE X e (BU i)):PE X e (tF G (vl i)):=PE.dd (PE.ghost h) λE H Q z=>by
 obtain⟨F,C,u,d,A,R,e,k⟩:=z;unfold vl at e;split at e
 .rename_i r b;cases e;obtain⟨a,q,f,l,c,m,p⟩:=R.sl i _ b;have j:=BY uZ (b?.mono (vm c _) _ _ p);exact⟨_,yO f,.inl (k _ _ _ (vm c _) (R.toIm b f J l c m j) j)⟩
 .rename_i t r b;cases e;obtain⟨a,q,f,l,c,m,p,y⟩:=R.sl i _ b;refine⟨_,yO f,.inr ⟨a,_,l,λo=>?_⟩⟩;have j:df G (eg u a (.lb o (.dK (t.zip q)))) (.Y t r) (.ref a):=by unfold df;exact⟨a,o,q,J,uZ,p,b?.mono (vm c _) _ _ y⟩
  exact k _ _ _ (vm c _) (R.toImD b f J c m j) j
 .rename_i B b;cases e;obtain⟨v,w,x⟩:=R.sl i _ b;exact⟨v,yO w,.inl (k _ _ _ (ve.refl _) R x)⟩
 .cases e
set_option tactic.hygienic false
def Kr(i:Nat):FA:=λa=>match a[i]? with
 |some (.ls b)=>Z (b,a.set i .un)
 |_=>O
set_option tactic.hygienic true
def Xh(h:PE X e (BU i)):PE X e (ub G (Kr i)):=PE.dd h λσ H Q r=>by
 obtain⟨F,ρ,H0,d,ρ',R,e,k⟩:=r;unfold Kr at e;split at e
 .rename_i ds l;cases e;obtain⟨a,xs,h1,h2,h3,h4,h5⟩:=R.sl i _ l;have nr:∀{m:Nat} {x:Sl},(ρ.set i .un)[m]?=Z x->x.fl=γ->m≠i/\ρ[m]?=Z x:=λ{m x} e A=>by
   rw[cn]at e;by_cases h:i=m
   .subst h;rw[aj J]at e;split at e
    .cases e;cases A
    .cases e
   .rw[ak h]at e;exact⟨λz=>h z.symm,e⟩
  have p:c3 G F σ (ρ.set i .un) H0 H:={
   sub:=R.sub,g0:=R.g0,keep:=R.keep,fr:=R.fr,am:=R.am
   len:=by rw[eW];exact R.len
   sl:=λj t e=>by
    rw[cn]at e;by_cases h:i=j
    .subst h;rw[aj J]at e;split at e
     .cases e;trivial
     .cases e
    .rw[ak h]at e;exact R.sl j t e
   ap:=λj k t u b hjk c q o tk y vk=>R.ap j k t u b hjk (nr c o).2 (nr q tk).2 o tk y vk }
  refine⟨_,yO h1,k a xs _ _ (ve.refl _) p h2 h3 h4 (λj t c to z=>?_) h5⟩;obtain⟨w,f⟩:=nr c to;exact R.ap j i t _ a w f l to J z h1
 .cases e
end
set_option tactic.hygienic false
inductive IspM(G:Bg) (g:aY->aY->Option (D×aY)) (vs:bA) (H:Hp) (Q:VK) (_x3:XK):Prop
 |i (a:Addr) (us xs:bA) (H0:Hp) (es ds:aY) (d:D) (es':aY) (h0:vs=.ref a::us) (h1:H a=Z (.b4 xs)) (h2:H0 a=O) (h3:ve H0 H) (h4:b? G H0 es xs) (h5:b? G H0 ds us) (h6:g es ds=Z (d,es')) (h7:∀v xs' H0' H',ve H0 H0'->ve H0' H'->(∀b o,H b=Z o->b≠a->H' b=Z o)->(∀b o,H0' b=Z o->H0 b=Z o\/H b=O)->H0' a=O->H' a=Z (.b4 xs')->b? G H0' es' xs'->df G H0' d v->Q v H'):IspM G g vs H Q _x3
def rh(G:Bg)(g:aY->aY->Option (D×aY)):Sp:=λa H Q _x3=>IspM G g a H Q _x3
def stM(n:Nat)(b a:aY):aP:=.pm b::A? (n - 1) a
def Fg(b:aP):Option aY:=match b with
 |.pm a::_=>Z a
 |_=>O
def qx(h n:Nat)(f:FS):aY->aY->Option (D×aY):=λe c=>if c.length=h then match f (stM n e c)with
 |some (.rt d b)=>match Fg b with
  |some a=>Z (d,a)
  |none=>O
 |some (.rn i b)=>match Fg b with
  |some a=>Z (.b4 i,a)
  |none=>O
 |_=>O
 else O
def Ji(h:Fg b=Z a):b[0]?=Z (.pm a):=by
 unfold Fg at h;split at h
 .cases h;rfl
 .cases h
set_option tactic.hygienic true
def Nh(h:qx o n f j i=Z (d,c)):i.length=o/\((∃a,f (stM n j i)=Z (.rt d a)/\a[0]?=Z (.pm c))\/∃l a,f (stM n j i)=Z (.rn l a)/\a[0]?=Z (.pm c)/\d=.b4 l):=by
 unfold qx at h;split at h
 .rename_i m;refine⟨m,?_⟩;split at h
  .rename_i x a e;cases b:Fg a with
   |none=>simp only[b]at h;cases h
   |some q=>simp only[b]at h;cases h;exact .inl ⟨a,e,Ji b⟩
  .rename_i x a e;cases b:Fg a with
   |none=>simp only[b]at h;cases h
   |some q=>simp only[b]at h;cases h;exact .inr ⟨x,a,e,Ji b,J⟩
  .cases h
 .cases h
section
variable{X:Cx}{G:Bg}
set_option tactic.hygienic false
def Xj{N:aC}(hN:U+1<=N.length)(h:rh G (qx U N.length f) vs H Q E):iE G f { nx:=λ_ H'=>Q .J H',rt:=Q } (L2.start N vs) H:=by
 obtain⟨a,us,xs,H0,es,ds,d,es',rfl,ha,h0,s,r1,r,e,k⟩:=h;obtain⟨hl,l⟩:=Nh e;have gets:∀{i:Nat} {t:Sl},(stM N.length es ds)[i]?=Z t->(i=0/\t=.pm es)\/t=.un\/∃(j:Nat) (d:D),i=j+1/\ds[j]?=Z d/\t=.I d:=λ{i t} e=>by
  cases i with
  |zero=>cases e;exact .inl ⟨J,J⟩
  |succ j=>
   have C:=e;rcases IG C with rfl|⟨d,l,rfl⟩
   .exact .inr (.inl J)
   .exact .inr (.inr ⟨j,d,J,l,J⟩)
 have R:c3 G ⟨H0,H,[a]⟩ (L2.start N (.ref a::us)) (stM N.length es ds) H0 H:={
  sub:=s
  g0:=ve.refl _
  keep:=λb o e _=>e
  fr:=λb o e=>.inl e
  am:=λb hb=>by
   have M:=by simpa using hb
   subst M;exact⟨_,ha⟩
  len:=by unfold L2.start stM A?;simp only[aE,ag,c5,aN];rw[<-uW r,jL,rS,kj 1]
  sl:=λi t e=>by
   rcases gets e with ⟨rfl,rfl⟩|rfl|⟨j,d,rfl,l,rfl⟩
   .exact⟨a,xs,BC J,ha,h0,by simp,r1⟩
   .trivial
   .obtain⟨v,q,F⟩:=yi r l;exact⟨v,BC (by simpa using q),F⟩
  ap:=λi j t u b hij P S z A=>by
   rcases gets P with ⟨rfl,rfl⟩|rfl|⟨_,_,_,_,rfl⟩
   .rcases gets S with ⟨rfl,rfl⟩|rfl|⟨_,_,_,_,rfl⟩
    .exact ar J hij
    .cases A
    .cases A
   .cases z
   .cases z }
 have fin:∀{v:V} {σ':St} {ρ':aP} {c H':Hp},ve H0 c->c3 G ⟨H0,H,[a]⟩ σ' ρ' c H'->ρ'[0]?=Z (.pm es')->df G c d v->Q v H':=λx m q y=>by
  obtain⟨a',B,q1,W,q3,Y,q5⟩:=m.sl 0 _ q;have I:=by simpa using Y
  subst I;exact k _ B _ _ x m.sub (λb o e n=>m.keep b o e (by simpa using n)) m.fr q3 W q5 y
 rcases l with ⟨ρ,l,q⟩|⟨zs,ρ,l,q,rfl⟩
 .exact⟨_,_,H0,_,R,l,λv σ' c H' x m y=>fin x m q y,λ_=>J⟩
 .refine⟨_,_,H0,_,R,l,λp B σ' c H' x m T w hb ap rs=>?_,λ_=>J⟩;exact fin (x.t (vm w _)) (m.m1 T w hb ap) q (BY uZ (b?.mono (vm w _) _ _ rs))
def ad4(j:∀f b d,g f b=Z d->b.length=l):∀c H Q E,rh G g c H Q E->c.length=l+1:=λc H Q E h=>by obtain⟨a,o,p,m,f,b,d,i,rfl,_,_,_,_,r,e,_⟩:=h;rw[aN,<- uW r,j _ _ _ e]
def Xk:∀b a d,qx c n f b a=Z d->a.length=c:=λy y d h=>(Nh h).1
def c3.call1(R:c3 G F σ ρ H0 H)(hi:ρ[i]?=Z s)(hs:s.L=Z es)(hb:(σ[i]?).join=Z (.ref b))
  (C:ve H0 a) (s2:ve a H') (l:∀c o,H c=Z o->c≠b->H' c=Z o) (fr:∀c o,a c=Z o->H0 c=Z o\/H c=O) (h0:a b=O) (f:H' b=Z (.b4 p)) (r:b? G a es' p):
  c3 G F σ (ρ.set i (s.putL es')) a H':=by
 have so:=Sl.rl hs;obtain⟨Y,u,A,e2,e3,E⟩:=(R.sl i s hi).at so;rw[hb]at A;cases A;exact {
  sub:=s2
  g0:=R.g0.t C
  keep:=λc o e n=>by
   refine l c o (R.keep c o e n) λz=>?_;subst z;rcases E with q|q
   .rw[q]at e;cases e
   .exact n q
  fr:=λc o e=>by
   rcases fr c o e with q|q
   .exact R.fr c o q
   .exact .inr (R.fg q)
  am:=λc Q=>by
   by_cases z:c=b
   .subst z;exact⟨_,f⟩
   .obtain⟨o,q⟩:=R.am c Q;exact⟨o,l c o q z⟩
  len:=by rw[eW];exact R.len
  sl:=λj t e=>by
   rw[cn]at e;by_cases h:i=j
   .subst h;rw[aj J]at e;split at e
    .cases e;rw[hb];have ok:=R.sl i s hi;rw[hb]at ok;cases s with
     |ls d=>obtain⟨c,xs,h1,h2,h3,h4,h5⟩:=ok;cases h1;exact⟨b,p,J,f,h0,h4,r⟩
     |pm d=>obtain⟨c,xs,h1,h2,h3,h4,h5⟩:=ok;cases h1;exact⟨b,p,J,f,h0,h4,r⟩
     |_=>cases hs
    .cases e
   .rw[ak h]at e;refine(R.sl j t e).ff C (λc w z to q=>l c w q λy=>?_) λc w z to q B=>?_
    .subst y;exact R.ap j i t s c (λy=>h y.symm) e hi to so z hb
    .cases y:a c with
     |none=>rfl
     |some o=>
      rcases fr c o y with x|x
      .rw[x]at B;cases B
      .rw[x]at q;cases q
  ap:=λj k t u c hjk I M U tk W vk=>by
   have nr:∀{m:Nat} {x:Sl},(ρ.set i (s.putL es'))[m]?=Z x->∃y,ρ[m]?=Z y/\(x.fl=γ->y.fl=γ):=λ{m x} e=>by
    rw[cn]at e;by_cases h:i=m
    .subst h;exact⟨s,hi,λv=>so⟩
    .rw[ak h]at e;exact⟨x,e,λq=>q⟩
   obtain⟨y,N,S⟩:=nr I;obtain⟨z,P,T⟩:=nr M;exact R.ap j k y z c hjk N P (S U) (T tk) W vk }
def vY(g:aY->aY->Option (D×aY))(i:Nat)(a:FA):FE:=λe=>match wY e i with
 |some _=>match a e with
  |some (f,b)=>match wY b i with
   |some h=>match g h f with
    |some (d,c)=>Z (d,putAt b i c)
    |none=>O
   |none=>O
  |none=>O
 |none=>O
def aau(h:PE X e (E5 (rh G g) [] E (Ec (BU i) (o? G a)))):PE X e (tF G (vY g i a)):=PE.dd h λσ H Q U=>by
 obtain⟨F,m,A,d,ρ',R,e,k⟩:=U;unfold vY at e;cases r:wY m i with
 |none=>simp only[r]at e;cases e
 |some T=>
  simp only[r]at e;rcases vB (f:=a) (ρ:=m)with t|⟨p,l,t⟩<;>simp only[t]at e
  .cases e
  .cases u:wY l i with
   |none=>simp only[u]at e;cases e
   |some C=>
    simp only[u]at e;cases w:g C p with
    |none=>simp only[w]at e;cases e
    |some q=>
     obtain⟨d1,x⟩:=q;simp only[w]at e;cases e;obtain⟨b,xs,y,s2,s3,_⟩:=yk R r;refine⟨.ref b,y,F,m,A,p,l,R,t,λN B P s o rs=>?_⟩;obtain⟨s,c,j⟩:=zq u;obtain⟨b',z,I,W,Y,t4⟩:=(o.sl i s c).b4 j;rw[yO I]at y;cases y;refine⟨b,N,z,B,C,p,d,x,?_,W,Y,o.sub,t4,rs,w,λv zs H2 S M u2 u3 fr w0 w1 w2 w3=>?_⟩
     .show V.ref b::N++[]=_;rw[bT]
     .refine k _ _ _ (ve.t ‹ve A B› M) ?_ w3;unfold putAt;rw[c];exact o.call1 c j I M u2 u3 fr w0 w1 w2
def Walk(G:Bg)(h:It)(j:aY)(l:Hp):Prop:=∀(i:Nat) (e a:Hp),ve l e->ve e a->
 (∀d,j[i]?=Z d->h.go i a/\∀x c,h.yld i a x c->∃f,ve e f/\ve f c/\ve a c/\(∀b o,f b=Z o->e b=Z o\/a b=O)/\df G f d x)/\(i=j.length->h.stop i a)
inductive ItFI(G:Bg) (f:FA) (σ:St) (H:Hp) (R:(It->Hp->Prop)):Prop
 |i (F ρ H0 ds ρ') (h0:c3 G F σ ρ H0 H) (h1:f ρ=Z (ds,ρ')) (h2:∀A' H0' H',ve H0 H0'->c3 G F σ ρ' H0' H'->Walk G A' ds H0'->R A' H'):ItFI G f σ H R
def O'(G:Bg)(f:FA):TI:=λa H R=>ItFI G f a H R
def PI.dd(h:PI X f e t)(w:∀b H R,d b H R->t b H R):PI X f e d:=λa s b H R I c=>h a s b H R I (w _ _ _ c)
def Jj(h:fb G.K j a c)(r:b? G j w c):Walk G (Itl G.K a) w j:=λi q t s p=>by have f:=(s.t p).seq h;refine⟨λd e=>?_,λC=>⟨c,f,by rw[<-uW r,C];exact aJ _⟩⟩;obtain⟨v,l,z⟩:=yi r e;refine⟨⟨c,v,f,l⟩,λx u y=>?_⟩;obtain⟨A,B⟩:=y;have m:=B c f;rw[l]at m;cases m;subst A;exact⟨q,ve.refl _,p,ve.refl _,λb o e=>.inl e,df.mono s _ _ z⟩
def TV(h:e? G.K j a c)(r:b? G j w c):Walk G (Itt G.K a) w j:=λi q t s p=>by have f:=e?.mono (s.t p) h;refine⟨λd e=>?_,λC=>⟨c,f,by rw[<-uW r,C];exact aJ _⟩⟩;obtain⟨v,l,z⟩:=yi r e;refine⟨⟨c,v,f,l⟩,λx u y=>?_⟩;obtain⟨A,B⟩:=y;have m:=B c f;rw[l]at m;cases m;subst A;exact⟨q,ve.refl _,p,ve.refl _,λb o e=>.inl e,df.mono s _ _ z⟩
def iL(f:FE):FA:=λc=>match f c with
 |some (.b4 b,a)=>Z (b,a)
 |some (.qi b,a)=>Z (b,a)
 |_=>O
def iT(f:FE):FA:=λc=>match f c with
 |some (.c4 b,a)=>Z (b,a)
 |_=>O
set_option tactic.hygienic true
def Ni(h:PI X w e (SV G.K (tF G f))):PI X w e (O' G (iL f)):=PI.dd h λz H R u=>by
 obtain⟨F,q,p,y,x,R,e,k⟩:=u;unfold iL at e;split at e
 .rename_i i o j;cases e;refine⟨F,q,p,_,_,R,j,λv t d s b r=>?_⟩;obtain⟨a,m,rfl,c,l⟩:=r;exact⟨a,J,⟨m,b.sub.seq (fb.of c)⟩,k _ _ _ s b (Jj (fb.of c) l)⟩
 .rename_i i o j;cases e;refine⟨F,q,p,_,_,R,j,λv t d s b r=>?_⟩;obtain⟨a,m,rfl,c,l⟩:=r;exact⟨a,J,⟨m,b.sub.seq c⟩,k _ _ _ s b (Jj c l)⟩
 .cases e
def Xl(h:PI X p e (Zx G.K (tF G f))):PI X p e (O' G (iT f)):=PI.dd h λz H R m=>by
 obtain⟨F,t,d,y,u,R,e,k⟩:=m;unfold iT at e;split at e
 .rename_i j w l;cases e;refine⟨F,t,d,_,_,R,l,λv x i s b r=>?_⟩;obtain⟨a,q,rfl,c,o⟩:=r;exact⟨a,J,⟨q,e?.mono b.sub c⟩,k _ _ _ s b (TV c o)⟩
 .cases e
set_option tactic.hygienic false
def Jk(lo:Int)(n:Nat):aY:=(bf n).map λ(i:Nat)=>D.int (lo+(i:Int))
def Nj{lo:Int}:Walk G (Itr lo n) (Jk lo n) p:=λi c f s m=>by
 refine⟨λd e=>?_,λl=>by show n<=i;rw[l];simp[Jk]⟩;unfold Jk at e;rw[bx]at e;by_cases a:i<n
 .rw[l9 a]at e;cases e;refine⟨a,λx h y=>?_⟩;obtain⟨j,rfl⟩:=y;subst j;exact⟨c,ve.refl _,m,ve.refl _,λb o e=>.inl e,xa _⟩
 .rw[gQ (by simpa using a)]at e;cases e
def K'(f:FE):FA:=λb=>match f b with
 |some (.int n,a)=>if -1000000<=n/\n<=1000000 then Z (Jk 0 n.toNat,a)else O
 |_=>O
set_option tactic.hygienic true
def OJ(h:PI X m e (YG (o? G (ax f vA)))):PI X m e (O' G (K' f)):=PI.dd h λy H R i=>by
 obtain⟨F,o,a,t,p,R,e,k⟩:=i;unfold K' at e;split at e
 .rename_i n q d;split at e
  .rename_i u;cases e;refine⟨F,o,a,[.int n],_,R,by unfold ax;rw[d];rfl,λx r b s c rs=>?_⟩;obtain⟨v,w,rfl,l,j⟩:=rs;subst j l;exact⟨n,J,by omega,by omega,k _ _ _ s c Nj⟩
  .cases e
 .cases e
set_option tactic.hygienic false
def fh(g:FG)(b:FS):aY->FS
 |[],c=>Z (.nx c)
 |d::r,c=>match g d c with
  |none=>O
  |some e=>match b e with
   |some (.nx a)=>fh g b r a
   |some (.ct a)=>fh g b r a
   |some (.bk a)=>Z (.nx a)
   |some (.rt d a)=>Z (.rt d a)
   |some (.rn d a)=>Z (.rn d a)
   |none=>O
def x9(s:FA)(g:FG)(b:FS):FS:=λd=>match s d with
 |some (c,a)=>fh g b c a
 |none=>O
def Xm{st:Stmt}(h:PS X st (Zz (O' G s) (ι G n g) (iE G b))):PS X st (iE G (x9 s g b)):=PS.dd h λE σ H hh=>by
 obtain⟨F,W,H0,o,R,e,k,k2⟩:=hh;unfold x9 at e;rcases vB (f:=s) (ρ:=W)with Q|⟨l,C,Q⟩<;>simp only[Q]at e
 .cases e
 .refine⟨F,W,H0,l,C,R,Q,λA' N H1' s1 R1 wk=>?_⟩;refine⟨λi m σ H=>m=l.length - i/\i<=l.length/\∃c r,ve N r/\c3 G F σ c r H/\fh g b (l.drop i) c=Z o,⟨_,J,cp _,C,N,ve.refl _,R1,e⟩,?_⟩;rintro i m σi B ⟨rfl,hi,c,r,A,I,a⟩;by_cases hlt:i<l.length
  .have ed:=jA hlt;rw[ed]at a;unfold fh at a;obtain⟨go,yl⟩:=(wk i r B A I.sub).1 l[i] (bh hlt);refine .inr ⟨go,λp z=>∃c r,ve N r/\c3 G F p c r z/\fh g b (l.drop (i+1)) c=Z o,λp z q=>⟨l.length - (i+1),by omega,J,hlt,q⟩,λx z y=>?_⟩;obtain⟨Y,M,t2,t3,t4,t5⟩:=yl x z y;have R2:=I.ff t3 M t2 t4;cases S:g l[i] c with
   |none=>simp only[S]at a;cases a
   |some w=>
    simp only[S]at a;refine⟨F,c,Y,_,w,R2,t5,S,λσ3 v R3=>?_⟩;have T:=k.C? (s1.t (A.t M));cases u:b w with
    |none=>simp only[u]at a;cases a
    |some q=>
     refine⟨F,w,Y,q,R3,u,?_,λv=>J⟩;cases q with
     |nx j=>simp only[u]at a;exact λp t z U P=>⟨j,t,A.t (M.t U),P,a⟩
     |ct j=>simp only[u]at a;exact λp t z U P=>⟨j,t,A.t (M.t U),P,a⟩
     |bk j=>simp only[u]at a;cases a;exact T
     |rt d j=>simp only[u]at a;cases a;exact T
     |rn d j=>simp only[u]at a;cases a;exact T
  .have ez:l.drop i=[]:=oJ (by omega);rw[ez]at a;cases a;exact .inl ⟨(wk i r B A I.sub).2 (by omega),k _ _ _ (s1.t A) I⟩
def whL(c:FT)(b:FS):Nat->FS
 |0,_=>O
 |n+1,f=>match c f with
  |some (δ,e)=>Z (.nx e)
  |some (γ,e)=>match b e with
   |some (.nx a)=>whL c b n a
   |some (.ct a)=>whL c b n a
   |some (.bk a)=>Z (.nx a)
   |some (.rt d a)=>Z (.rt d a)
   |some (.rn d a)=>Z (.rn d a)
   |none=>O
  |none=>O
def RO{st:Stmt}(n:Nat)(h:PS X st (SR (kg G c) (iE G b))):PS X st (iE G (whL c b n)):=PS.dd h λE Q H Y=>by
 obtain⟨F,P,B,o,R,e,k,k2⟩:=Y;refine⟨λm Q H=>∃i r,ve B r/\c3 G F Q i r H/\whL c b m i=Z o,⟨n,P,B,ve.refl _,R,e⟩,?_⟩;rintro m σi U ⟨i,r,A,W,a⟩;cases m with
 |zero=>cases a
 |succ m=>
  unfold whL at a;rcases vB (f:=c) (ρ:=i)with x|⟨t,w,x⟩
  .simp only[x]at a;cases a
  .refine⟨F,i,r,t,w,W,x,λS T z N=>?_⟩;cases t with
   |false=>simp only[x]at a;cases a;exact LV (k _ _ _ (A.t z) N)
   |true=>
    simp only[x]at a;refine LW ⟨λl y=>∃i r,ve B r/\c3 G F l i r y/\whL c b m i=Z o,λl y q=>⟨m,dG m,q⟩,?_⟩;have I:=k.C? (A.t z);cases u:b w with
    |none=>simp only[u]at a;cases a
    |some q=>
     refine⟨F,w,S,q,N,u,?_,λv=>J⟩;cases q with
     |nx j=>simp only[u]at a;exact λl p y M C=>⟨j,p,A.t (z.t M),C,a⟩
     |ct j=>simp only[u]at a;exact λl p y M C=>⟨j,p,A.t (z.t M),C,a⟩
     |bk j=>simp only[u]at a;cases a;exact I
     |rt d j=>simp only[u]at a;cases a;exact I
     |rn d j=>simp only[u]at a;cases a;exact I
end
def Sl.d6:Sl->Sl
 |.I d=>.I d
 |.ls a=>.pm a
 |.pm a=>.pm a
 |_=>.un
def Fh(k:Nat)(d6:List Nat)(ρ:aP):aP:=b0 k .un++d6.map λj=>((ρ[j]?).getD .un).d6
def ym:List Nat->aP->aP->Option aP
 |[],_,a=>Z a
 |j::d6,t::b,a=>match wY a j with
  |some _=>match t with
   |.pm c=>ym d6 b (putAt a j c)
   |_=>O
  |none=>ym d6 b a
 |_::_,[],_=>O
def AV(k:Nat)(d6:List Nat)(g:FG)(ft:FT)(f:FE):aY->aP->Option (aY×aP)
 |[],c=>Z ([],c)
 |d::r,c=>match g d (Fh k d6 c)with
  |none=>O
  |some h=>match ft h with
   |some (γ,b)=>match f b with
    |some (x,i)=>match ym d6 (i.drop k) c with
     |some a=>match AV k d6 g ft f r a with
      |some (j,e)=>Z (x::j,e)
      |none=>O
     |none=>O
    |none=>O
   |some (δ,b)=>match ym d6 (b.drop k) c with
    |some a=>AV k d6 g ft f r a
    |none=>O
   |none=>O
def u7(k:Nat)(d6:List Nat)(s:FA)(g:FG)(ft:FT)(fe:FE):FA:=λc=>match s c with
 |some (b,a)=>if b.length<=1000 then AV k d6 g ft fe b a else O
 |none=>O
def vX:FT:=λa=>Z (γ,a)
theorem BZ:∀{d6:List Nat} {A f b:aP},ym d6 A f=Z b->b.length=f.length/\
  (∀(j:Nat) (c:Sl),b[j]?=Z c->∃s,f[j]?=Z s/\((c=s/\(s.L≠O->j∉d6))\/∃(m:Nat) (i a:aY),d6[m]?=Z j/\A[m]?=Z (Sl.pm i)/\s.L=Z a/\c=s.putL i))
 |[],A,f,b,h=>by cases h;exact⟨J,λj c e=>⟨c,e,.inl ⟨J,λv z=>by cases z⟩⟩⟩
 |F::d6,[],f,b,h=>by cases h
 |F::d6,t::A,f,b,h=>by
  unfold ym at h;cases l:wY f F with
  |none=>
   simp only[l]at h;obtain⟨B,C⟩:=BZ h;refine⟨B,λj c e=>?_⟩;obtain⟨s,r,q⟩:=C j c e;refine⟨s,r,?_⟩;rcases q with ⟨rfl,q⟩|⟨m,i,a,u,w,q3,x⟩
   .refine .inl ⟨J,λz y=>?_⟩;rcases aM.1 y with y|y
    .subst y;unfold wY at l;rw[r]at l;exact z l
    .exact q z y
   .exact .inr ⟨m+1,i,a,u,w,q3,x⟩
  |some p=>
   simp only[l]at h;cases t with
   |pm i=>
    simp only at h;obtain⟨H,r,G⟩:=zq l;unfold putAt at h;rw[r]at h;simp only at h;obtain⟨B,C⟩:=BZ h;refine⟨by rw[B,eW],λj c e=>?_⟩;obtain⟨s,o,q⟩:=C j c e;by_cases E:F=j
    .subst E;rw[cn,aj J]at o;split at o
     .cases o;refine⟨H,r,.inr ?_⟩;rcases q with ⟨rfl,q⟩|⟨m,d,a,u,w,q3,x⟩
      .exact⟨0,i,p,J,J,G,J⟩
      .refine⟨m+1,d,p,u,w,G,?_⟩;rw[x];cases H<;>rfl
     .cases o
    .rw[cn,ak E]at o;refine⟨s,o,?_⟩;rcases q with ⟨rfl,q⟩|⟨m,d,a,u,w,q3,x⟩
     .refine .inl ⟨J,λz y=>?_⟩;rcases aM.1 y with y|y
      .exact E y.symm
      .exact q z y
     .exact .inr ⟨m+1,d,a,u,w,q3,x⟩
   |_=>cases h
def Ks(d6:List Nat)(b:St)(ρ:aP):List Addr:=d6.filterMap λj=>match wY ρ j,(b[j]?).join with
 |some _,Z (.ref a)=>Z a
 |_,_=>O
set_option tactic.hygienic true
def Da:a∈Ks d6 i h ↔ ∃j∈d6,(∃b,wY h j=Z b)/\(i[j]?).join=Z (.ref a):=by
 unfold Ks;rw[iJ];constructor
 .rintro⟨j,f,e⟩;refine⟨j,f,?_⟩;split at e
  .rename_i b l c d;cases e;exact⟨⟨b,c⟩,d⟩
  .cases e
 .rintro⟨j,f,⟨b,c⟩,d⟩;refine⟨j,f,?_⟩;rw[c,d]
section
variable{X:Cx}{G:Bg}{F:Fr}{σ:St}{ρ:aP}{H0 H:Hp}
set_option tactic.hygienic false
def Jl(h:(Fh k d6 ρ)[i]?=Z s):s=.un\/∃m j,i=k+m/\d6[m]?=Z j/\s=((ρ[j]?).getD .un).d6:=by
 unfold Fh at h;by_cases a:i<k
 .rw[fZ (by simpa using a),jD,aj a]at h;cases h;exact .inl J
 .rw[fY (by simpa using qf a),c5,bx]at h;cases e:d6[i - k]? with
  |none=>rw[e]at h;cases h
  |some j=>rw[e]at h;cases h;exact .inr ⟨i - k,j,by omega,e,J⟩
def Fi(h:d6[m]?=Z j):((yN k d6 σ)[k+m]?).join=(σ[j]?).join:=by unfold yN;rw[fY (by simp),c5,show k+m - k=m by omega,bx,h];rfl
theorem c3.d6(R:c3 G F σ ρ H0 H)(k:Nat)(d6:List Nat)(nd:d6.Nodup):c3 G ⟨H0,H,Ks d6 σ ρ⟩ (yN k d6 σ) (Fh k d6 ρ) H0 H where
 sub:=R.sub
 g0:=ve.refl _
 keep:=λb o e _=>e
 fr:=λb o e=>.inl e
 am:=λa ha=>by obtain⟨j,q,⟨ds,f⟩,p⟩:=Da.1 ha;obtain⟨s,y,A⟩:=zq f;obtain⟨I,xs,h1,h2,_⟩:=(R.sl j s y).b4 A;rw[p]at h1;cases h1;exact⟨_,h2⟩
 len:=by unfold yN Fh;rw[aE,aE,c5,c5,ag,ag]
 sl:=λi s e=>by
  rcases Jl e with rfl|⟨m,j,rfl,f,rfl⟩
  .trivial
  .rw[Fi f];cases p:ρ[j]? with
   |none=>trivial
   |some s=>
    have ok:=R.sl j s p;have mem:∀{a:Addr} {ds:aY},s.L=Z ds->(σ[j]?).join=Z (.ref a)->a∈Ks d6 σ ρ:=λh1 h2=>Da.2 ⟨j,bL f,⟨_,by unfold wY;rw[p];exact h1⟩,h2⟩;cases s with
    |un=>trivial
    |I d=>exact ok
    |ls ds=>obtain⟨a,xs,h1,h2,h3,h4,h5⟩:=ok;exact⟨a,xs,h1,h2,h3,mem J h1,h5⟩
    |pm ds=>obtain⟨a,xs,h1,h2,h3,h4,h5⟩:=ok;exact⟨a,xs,h1,h2,h3,mem J h1,h5⟩
    |dk ks ds=>trivial
    |ob c ns ds=>trivial
 ap:=λi M s t a hii e x so to v w=>by
  rcases Jl e with rfl|⟨m,j,rfl,f,rfl⟩
  .cases so
  rcases Jl x with rfl|⟨N,u,rfl,l,rfl⟩
  .cases to
  rw[Fi f]at v;rw[Fi l]at w;have fl:∀{j:Nat},(((ρ[j]?).getD Sl.un).d6).fl=γ->∃s,ρ[j]?=Z s/\s.fl=γ:=λ{j} h=>by
   cases z:ρ[j]? with
   |none=>rw[z]at h;cases h
   |some s=>rw[z]at h;refine⟨s,J,?_⟩;cases s<;>first|rfl|cases h
  obtain⟨s,z,E⟩:=fl so;obtain⟨B,C,r⟩:=fl to;by_cases q:j=u
  .subst q;have:=(List.getElem?_inj (bX.1 f).1 nd).1 (f.t l.symm);exact hii (by rw[this])
  .exact R.ap j u s B a q z C E r v w
theorem c3.uncap(R:c3 G F σ ρ H0 H){k:Nat}{d6:List Nat}{f:St}{r ρ':aP}{H1 l:Hp}(c:c3 G ⟨H0,H,Ks d6 σ ρ⟩ f r H1 l)(hd:f.drop k=(yN k d6 σ).drop k)(hu:ym d6 (r.drop k) ρ=Z ρ'):c3 G F σ ρ' H1 l:=by
 obtain⟨hl,U⟩:=BZ hu;have E:∀{m j:Nat},d6[m]?=Z j->(f[k+m]?).join=(σ[j]?).join:=λ{m j} e=>by
  have q:(f.drop k)[m]?=((yN k d6 σ).drop k)[m]?:=by rw[hd]
  rw[fE,fE]at q;rw[q];exact Fi e
 have nA:∀{j:Nat} {s:Sl} {a:Addr},ρ[j]?=Z s->s.fl=γ->(σ[j]?).join=Z (.ref a)->(s.L≠O->j∉d6)->a∉Ks d6 σ ρ:=λ{j s a} e so z hn ha=>by
  obtain⟨i,hi,⟨ds,d⟩,N⟩:=Da.1 ha;obtain⟨t,p,C⟩:=zq d;by_cases hij:i=j
  .subst hij;rw[e]at p;cases p;exact hn (by rw[C];simp) hi
  .exact R.ap i j t s a hij p e (Sl.rl C) so N z
 have hA:∀a∈Ks d6 σ ρ,F.B a=O\/a∈F.A:=λa ha=>by obtain⟨i,hi,⟨ds,d⟩,N⟩:=Da.1 ha;obtain⟨t,p,C⟩:=zq d;obtain⟨T,u,h1,h2,h3,h4⟩:=(R.sl i t p).at (Sl.rl C);rw[N]at h1;cases h1;exact h4
 have own':∀{j:Nat} {h:Sl},ρ'[j]?=Z h->h.fl=γ->∃s,ρ[j]?=Z s/\s.fl=γ:=λ{j h} e so=>by
  obtain⟨s,d,q⟩:=U j h e;rcases q with ⟨rfl,q⟩|⟨m,ds,I,W,P,q3,Y⟩
  .exact⟨h,d,so⟩
  .exact⟨s,d,Sl.rl q3⟩
 exact {
  sub:=c.sub
  g0:=R.g0.t c.g0
  keep:=λb o e n=>by
   refine c.keep b o (R.keep b o e n) λha=>?_;rcases hA b ha with q|q
   .rw[q]at e;cases e
   .exact n q
  fr:=λb o e=>by
   rcases c.fr b o e with q|q
   .exact R.fr b o q
   .exact .inr (R.fg q)
  am:=λa ha=>by
   obtain⟨o,q⟩:=R.am a ha;by_cases z:a∈Ks d6 σ ρ
   .exact c.am a z
   .exact⟨o,c.keep a o q z⟩
  len:=by rw[hl];exact R.len
  sl:=λj h e=>by
   obtain⟨s,d,q⟩:=U j h e;rcases q with ⟨rfl,q⟩|⟨m,ds,I,W,P,q3,Y⟩
   .refine(R.sl j h d).ff c.g0 (λa u z so y=>c.keep a u y (nA d so z q)) λa u z so y y0=>?_;cases w:H1 a with
    |none=>rfl
    |some o=>
     rcases c.fr a o w with x|x
     .have Q:H0 a=Z o:=x;rw[Q]at y0;cases y0
     .have Q:H a=O:=x;rw[Q]at y;cases y
   .rw[fE]at P;obtain⟨a,xs,h1,h2,h3,h4,h5⟩:=c.sl _ _ P;rw[E W]at h1;have ok:=R.sl j s d;subst Y;cases s with
    |ls M=>obtain⟨T,S,g1,g2,g3,g4,g5⟩:=ok;rw[h1]at g1;cases g1;exact⟨a,xs,h1,h2,h3,g4,h5⟩
    |pm M=>obtain⟨T,S,g1,g2,g3,g4,g5⟩:=ok;rw[h1]at g1;cases g1;exact⟨a,xs,h1,h2,h3,g4,h5⟩
    |_=>cases q3
  ap:=λi j s t a hij ei ej so to v v'=>by
   obtain⟨s0,z,zo⟩:=own' ei so;obtain⟨t0,y,yo⟩:=own' ej to;exact R.ap i j s0 t0 a hij z y zo yo v v' }
def Dc{k:Nat}(h:l4 σ ρ p)(f:ym d6 t ρ=Z a):l4 σ a p:=λi c e so=>by
 obtain⟨s,b,q⟩:=(BZ f).2 i c e;rcases q with ⟨rfl,q⟩|⟨m,j,d,l,o,q3,r⟩
 .exact h i c b so
 .exact h i s b (Sl.rl q3)
inductive CI(G:Bg) (F:Fr) (σ:St) (H1:Hp) (p:Addr) (k:Nat) (d6:List Nat) (g:FG) (ft:FT) (fe:FE) (ds es:aY) (ρ':aP) (i m:Nat) (acc:bA) (H2:Hp):Prop
 |mk (ρi:aP) (Hi:Hp) (dn ey:aY):m=ds.length - i->i<=ds.length->ve H1 Hi->c3 G F σ ρi Hi H2->H2 p=Z (.b4 acc)->Hi p=O->l4 σ ρi p->b? G Hi dn acc->dn.length<=i->AV k d6 g ft fe (ds.drop i) ρi=Z (ey,ρ')->es=dn++ey->CI G F σ H1 p k d6 g ft fe ds es ρ' i m acc H2
set_option tactic.hygienic true
def LZ{d6:List Nat}(nd:d6.Nodup):∀σ H Q,ub G (u7 k d6 s g ft fe) σ H Q->G8 (O' G s) (ι G k g) (kg G ft) (tF G fe) k d6 σ H Q:=λσ H Q hh=>by
 obtain⟨F,ρ,H0,es,ρ',R,e,kk⟩:=hh;unfold u7 at e;rcases vB (f:=s) (ρ:=ρ)with e1|⟨d,ρ1,e1⟩<;>simp only[e1]at e
 .cases e
 .split at e
  .rename_i hlen;refine⟨F,ρ,H0,d,ρ1,R,e1,λA' H1 H1' s1 P wk p T=>?_⟩;refine⟨CI G F σ H1 p k d6 g ft fe d es ρ',
    ⟨_,ρ1,H1,[],es,J,cp _,ve.refl _,P.ij T _,uZ,P.e4 T,P.apart T,vJ,aJ _,e,J⟩,?_⟩
   rintro i m acc H2 ⟨c,Hi,dn,ey,rfl,hi,Y,Ri,C,U,apt,rs,hdn,a,rfl⟩;by_cases hlt:i<d.length
   .have ed:=jA hlt;rw[ed]at a;unfold AV at a;obtain⟨go,yl⟩:=(wk i Hi H2 Y Ri.sub).1 d[i] (bh hlt);refine .inr ⟨go,λx H3 y=>?_⟩;obtain⟨I,t1,t2,t3,t4,t5⟩:=yl x H3 y;have R2:=Ri.ff t3 t1 t2 t4;have W:=t3 _ _ C;have hpj:I p=O:=by
     cases w:I p with
     |none=>rfl
     |some o=>
      rcases t4 p o w with z|z
      .rw[U]at z;cases z
      .rw[C]at z;cases z
    have RC:=R2.d6 k d6 nd;have npA:p∉Ks d6 σ c:=λz=>by obtain⟨j,_,⟨ds',q1⟩,q2⟩:=Da.1 z;obtain⟨t,q3,q4⟩:=zq q1;exact apt j t q3 (Sl.rl q4) q2
    cases e2:g d[i] (Fh k d6 c)with
    |none=>simp only[e2]at a;cases a
    |some E=>
     simp only[e2]at a;refine⟨_,_,I,d[i],E,RC,t5,e2,λσ4 B R4=>⟨B,?_⟩⟩;rcases vB (f:=ft) (ρ:=E)with S|⟨b,l,S⟩
     .simp only[S]at a;cases a
     .refine⟨_,E,I,b,l,R4,S,λH5 H5' s5 R5=>?_⟩;have keepP:∀{σ':St} {ρ'':aP} {Ha N:Hp},c3 G ⟨I,H3,Ks d6 σ c⟩ σ' ρ'' Ha N->N p=Z (.b4 acc)/\Ha p=O:=λRz=>by
       refine⟨Rz.keep p _ W npA,?_⟩;refine Option.eq_none_iff_forall_ne_some.2 λo M=>?_;rcases Rz.fr p o M with z|z
       .have z':I p=Z o:=z;rw[hpj]at z';cases z'
       .have z':H3 p=O:=z;rw[W]at z';cases z'
      cases b with
      |false=>
       simp only[S]at a;refine LV ?_;cases h:ym d6 (l.drop k) c with
       |none=>simp only[h]at a;cases a
       |some r=>simp only[h]at a;obtain⟨w1,M⟩:=keepP R5;exact⟨d.length - (i+1),by omega,r,H5,dn,ey,J,hlt,Y.t (t1.t s5),R2.uncap R5 B h,w1,M,Dc (k:=k) apt h,b?.mono (t1.t s5) _ _ rs,by omega,a,J⟩
      |true=>
       simp only[S]at a;refine LW ?_;rcases vB (f:=fe) (ρ:=l)with e5|⟨x5,ρ5,e5⟩
       .simp only[e5]at a;cases a
       .simp only[e5]at a;refine⟨_,l,H5,x5,ρ5,R5,e5,λv H6 H6' s6 R6 rv=>?_⟩;obtain⟨w1,M⟩:=keepP R6;cases h:ym d6 (ρ5.drop k) c with
        |none=>simp only[h]at a;cases a
        |some r=>
         simp only[h]at a;cases e6:AV k d6 g ft fe (d.drop (i+1)) r with
         |none=>simp only[e6]at a;cases a
         |some q=>
          obtain⟨rest',ρz⟩:=q;simp only[e6]at a;cases a;have A:=R2.uncap R6 B h;have lacc:=(uW rs).symm;refine⟨acc,w1,DS (by omega),d.length - (i+1),by omega,r,H6,dn++[x5],rest',J,hlt,Y.t (t1.t (s5.t s6)),?_,uZ,M,Dc (k:=k) apt h,w9 (b?.mono (t1.t (s5.t s6)) _ _ rs) (vM rv vJ),by rw[aE,di];omega,e6,by rw[cc];rfl⟩;exact {
           sub:=λb o e=>by rw[vb (λz=>by rw[z,M]at e;cases e)];exact A.sub b o e
           g0:=A.g0
           keep:=λb o e n=>by rw[vb (λz=>by subst z;rw[P.fg T]at e;cases e)];exact A.keep b o e n
           fr:=A.fr
           am:=λb hb=>by
            by_cases z:b=p
            .subst z;exact⟨_,uZ⟩
            .rw[vb z];exact A.am b hb
           len:=A.len
           sl:=λj t ej=>(A.sl j t ej).ff (ve.refl _) (λb u z to q=>by rw[vb (λy=>Dc (k:=k) apt h j t ej to (by rw[z,y]))];exact q) λb u _ _ _ q=>q
           ap:=A.ap }
   .have ez:d.drop i=[]:=oJ (by omega);rw[ez]at a;cases a;rw[bT]at kk;exact .inl ⟨(wk i Hi H2 Y Ri.sub).2 (by omega),kk p acc Hi H2 (s1.t Y) Ri C U (P.fg T) apt rs⟩
  .cases e
set_option tactic.hygienic false
def TX{d6:List Nat}(c:d6.Nodup)(h:PE X e (G8 (O' G s) (ι G k g) (kg G b) (tF G a) k d6)):PE X e (ub G (u7 k d6 s g b a)):=PE.dd h (LZ c)
def TY:PIf X [] (kg G vX):=λa s σ H Q I h=>by obtain⟨F,ρ,H0,b,c,R,e,k⟩:=h;cases e;exact WL a s σ H Q I (k _ _ (ve.refl _) R)
end
def xU:D->Bool
 |.J=>γ|.U _=>γ|.int _=>γ|.str _=>γ|_=>δ
def vD:D->V
 |.J=>.J|.U b=>.U b|.int i=>.int i|.str x=>.str x|_=>.J
section
variable{X:Cx}{G:Bg}{H:Hp}
def zK{d:D}{v:V}(h:df G H d v)(f:xU d=γ):v=vD d:=by cases d<;>first|(unfold df at h;exact h)|cases f
def Fj{d:D}(f:xU d=γ):∀H,df G H d (vD d):=λH=>by cases d<;>first|(unfold df;rfl)|cases f
theorem Gw:∀{a:aY} {b:bA},b? G H a b->a.all xU=γ->b=a.map vD
 |[],b,h,f=>by unfold b? at h;exact h
 |d::a,b,h,f=>by obtain⟨v,r,rfl,c,e⟩:=h;rw[gZ,aU]at f;rw[aI,zK c f.1,Gw e f.2]
def Nk{d:D}(f:xU d=γ):Ed (vD d)=γ:=by cases d<;>first|rfl|cases f
theorem KY:∀{a:aY},a.all xU=γ->(a.map vD).all Ed=γ
 |[],_=>rfl
 |d::a,f=>by rw[gZ,aU]at f;rw[aI,gZ,Nk f.1,KY f.2];rfl
def fu.or{f:aa->aa->Sem aa}{r b:R2}(h:fu X f r)(i:fu X f b):fu X f (λx y H Q=>r x y H Q\/b x y H Q):=λa s e H x y v u Q I c d q=>q.elim (h a s e H x y v u Q I c d) (i a s e H x y v u Q I c d)
def g?.or{r d:R2}{g c:D->D->Option D}(h:g? G r g)(j:g? G d c):g? G (λx y H Q=>r x y H Q\/d x y H Q) (λx y=>match g x y with|some z=>Z z|none=>c x y):=λx y z b H v u Q e s f i k=>by
 cases a:g x y with
 |some w=>simp only[a]at e;cases e;exact .inl (h x y _ b H v u Q a s f i k)
 |none=>simp only[a]at e;exact .inr (j x y z b H v u Q e s f i k)
def dI(C:Int->Int->Bool)(g:Int->Int->D):D->D->Option D
 |.int a,.int b=>if C a b=γ then Z (g a b)else O
 |_,_=>O
set_option tactic.hygienic true
def P8{C:Int->Int->Bool}{d:Int->Int->Prop}{g:Int->Int->D}{f:Int->Int->V}(hC:∀a b,C a b=γ->d a b)(h:∀a b,xU (g a b)=γ/\vD (g a b)=f a b):g? G (rI d f) (dI C g):=λx y z m H v u Q e s j l k=>by
 unfold dI at e;split at e
 .rename_i a b;split at e
  .rename_i i;cases e;exact⟨a,b,j,l,hC _ _ i,by rw[<-(h a b).2];exact k _ λc w=>Fj (h a b).1 c⟩
  .cases e
 .cases e
def Gx{g:Int->Int->D}{d:Int->Int->V}(f:∀a b,xU (g a b)=γ/\vD (g a b)=d a b):g? G (M' d) (dI (λw w=>γ) g):=λx y z j H v u Q e s h i k=>by
 unfold dI at e;split at e
 .rename_i a b;split at e
  .cases e;exact⟨a,b,h,i,by rw[<-(f a b).2];exact k _ λc w=>Fj (f a b).1 c⟩
  .cases e
 .cases e
set_option tactic.hygienic false
def xV:=dI (λy y=>γ) λa b=>.int (a+b)
def Nl:=dI (λy y=>γ) λa b=>.int (a - b)
def B2(a:Int):Bool:=decide (-(2 ^ 64)<a)&&decide (a<2 ^ 64)
def zL:=dI (λa b=>B2 a||B2 b) λa b=>.int (a * b)
def zm:=dI (λy b=>decide (0<b)) λa b=>.int (a % b)
def Ee:=dI (λy b=>decide (0<b)&&decide (b<1073741824)) λa b=>.int (a / b)
def TZ:=dI (λa b=>decide (0<=b)&&decide (b<=1000000)&&decide (a.natAbs<2 ^ 64)) λa b=>.int (a ^ b.toNat)
def L0:=dI (λy y=>γ) λa b=>.U (decide (a<b))
def zj:=dI (λy y=>γ) λa b=>.U (decide (a<=b))
def Np:=dI (λy y=>γ) λa b=>.U (decide (b<a))
def dGeI:=dI (λy y=>γ) λa b=>.U (decide (b<=a))
def aaw:g? G (M' λi j=>.int (i+j)) xV:=Gx λy y=>⟨J,J⟩
def aax:g? G (M' λi j=>.int (i - j)) Nl:=Gx λy y=>⟨J,J⟩
def aay:g? G (rI Wp λi j=>.int (i * j)) zL:=P8 (λa b h=>by
 unfold B2 at h;simp only[jZ,aU,bY]at h;exact h) λy y=>⟨J,J⟩
def aaz:g? G (rI (λy j=>0<j) λi j=>.int (i % j)) zm:=P8 (λa b h=>by simpa using h) λy y=>⟨J,J⟩
def aaA:g? G (rI ZD λi j=>.int (i / j)) Ee:=P8 (λa b h=>by unfold ZD;simpa using h) λy y=>⟨J,J⟩
def aaB:g? G (rI CPow λi j=>.int (i ^ j.toNat)) TZ:=P8 (λa b h=>by
 simp only[aU,bY]at h;exact⟨h.1.1,h.1.2,h.2⟩) λy y=>⟨J,J⟩
def ad6:g? G (M' λi j=>.U (decide (i<j))) L0:=Gx λy y=>⟨J,J⟩
def ad7:g? G (M' λi j=>.U (decide (i<=j))) zj:=Gx λy y=>⟨J,J⟩
def ad8:g? G (M' λi j=>.U (decide (j<i))) Np:=Gx λy y=>⟨J,J⟩
def ad9:g? G (M' λi j=>.U (decide (j<=i))) dGeI:=Gx λy y=>⟨J,J⟩
def Fk:D->D->Option D
 |.str a,.str b=>if a.length+b.length<=100000 then Z (.str (a++b))else O
 |_,_=>O
def Jm{n:Nat}(h:n<=100000):n<=aF:=bC h (by rw[bO];decide)
set_option tactic.hygienic true
def Xo:g? G (λx y H Q=>∃i j,x=.str i/\y=.str j/\i.length+j.length<=aF/\Q (.str (i++j)) H) Fk:=λx y z h H v u Q e s d f k=>by
 unfold Fk at e;split at e
 .rename_i a b;split at e
  .rename_i c;cases e;exact⟨a,b,d,f,Jm c,k _ λw w=>zB _⟩
  .cases e
 .cases e
set_option tactic.hygienic false
def T2:D->D->Option D
 |.str a,.str b=>Z (.U (!decide (b.cps.toList<a.cps.toList)))
 |_,_=>O
set_option tactic.hygienic true
def aaC:g? G (λx y H Q=>∃i j,x=.str i/\y=.str j/\Q (.U (!decide (j.cps.toList<i.cps.toList))) H) T2:=λx y z f H v u Q e s c d k=>by
 unfold T2 at e;split at e
 .rename_i a b;cases e;exact⟨a,b,c,d,k _ λw w=>xy _⟩
 .cases e
set_option tactic.hygienic false
def D.isN:D->Bool
 |.J=>γ
 |_=>δ
def zk:D->D->Option D
 |x,.J=>Z (.U x.isN)
 |_,_=>O
def xu:D->D->Option D
 |x,.J=>Z (.U (!x.isN))
 |_,_=>O
def P9{d:D}{v:V}(h:df G H d v):decide (v=.J)=d.isN:=by
 cases d<;>unfold df at h
 .subst h;rfl
 .subst h;rfl
 .subst h;rfl
 .subst h;rfl
 .obtain⟨a,b,rfl,_⟩:=h;rfl
 .obtain⟨a,b,rfl,_⟩:=h;rfl
 .obtain⟨a,b,rfl,_⟩:=h;rfl
 .obtain⟨a,c,b,rfl,_⟩:=h;rfl
 .obtain⟨a,e,b,rfl,_⟩:=h;rfl
 .obtain⟨a,b,rfl,_⟩:=h;rfl
def aaD:g? G (λx y H Q=>y=.J/\Q (.U (decide (x=.J))) H) zk:=λx y z c H v u Q e s b a k=>by
 unfold zk at e;split at e
 .cases e;unfold df at a;refine⟨a,?_⟩;rw[P9 b];exact k _ λw w=>xy _
 .cases e
def Xp:g? G (λx y H Q=>y=.J/\Q (.U (!decide (x=.J))) H) xu:=λx y z c H v u Q e s b a k=>by
 unfold xu at e;split at e
 .cases e;unfold df at a;refine⟨a,?_⟩;rw[P9 b];exact k _ λw w=>xy _
 .cases e
def IH:D->D->Option D
 |.U a,.U b=>Z (.U (a != b))
 |_,_=>O
set_option tactic.hygienic true
def RP:g? G (λx y H Q=>∃i j,x=.U i/\y=.U j/\Q (.U (i != j)) H) IH:=λx y z f H v u Q e s c d k=>by
 unfold IH at e;split at e
 .rename_i a b;cases e;exact⟨a,b,c,d,k _ λw w=>xy _⟩
 .cases e
set_option tactic.hygienic false
mutual
def ll:D->Option L3.Dq
 |.J=>Z .J
 |.U b=>Z (.U b)
 |.int i=>Z (.int i)
 |.str x=>Z (.str x)
 |.c4 a=>match yP a with
  |some l=>Z (.c4 l)
  |none=>O
 |.b4 a=>match yP a with
  |some l=>Z (.b4 l)
  |none=>O
 |.qi _=>O
 |.obj _ _ _=>O
 |.Y _ _=>O
 |.tH _ _=>O
def yP:aY->Option (List L3.Dq)
 |[]=>Z []
 |d::a=>match ll d with
  |some x=>match yP a with
   |some l=>Z (x::l)
   |none=>O
  |none=>O
end
mutual
theorem Fl:∀(d:D) (v:V) (x:L3.Dq),df G H d v->ll d=Z x->L3.df G.K H x v
 |.J,v,x,h,e=>by unfold ll at e;cases e;unfold df at h;unfold L3.df;exact h
 |.U b,v,x,h,e=>by unfold ll at e;cases e;unfold df at h;unfold L3.df;exact h
 |.int b,v,x,h,e=>by unfold ll at e;cases e;unfold df at h;unfold L3.df;exact h
 |.str b,v,x,h,e=>by unfold ll at e;cases e;unfold df at h;unfold L3.df;exact h
 |.c4 f,v,x,h,e=>by
  unfold ll at e;cases c:yP f with
  |none=>simp only[c]at e;cases e
  |some l=>simp only[c]at e;cases e;obtain⟨a,i,rfl,j,m⟩:=h;exact⟨a,i,J,j,De f i l m c⟩
 |.b4 f,v,x,h,e=>by
  unfold ll at e;cases c:yP f with
  |none=>simp only[c]at e;cases e
  |some l=>simp only[c]at e;cases e;obtain⟨a,i,rfl,j,m⟩:=h;exact⟨a,i,J,fb.of j,De f i l m c⟩
 |.qi _,v,x,h,e=>by unfold ll at e;cases e
 |.obj _ _ _,v,x,h,e=>by unfold ll at e;cases e
 |.Y _ _,v,x,h,e=>by unfold ll at e;cases e
 |.tH _ _,v,x,h,e=>by unfold ll at e;cases e
theorem De:∀(a:aY) (b:bA) (l:List L3.Dq),b? G H a b->yP a=Z l->L3.b? G.K H l b
 |[],b,l,h,e=>by unfold yP at e;cases e;unfold b? at h;unfold L3.b?;exact h
 |d::a,b,l,h,e=>by
  unfold yP at e;cases c:ll d with
  |none=>simp only[c]at e;cases e
  |some x=>
   simp only[c]at e;cases f:yP a with
   |none=>simp only[f]at e;cases e
   |some m=>simp only[f]at e;cases e;obtain⟨v,r,rfl,i,j⟩:=h;exact⟨v,r,J,Fl d v x i c,De a r m j f⟩
end
def Jn(neg:Bool):D->D->Option D:=λx y=>match xU x&&xU y&&SX (vD x) (vD y)with
 |true=>Z (.U (if neg then !decide (vD x=vD y)else decide (vD x=vD y)))
 |false=>O
def Nq(neg:Bool):D->D->Option D:=λx y=>match ll x,ll y with
 |some a,Z b=>if P2 a b&&decide (fy a<=20)&&decide (fy b<=20)then Z (.U (if neg then !m3 a b else m3 a b))else O
 |_,_=>O
def en(neg:Bool):D->D->Option D:=λx y=>match Jn neg x y with
 |some z=>Z z
 |none=>Nq neg x y
def aaE:g? G rEq (Jn δ):=λx y z d H v u Q e s b c k=>by
 unfold Jn at e;cases a:xU x&&xU y&&SX (vD x) (vD y)with
 |false=>simp only[a]at e;cases e
 |true=>simp only[a]at e;cases e;simp only[aU]at a;rw[zK b a.1.1,zK c a.1.2];exact⟨a.2,k _ λw w=>xy _⟩
def aaF:g? G rNe (Jn γ):=λx y z d H v u Q e s b c k=>by
 unfold Jn at e;cases a:xU x&&xU y&&SX (vD x) (vD y)with
 |false=>simp only[a]at e;cases e
 |true=>simp only[a]at e;cases e;simp only[aU]at a;rw[zK b a.1.1,zK c a.1.2];exact⟨a.2,k _ λw w=>xy _⟩
set_option tactic.hygienic true
def T4{neg:Bool}:g? G (OE G.K neg) (Nq neg):=λx y z j H v u Q e s h i k=>by
 unfold Nq at e;cases c:ll x with
 |none=>simp only[c]at e;cases e
 |some a=>
  cases f:ll y with
  |none=>simp only[c,f]at e;cases e
  |some b=>
   simp only[c,f]at e;split at e
   .rename_i d;cases e;simp only[aU,bY]at d;exact⟨a,b,Fl x v a (df.mono s _ _ h) c,Fl y u b (df.mono s _ _ i) f,d.1.1,d.1.2,d.2,k _ λw w=>xy _⟩
   .cases e
set_option tactic.hygienic false
def aaG(a:X.A.units+64<cLine)(hK:X.K=G.K:=by rfl):fu X (bz .Eq) (λx y H Q=>rEq x y H Q\/OE G.K δ x y H Q):=by rw[<-hK];exact fu.or adu (aaf a)
def aaH(a:X.A.units+64<cLine)(hK:X.K=G.K:=by rfl):fu X (bz .NotEq) (λx y H Q=>rNe x y H Q\/OE G.K γ x y H Q):=by rw[<-hK];exact fu.or adv (aag a)
def aea:g? G (λx y H Q=>rEq x y H Q\/OE G.K δ x y H Q) (en δ):=g?.or aaE T4
def aeb:g? G (λx y H Q=>rNe x y H Q\/OE G.K γ x y H Q) (en γ):=g?.or aaF T4
def T5:D->Option aY
 |.c4 a=>Z a
 |.b4 a=>Z a
 |.qi a=>Z a
 |_=>O
def Qa{d:D}{i:aY}{v:V}(h:df G H d v)(e:T5 d=Z i):∃p b,v=.ref p/\(fb G.K H p b\/e? G.K H p b)/\b? G H i b:=by
 cases d with
 |c4 l=>cases e;unfold df at h;obtain⟨a,b,rfl,c,f⟩:=h;exact⟨a,b,J,.inr c,f⟩
 |b4 l=>cases e;unfold df at h;obtain⟨a,b,rfl,c,f⟩:=h;exact⟨a,b,J,.inl (fb.of c),f⟩
 |qi l=>cases e;unfold df at h;obtain⟨a,b,rfl,c,f⟩:=h;exact⟨a,b,J,.inl c,f⟩
 |_=>cases e
def mn(neg:Bool):D->D->Option D:=λx y=>match T5 y with
 |some a=>if xU x&&a.all xU then Z (.U (if neg then !inV (vD x) (a.map vD)else inV (vD x) (a.map vD)))else O
 |none=>O
def Qb{K:av}{H b:Hp}{p:Addr}{a:bA}(s:ve H b)(h:fb K H p a\/e? K H p a):fb K b p a\/e? K b p a:=h.imp s.seq (e?.mono s)
set_option tactic.hygienic true
def YT{neg:Bool}:g? G (rIn G.K neg) (mn neg):=λx y z j H v u Q e s d h k=>by
 unfold mn at e;cases b:T5 y with
 |none=>simp only[b]at e;cases e
 |some l=>
  simp only[b]at e;split at e
  .rename_i a;cases e;simp only[aU]at a;obtain⟨p,i,rfl,f,c⟩:=Qa h b;refine⟨p,i,J,Qb s f,?_,?_,?_⟩
   .rw[zK d a.1];exact Nk a.1
   .rw[Gw c a.2];exact KY a.2
   .rw[zK d a.1,Gw c a.2];exact k _ λw w=>xy _
  .cases e
set_option tactic.hygienic false
def aaI(hK:X.K=G.K:=by rfl):fu X (bz .In) (rIn G.K δ):=by rw[<-hK];exact Rv
def RQ(hK:X.K=G.K:=by rfl):fu X (bz .NotIn) (rIn G.K γ):=by rw[<-hK];exact LN
def e8(x y:D):Option D:=match y with
 |.int i=>match x with
  |.c4 a=>t? a i
  |.b4 a=>t? a i
  |.qi a=>t? a i
  |.str x=>if x.length<=100000 then (t? x.cps.toList i).map λc=>.str ⟨#[c]⟩else O
  |_=>O
 |_=>O
set_option tactic.hygienic true
def aec:g? G (rIx G.K) e8:=λx y z B H v u Q e s p A k=>by
 cases y with
 |int i=>
  subst A;cases x with
  |c4 d=>obtain⟨a,o,rfl,f,h⟩:=p;obtain⟨w,l,m⟩:=Fe h (show t? d i=Z z from e);exact .inr (.inl ⟨a,o,i,w,J,J,e?.mono s f,l,k _ λb j=>df.mono j _ _ m⟩)
  |b4 d=>obtain⟨a,o,rfl,f,h⟩:=p;obtain⟨w,l,m⟩:=Fe h (show t? d i=Z z from e);exact .inl ⟨a,o,i,w,J,J,s.seq (fb.of f),l,k _ λb j=>df.mono j _ _ m⟩
  |qi d=>obtain⟨a,o,rfl,f,h⟩:=p;obtain⟨w,l,m⟩:=Fe h (show t? d i=Z z from e);exact .inl ⟨a,o,i,w,J,J,s.seq f,l,k _ λb j=>df.mono j _ _ m⟩
  |str t=>
   subst p;unfold e8 at e;simp only at e;split at e
   .rename_i r;cases q:t? t.cps.toList i with
    |none=>rw[q]at e;cases e
    |some c=>rw[q]at e;cases e;exact .inr (.inr ⟨t,i,c,J,J,Jm r,q,k _ λ_ _=>zB _⟩)
   .cases e
  |_=>cases e
 |_=>cases e
set_option tactic.hygienic false
def ix_X(hK:X.K=G.K:=by rfl):χ X (rIx G.K):=by rw[<-hK];exact Z5
def He(G:Bg)(r:bA->Hp->VK->Prop)(g:D->Option D):Prop:=∀x z b H v (Q:VK),g x=Z z->ve b H->df G b x v->(∀w,(∀a,ve b a->df G a z w)->Q w H)->r [v] H Q
def Qc{e:Expr}{r:bA->Hp->VK->Prop}{g:D->Option D}{f:FE}(p:He G r g)(h:PE X e (Z' r (o? G (ax f vA)))):PE X e (tF G (c1 g f)):=PE.dd h λB H Q o=>by obtain⟨F,y,i,d,b,R,e,k⟩:=o;obtain⟨x,l,m⟩:=Fc e;refine⟨F,y,i,[x],b,R,by unfold ax;rw[l];rfl,λA j a s c rs=>?_⟩;obtain⟨v,z,rfl,u,t⟩:=rs;subst t;exact p x d j a v Q m c.sub u λw q=>k _ _ _ s c (q _ (ve.refl _))
def wM.or{f:aa}{r b:bA->Hp->VK->Prop}(h:wM X f r)(j:wM X f b):wM X f (λx H Q=>r x H Q\/b x H Q):=λa s i H e d Q I c q=>q.elim (h a s i H e d Q I c) (j a s i H e d Q I c)
def xM:D->Option D
 |.c4 a=>Z (.int a.length)
 |.b4 a=>Z (.int a.length)
 |.qi a=>Z (.int a.length)
 |.str x=>if x.length<=100000 then Z (.int x.length)else O
 |.Y b a=>Z (.int b.length)
 |_=>O
def RR:wM X (.builtin "len") (λc H Q=>∃a kvs,c=[V.ref a]/\Rd H a (.dK kvs)/\Q (.int kvs.length) H):=by intro b s l H c j Q I r h;obtain⟨a,kvs,rfl,e,q⟩:=h;obtain⟨u,rfl,f⟩:=gk r;cases f;exact adI I e λt i d=>⟨.int kvs.length,H,d,⟨t,J⟩,q⟩
def YU(K:av):bA->Hp->VK->Prop:=λb H Q=>(∃p c,b=[.ref p]/\(fb K H p c\/e? K H p c)/\Q (.int c.length) H)\/((∃z,b=[.str z]/\z.length<=aF/\Q (.int z.length) H)\/(∃a kvs,b=[V.ref a]/\Rd H a (.dK kvs)/\Q (.int kvs.length) H))
def RS(hK:X.K=G.K:=by rfl):wM X (.builtin "len") (YU G.K):=by rw[<-hK];exact wM.or LO (wM.or LP RR)
set_option tactic.hygienic true
def aaJ:He G (YU G.K) xM:=λx z j H v Q e s f k=>by
 cases x with
 |c4 h=>cases e;obtain⟨a,d,rfl,b,c⟩:=f;refine .inl ⟨a,d,J,.inr (e?.mono s b),?_⟩;rw[<-uW c];exact k _ λy y=>xa _
 |b4 h=>cases e;obtain⟨a,d,rfl,b,c⟩:=f;refine .inl ⟨a,d,J,.inl (s.seq (fb.of b)),?_⟩;rw[<-uW c];exact k _ λy y=>xa _
 |qi h=>cases e;obtain⟨a,d,rfl,b,c⟩:=f;refine .inl ⟨a,d,J,.inl (s.seq b),?_⟩;rw[<-uW c];exact k _ λy y=>xa _
 |str t=>
  unfold xM at e;simp only at e;split at e
  .rename_i i;cases e;exact .inr (.inl ⟨t,by rw[f],Jm i,k _ λy y=>xa _⟩)
  .cases e
 |Y m h=>cases e;obtain⟨a,o,d,rfl,b,c,l⟩:=f;refine .inr (.inr ⟨a,_,J,.inr ⟨o,s _ _ b⟩,?_⟩);rw[iY,<- c,i7];exact k _ λy y=>xa _
 |_=>cases e
set_option tactic.hygienic false
def OK:D->Option D
 |.int i=>Z (.int i)
 |.U b=>Z (.int (if b then 1 else 0))
 |_=>O
def aaK:He G (λc H Q=>(∃i,c=[.int i]/\Q (.int i) H)\/∃k,c=[.U k]/\Q (.int (if k then 1 else 0)) H) OK:=λx z d H v Q e s a k=>by
 cases x with
 |int i=>cases e;unfold df at a;subst a;exact .inl ⟨i,J,k _ λy y=>xa _⟩
 |U b=>cases e;unfold df at a;subst a;exact .inr ⟨b,J,k _ λy y=>xa _⟩
 |_=>cases e
def Kt:aY->Option (List Bool)
 |[]=>Z []
 |.U b::r=>(Kt r).map (b::·)
 |_=>O
theorem Jo:∀{d:aY} {a:bA} {bs:List Bool},b? G H d a->Kt d=Z bs->a=bs.map V.U
 |[],a,bs,h,e=>by cases e;unfold b? at h;exact h
 |.U b::r,a,bs,h,e=>by
  obtain⟨v,q,rfl,f,i⟩:=h;unfold Kt at e;cases c:Kt r with
  |none=>rw[c]at e;cases e
  |some l=>rw[c]at e;cases e;unfold df at f;subst f;rw[Jo i c];rfl
 |.J::r,a,bs,h,e=>by cases e
 |.int _::r,a,bs,h,e=>by cases e
 |.str _::r,a,bs,h,e=>by cases e
 |.c4 _::r,a,bs,h,e=>by cases e
 |.b4 _::r,a,bs,h,e=>by cases e
 |.qi _::r,a,bs,h,e=>by cases e
 |.obj _ _ _::r,a,bs,h,e=>by cases e
 |.Y _ _::r,a,bs,h,e=>by cases e
 |.tH _ _::r,a,bs,h,e=>by cases e
def zM:D->Option D
 |.b4 a=>(Kt a).map λbs=>.U (bs.all id)
 |_=>O
def aaL:He G (λd H Q=>∃(p:Addr) (bs:List Bool),d=[.ref p]/\fb G.K H p (bs.map V.U)/\Q (.U (bs.all id)) H) zM:=λx z j H v Q e s i k=>by
 cases x with
 |b4 f=>
  unfold zM at e;simp only at e;cases b:Kt f with
  |none=>rw[b]at e;cases e
  |some bs=>rw[b]at e;cases e;obtain⟨a,d,rfl,c,h⟩:=i;rw[Jo h b]at c;exact⟨a,bs,J,s.seq (fb.of c),k _ λy y=>xy _⟩
 |_=>cases e
def RT(a:X.j0=γ)(hK:X.K=G.K:=by rfl):wM X (.builtin "all") (λb H Q=>∃(p:Addr) (bs:List Bool),b=[.ref p]/\fb G.K H p (bs.map V.U)/\Q (.U (bs.all id)) H):=by rw[<-hK];exact Tt a
inductive Ty where
 |b (n:String)|c (k:Nat)
def Ty.val(G:Bg):Ty->aa
 |.b n=>.type n
 |.c k=>.ref (G.ca k)
def Ty.v(G:Bg):Ty->V
 |.b n=>.ty n
 |.c k=>.ref (G.ca k)
def tyD:D->Ty
 |.J=>.b "NoneType" |.U _=>.b "bool" |.int _=>.b "int" |.str _=>.b "str" |.c4 _=>.b "tuple" |.b4 _=>.b "list" |.qi _=>.b "list" |.Y _ _=>.b "dict" |.tH _ _=>.b "dict" |.obj c _ _=>.c c
structure Nr(K:av)(C:Addr):Prop where
 cl:Q? K C
 ha:cW K (.ref C) "__class__" = Z (Z (.builtin "object.__class__"))
 hn:rN K (.builtin "object.__class__") "__get__" = Z (Z (.builtin "getset_descriptor.__get__"))
 htk:W.takesIn K (.builtin "object.__class__")=Z γ
 hm:W.mroIn K C (.type "object")=Z γ
def T6{pins:cE}{σ:St}{s:af}{A:aG}{E:aa->af->Prop}{Q:aa->af->Prop}{c:aa}{b:Bool}{d:D}{v:V}{u:aa}(I:cb X pins σ H s)(hK:X.K=G.K)(hd:df G H d v)(f:dg v u)(m:∀k ns ds,d=.obj k ns ds->Nr X.K (G.ca k))
  (e:cX X.K ((tyD d).val G) c=Z b) (h:∀tk,Q (.bool b) { s with toks:=tk }):ah (model X.prog X.w) A (call (.builtin "isinstance") [u,c]) Q E s:=by
 cases d with
 |J=>unfold df at hd;subst hd;exact Ak I f .J e h
 |U x=>unfold df at hd;subst hd;exact Ak I f (.U x) e h
 |int x=>unfold df at hd;subst hd;exact Ak I f (.int x) e h
 |str x=>unfold df at hd;subst hd;exact Ak I f (.str x) e h
 |c4 ds=>obtain⟨a,xs,rfl,h1,h2⟩:=hd;cases f;rw[<-hK]at h1;obtain⟨l,_,p,_⟩:=I.tuple h1;obtain⟨o,i,j,_⟩:=p;exact cN m8 I.kx ⟨o,i,j⟩ e (λz=>nomatch z) h
 |b4 ds=>obtain⟨a,xs,rfl,h1,h2⟩:=hd;exact Ak I f (.b4 h1) e h
 |qi ds=>obtain⟨a,xs,rfl,h1,h2⟩:=hd;cases f;rw[<-hK]at h1;obtain⟨l,_,p,_⟩:=I.list h1;obtain⟨o,n,i,j,_⟩:=p;exact cN i9 I.kx ⟨o,i,j⟩ e (λz=>nomatch z) h
 |Y ks ds=>obtain⟨a,o,xs,rfl,h1,h2,h3⟩:=hd;cases f;obtain⟨q,_,_,vs,_,ob,es,ep,i,j,_⟩:=(show ef X.prog X.w H s.heap a (.lb o (.dK (ks.zip xs))) from I.er a _ h1);exact cN hX I.kx ⟨ob,i,j.1⟩ e (λz=>nomatch z) h
 |tH ks ds=>obtain⟨a,xs,rfl,⟨o,qs,h1,_,h3,_⟩,_⟩:=hd;cases f;exact cN hX I.kx ⟨o,(show ef X.prog X.w H s.heap a (.ext (isO a o)) from I.er a _ h1).1,h3.ex.1⟩ e (λz=>nomatch z) h
 |obj k ns ds=>have ci:=m k ns ds J;obtain⟨a,dx,xs,rfl,h1,h2,h3⟩:=hd;exact Ak I f (.ka h1 ci.cl ci.ha ci.hn ci.htk ci.hm) e h
def vZ(t:Ty->Option Bool):D->Option D:=λd=>(t (tyD d)).map .U
def KZ(c:Ty){t:Ty->Option Bool}(m:∀y b,t y=Z b->cX X.K (y.val G) (c.val G)=Z b)(l:∀k b,t (.c k)=Z b->Nr X.K (G.ca k))(hK:X.K=G.K:=by rfl):
  wM X (.builtin "isinstance") (λi H Q=>∃d x b,i=[x,c.v G]/\df G H d x/\t (tyD d)=Z b/\Q (.U b) H):=by
 intro f s E H i C Q I r h;obtain⟨d,x,b,rfl,hd,e,q⟩:=h;obtain⟨u,p,rfl,o,a⟩:=za r;have j:p=c.val G:=by cases c<;>exact a
 subst j;exact T6 I hK hd o (λk A w z=>by subst z;exact l k b e) (m _ _ e) λB=>⟨.U b,H,I.pa _,J,q⟩
def Qd{e:Expr}{c:Ty}{t:Ty->Option Bool}{f:FE}(h:PE X e (Z' (λu H Q=>∃d x b,u=[x,c.v G]/\df G H d x/\t (tyD d)=Z b/\Q (.U b) H) (Ec (tF G f) (Ec (tC (c.v G)) Kl)))):PE X e (tF G (c1 (vZ t) f)):=PE.dd h λz H Q q=>by
 obtain⟨F,w,m,d,j,R,e,k⟩:=q;obtain⟨x,p,a⟩:=Fc e;unfold vZ at a;cases i:t (tyD x)with
 |none=>rw[i]at a;cases a
 |some b=>rw[i]at a;cases a;exact⟨F,w,m,x,j,R,p,λv y o s l r=>⟨x,v,b,J,df.mono l.sub _ _ r,i,k _ _ _ s l (xy b)⟩⟩
def xB(f g:FE):FA:=λe=>match f e with
 |some (.b4 c,a)=>match g a with
  |some (.b4 d,b)=>if c.length+d.length<=1000 then Z (c++d,b)else O
  |_=>O
 |_=>O
set_option tactic.hygienic true
def Xq{a b:Expr}{f g:FE}{pos:Pos}(I:PE X a (tF G f))(M:PE X b (tF G g)):PE X (.BinOp a .Add b pos) (ub G (xB f g)):=PE.dd (PH Z7 I M) λσ H Q N=>by
 obtain⟨F,U,q,d,W,R,e,k⟩:=N;unfold xB at e;split at e
 .rename_i xs c A;split at e
  .rename_i ys Y B;split at e
   .rename_i P;cases e;refine⟨F,U,q,_,c,R,A,λv t w s y r=>⟨F,c,t,_,_,y,B,λu H2 x o R2 T=>?_⟩⟩;have S:=df.mono o _ _ r;obtain⟨a1,i,rfl,C,l⟩:=S;obtain⟨z,j,rfl,E,m⟩:=T;refine⟨a1,z,i,j,J,J,R2.sub _ _ C,R2.sub _ _ E,by rw[<-uW l,<- uW m];exact xT P,λp h=>?_⟩;exact k p _ _ _ (s.t o) (R2.ij h _) uZ (R2.e4 h) (R2.fg h) (R2.apart h) (w9 l m)
   .cases e
  .cases e
 .cases e
set_option tactic.hygienic false
def AW(f:FE):FA:=λc=>match f c with
 |some (d,a)=>match T5 d with
  |some b=>Z (b,a)
  |none=>O
 |none=>O
def T7{e:Expr}{f:FE}(h:PE X e (Z' (λm H Q=>∃p c,m=[.ref p]/\(fb G.K H p c\/e? G.K H p c)/\∀l,H l=O->Q (.ref l) (eg H l (.b4 c))) (o? G (ax f vA)))):PE X e (ub G (AW f)):=PE.dd h λM H Q x=>by
 obtain⟨F,o,q,E,A,R,e,k⟩:=x;unfold AW at e;rcases vB (f:=f) (ρ:=o)with i|⟨d,B,i⟩<;>simp only[i]at e
 .cases e
 .cases j:T5 d with
  |none=>simp only[j]at e;cases e
  |some t=>simp only[j]at e;cases e;refine⟨F,o,q,[d],_,R,by unfold ax;rw[i];rfl,λc C r s a rs=>?_⟩;obtain⟨v,I,rfl,z,y⟩:=rs;subst y;obtain⟨p,m,rfl,u,w⟩:=Qa z j;exact⟨p,m,J,Qb a.sub u,λl b=>k l _ _ _ s (a.ij b _) uZ (a.e4 b) (a.fg b) (a.apart b) w⟩
def OL(hK:X.K=G.K:=by rfl):wM X (.type "list") (λb H Q=>∃p a,b=[.ref p]/\(fb G.K H p a\/e? G.K H p a)/\∀l,H l=O->Q (.ref l) (eg H l (.b4 a))):=by rw[<-hK];exact LQ
def Fm(f:FE):FE:=λc=>match f c with
 |some (.b4 b,a)=>Z (.c4 b,a)
 |some (.c4 b,a)=>Z (.c4 b,a)
 |_=>O
set_option tactic.hygienic true
def T8{e:Expr}{f:FE}(h:PE X e (Z' (λr H Q=>∃p b,r=[.ref p]/\((fb G.K H p b/\∀l,H l=O->Q (.ref l) (eg H l (.c4 b)))\/(e? G.K H p b/\Q (.ref p) H))) (o? G (ax f vA)))):PE X e (tF G (Fm f)):=PE.dd h λI H Q A=>by
 obtain⟨F,y,w,E,C,R,e,k⟩:=A;unfold Fm at e;split at e
 .rename_i r u i;cases e;refine⟨F,y,w,[_],_,R,by unfold ax;rw[i];rfl,λb z d s a rs=>?_⟩;obtain⟨v,B,rfl,c,o⟩:=rs;subst o;obtain⟨p,t,rfl,j,x⟩:=c;refine⟨p,t,J,.inl ⟨fb.of (a.sub _ _ j),λl m=>?_⟩⟩;exact k _ _ _ (s.t (vm (a.e4 m) _)) (a.yr m _) (DT (e?.of uZ) (b?.mono (vm (a.e4 m) _) _ _ x))
 .rename_i r u i;cases e;refine⟨F,y,w,[_],_,R,by unfold ax;rw[i];rfl,λb z d s a rs=>?_⟩;obtain⟨v,B,rfl,c,o⟩:=rs;subst o;have q:=c;obtain⟨p,t,rfl,j,x⟩:=c;exact⟨p,t,J,.inr ⟨e?.mono a.sub j,k _ _ _ s a q⟩⟩
 .cases e
set_option tactic.hygienic false
def RU(hK:X.K=G.K:=by rfl):wM X (.type "tuple") (λb H Q=>∃p a,b=[.ref p]/\((fb G.K H p a/\∀l,H l=O->Q (.ref l) (eg H l (.c4 a)))\/(e? G.K H p a/\Q (.ref p) H))):=by rw[<-hK];exact Kn
def mq(xs:aY)(lo a:Option Int):aY:=(xs.drop (HT.fm xs.length 0 lo)).take (HT.fm xs.length xs.length a - HT.fm xs.length 0 lo)
def Nt{a:Hp}{b:aY}{d:bA}{lo c:Option Int}(r:b? G a b d):b? G a (mq b lo c) (MW d lo c):=by unfold mq MW;rw[<-uW r];exact KR _ (KQ _ r)
def tO(o:Option Int):TO:=λy H Q=>Q o H
def T9{n:Int}{j pos}:PO X (Z (.Constant (.int n) j pos)) (tO (Z n)):=λa s b H Q I h=>PU LH a s b H Q I ⟨n,J,h⟩
def aed:PO X O (tO O):=PR
def sl_X(hK:X.K=G.K:=by rfl):SlR X (WG G.K):=by rw[<-hK];exact WH
end
def Sl.ν:Sl->Sl
 |.un=>.un
 |.I d=>.I d
 |.ls a=>.I (.b4 a)
 |.pm a=>.I (.b4 a)
 |.dk _ _=>.un
 |.ob c b a=>.I (.obj c b a)
section
variable{X:Cx}{G:Bg}
theorem c3.ν(R:c3 G F σ ρ H0 H):c3 G ⟨H,H,[]⟩ σ (ρ.map Sl.ν) H H where
 sub:=ve.refl _
 g0:=ve.refl _
 keep:=λb o e y=>e
 fr:=λb o e=>.inl e
 am:=λa h=>by cases h
 len:=by rw[ag];exact R.len
 sl:=λi s e=>by
  rw[bx]at e;cases f:ρ[i]? with
  |none=>rw[f]at e;cases e
  |some t=>
   rw[f]at e;cases e;have ok:=R.sl i t f;cases t with
   |un=>trivial
   |I d=>obtain⟨v,h1,h2⟩:=ok;exact⟨v,h1,df.mono R.sub _ _ h2⟩
   |ls ds=>obtain⟨a,xs,h1,h2,h3,h4,h5⟩:=ok;exact⟨_,h1,BY h2 (b?.mono R.sub _ _ h5)⟩
   |pm ds=>obtain⟨a,xs,h1,h2,h3,h4,h5⟩:=ok;exact⟨_,h1,BY h2 (b?.mono R.sub _ _ h5)⟩
   |dk ks ds=>trivial
   |ob c ns ds=>obtain⟨a,dx,xs,h1,h2,h3,h4,h5,h6⟩:=ok;exact⟨_,h1,by unfold df;exact⟨a,dx,xs,J,h2,h5,b?.mono R.sub _ _ h6⟩⟩
 ap:=λi j s t a y e y so=>by
  rw[bx]at e;cases f:ρ[i]? with
  |none=>rw[f]at e;cases e
  |some t=>rw[f]at e;cases e;cases t<;>cases so
def c3.unbor(R:c3 G F h ρ d H)(c:c3 G ⟨H,H,[]⟩ i f j a):c3 G F h ρ d a:=
 R.ff (λb o e=>c.keep b o e (by simp)) (ve.refl _) (λb o e=>c.keep b o (R.sub _ _ e) (by simp)) λb o e=>.inl e
def CU(f:FE):FE:=λa=>match f (a.map Sl.ν)with
 |some (d,_)=>if xU d=γ then Z (d,a)else O
 |none=>O
def Dg(f:FT):FT:=λa=>match f (a.map Sl.ν)with
 |some (d,_)=>Z (d,a)
 |none=>O
set_option tactic.hygienic true
def aaM(h:PE X e (tF G f)):PE X e (tF G (CU f)):=PE.dd h λt H Q m=>by
 obtain⟨F,i,p,d,o,R,e,k⟩:=m;unfold CU at e;rcases vB (f:=f) (ρ:=i.map Sl.ν)with a|⟨x,b,a⟩<;>simp only[a]at e
 .cases e
 .split at e
  .rename_i c;cases e;refine⟨_,_,H,d,b,R.ν,a,λv q j s l r=>?_⟩;rw[zK r c];exact k _ _ _ (ve.refl _) (R.unbor l) (Fj c _)
  .cases e
set_option tactic.hygienic false
def Xr(h:PT X e (kg G f)):PT X e (kg G (Dg f)):=PT.dd h λq H Q l=>by
 obtain⟨F,c,o,d,m,R,e,k⟩:=l;unfold Dg at e;rcases vB (f:=f) (ρ:=c.map Sl.ν)with a|⟨x,b,a⟩<;>simp only[a]at e
 .cases e
 .cases e;exact⟨_,_,H,d,b,R.ν,a,λp i s j=>k _ _ (ve.refl _) (R.unbor j)⟩
def xW(g h:D->D->Option D)(d e f:FE):FE:=λi=>match d i with
 |some (x,b)=>match e b with
  |some (y,a)=>match g x y with
   |some (.U γ)=>match f a with
    |some (z,c)=>match h y z with
     |some w=>Z (w,c)
     |none=>O
    |none=>O
   |some (.U δ)=>Z (.U δ,a)
   |_=>O
  |none=>O
 |none=>O
set_option tactic.hygienic true
def Nu(ho:g? G r g)(I:g? G r' Y):∀N H Q,tF G (xW g Y T U W) N H Q->Oo r r' (tF G T) (tF G U) (tF G W) N H Q:=λN H Q hh=>by
 obtain⟨F,m,H0,d,ρ',R,e,k⟩:=hh;unfold xW at e;rcases vB (f:=T) (ρ:=m)with p|⟨x,b,p⟩<;>simp only[p]at e
 .cases e
 rcases vB (f:=U) (ρ:=b)with A|⟨y,c,A⟩<;>simp only[A]at e
 .cases e
 refine⟨F,m,H0,x,b,R,p,λv H1 H1' s1 R1 r1=>⟨F,b,H1,y,c,R1,A,λu h i o R2 M=>?_⟩⟩;split at e
 .rename_i B;refine ho x y _ h i v u _ B R2.sub (df.mono o _ _ r1) M λw l=>?_;have a:=l h (ve.refl _);refine⟨γ,a,LW ?_⟩;rcases vB (f:=W) (ρ:=c)with C|⟨z,ρ3,C⟩<;>simp only[C]at e
  .cases e
  cases E:Y y z with
  |none=>simp only[E]at e;cases e
  |some q=>simp only[E]at e;cases e;refine⟨F,c,h,z,_,R2,C,λt P j s3 S r3=>?_⟩;exact I y z _ P j u t Q E S.sub (df.mono s3 _ _ M) r3 λw l=>k w P j (s1.t (o.t s3)) S (l _ (ve.refl _))
 .rename_i B;cases e;refine ho x y _ h i v u _ B R2.sub (df.mono o _ _ r1) M λw l=>?_;have a:=l h (ve.refl _);exact⟨δ,a,LV (k _ _ _ (s1.t o) R2 (xy δ))⟩
 .cases e
set_option tactic.hygienic false
def Ua(w:fu X (bz h) r)(f:fu X (bz d) x)(u:g? G r g)(e:g? G x m)(o:PE X a (tF G i))(p:PE X b (tF G j))(q:PE X c (tF G l))
  (t:lastMarks [h,d] [b,c]=δ:=by with_unfolding_all rfl):PE X (.Compare a [h,d] [b,c] pos) (tF G (xW g m i j l)):=PE.dd (S0 w f o p q t) (Nu u e)
def RV(C:fu X (bz l) r)(i:fu X (bz f) E)(B:g? G r g)(h:g? G E u)(w:PE X a (tF G p))(x:PE X b (tF G q))(y:PE X c (tF G t))
  (A:lastMarks [l,f] [b,c]=δ:=by with_unfolding_all rfl):PT X (.Compare a [l,f] [b,c] pos) (kg G (cT (xW g u p q t))):=PT.dd (S4 C i w x y A) λm H Q z=>by
 obtain⟨F,I,o,d,j,R,e,k⟩:=P4 m H Q z;exact Nu B h m H _ ⟨F,I,o,d,j,R,e,k⟩
end
def Dh(P:aB)(w:aw)(K:av)(b:Str->Option aa)(b1:Heap)(k:Nat)(x:Str)(c:aC)(d:Sp):Prop:=
 ∃(f:Addr) (a:bU),b x=Z (.ref f)/\eB K (.ref f)=γ/\jj K a c []/\zi P w K b b1 ze k f a c d
def L1(G:Bg)(P:aB)(w:aw)(d:Str->Option aa)(b1:Heap)(k:Nat)(x:Str)(c:Nat)(e:aC)(dvs:bA)(g:aY->Option (aC×aY)):Prop:=
 ∃(f:Addr) (b:bU) (a:List aa),Mk G.K (G.ca c) f/\d x=Z (.ref (G.ca c))/\jj G.K b e a/\de dvs a/\zi P w G.K d b1 ze k f b e (spI G c g)
def B3(G:Bg)(P:aB)(w:aw)(d:Str->Option aa)(b1:Heap)(k:Nat)(m:Str)(c:Nat)(h:aY->Option D):Prop:=
 ∃(f:Addr) (a:bU) (b:aC),Q? G.K (G.ca c)/\Meth G.K (G.ca c) m f/\jj G.K a b []/\zi P w G.K d b1 ze k f a b (et G h)
section
variable{X:Cx}{G:Bg}{k:Nat}{x m:Str}{p pos apos:Pos}{e o:Expr}{es:List Expr}{a:FA}{ps:aC}
def Hf{c:Type}(g:aY->c):(λb=>g (b++[]))=g:=funext λb=>by rw[bT]
def aaN(D:Dh X.prog X.w X.K X.mg X.b1 k x ps (et G g))(t:xj k X.A)(j:PA X (e::es) (o? G a))(r:Gl X x:=by rfl)(b:(x==("__debug__" : Str))=δ:=by decide)(l:az (e::es) X.b3=(δ,eval e X.b3)::az es X.b3:=by rfl)(hpl:(bG pos (az es X.b3)).any (·.1)=δ:=by rfl):
  PE X (.Call (.Name x p) (e::es) [] pos) (tF G (uQ g a)):=by
 obtain⟨f,u,c,d,h,i⟩:=D;have q:=Xd (λy=>vJ) (IF (p:=p) i t r c d h .nil Ja j b l hpl);rw[Hf]at q;exact q
def Xs(D:Dh X.prog X.w X.K X.mg X.b1 k x ps (q? G g))(t:xj k X.A)(j:PA X (e::es) (o? G a))(r:Gl X x:=by rfl)(b:(x==("__debug__" : Str))=δ:=by decide)(l:az (e::es) X.b3=(δ,eval e X.b3)::az es X.b3:=by rfl)(hpl:(bG pos (az es X.b3)).any (·.1)=δ:=by rfl):
  PE X (.Call (.Name x p) (e::es) [] pos) (ub G (vN g a)):=by
 obtain⟨f,u,c,d,h,i⟩:=D;have q:=TN (λy=>vJ) (IF (p:=p) i t r c d h .nil Ja j b l hpl);rw[Hf]at q;exact q
def Ub(D:Dh X.prog X.w X.K X.mg X.b1 k x ps (q? G g))(l:xj k X.A)(j:Gl X x:=by rfl)(b:(x==("__debug__" : Str))=δ:=by decide):PE X (.Call (.Name x p) [] [] pos) (ub G (vN g vA)):=by obtain⟨f,q,c,d,h,i⟩:=D;exact RI (S9 i l j c d h .nil Ja b)
def Xt(D:Dh X.prog X.w X.K X.mg X.b1 k x ps (rh G g))(t:xj k X.A)(u:PE X e (BU i))(q:PA X es (o? G a))(r:Gl X x:=by rfl)(b:(x==("__debug__" : Str))=δ:=by decide)(c:az (e::es) X.b3=(δ,eval e X.b3)::az es X.b3:=by rfl)(hpl:(bG pos (az es X.b3)).any (·.1)=δ:=by rfl):
  PE X (.Call (.Name x p) (e::es) [] pos) (tF G (vY g i a)):=by
 obtain⟨f,y,d,h,j,l⟩:=D;exact aau (IF l t r d h j .nil Ja (w6 u q c) b c hpl)
def Xu(M:L1 G X.prog X.w X.mg X.b1 k x c ps dvs g)(hd:∀H,b? G H dds dvs)(y:xj (k+1) X.A)(r:PA X (e::es) (o? G a))(hK:X.K=G.K:=by rfl)(u:Gl X x:=by rfl)(b:(x==("__debug__" : Str))=δ:=by decide)
  (t:az (e::es) X.b3=(δ,eval e X.b3)::az es X.b3:=by rfl) (hpl:(bG pos (az es X.b3)).any (·.1)=δ:=by rfl):
  PE X (.Call (.Name x p) (e::es) [] pos) (tF G (vC c (λd=>g (d++dds)) a)):=by
 obtain⟨f,z,d,h,l,i,q,j⟩:=M;rw[<-hK]at h i j;exact Xf hd (Wx h j y u l i q Ja r b t hpl)
def YV(M:∀c h,g c=Z h->B3 G X.prog X.w X.mg X.b1 k m c h)(q:xj k X.A)(hK:X.K=G.K):∀C b,MT G g C b->MOk X C m b [] E0:=λC b h=>by obtain⟨c,h,e,rfl,rfl⟩:=h;obtain⟨f,l,ps,d,i,q3,j⟩:=M c h e;rw[<-hK]at d i q3 j;exact⟨k,f,l,ps,[],d,i,j,q,q3,.nil,Ja⟩
def RW(M:∀c h,g c=Z h->B3 G X.prog X.w X.mg X.b1 k m c h)(j:xj k X.A)(i:PE X o (tF G f))(d:PA X (e::es) (o? G a))(hK:X.K=G.K:=by rfl)
  (hst:az (e::es) X.b3=(δ,eval e X.b3)::az es X.b3:=by rfl) (hpl:(bG pos (az es X.b3)).any (·.1)=δ:=by rfl)
  (l:eval (.Call (.Attribute o m apos) (e::es) [] pos) X.b3=(do
   let b<-eval o X.b3
   standAt apos.atName
   let (f,first)<-holding [b] (getMethod b m pl)
   callWith pos f first (bG pos (az (e::es) X.b3)) (backToKw pos (eh [] X.b3))):=by rfl):
  PE X (.Call (.Attribute o m apos) (e::es) [] pos) (tF G (vh g m f a)):=Xe (TR (MT G g) (YV M j hK) i d hst hpl l)
def OM(M:∀c h,g c=Z h->B3 G X.prog X.w X.mg X.b1 k m c h)(i:xj k X.A)(d:PE X o (tF G f))(hK:X.K=G.K:=by rfl)
  (j:eval (.Call (.Attribute o m apos) [] [] pos) X.b3=(do
   let b<-eval o X.b3
   standAt apos.atName
   let (f,first)<-holding [b] (getMethod b m pl)
   callWith pos f first (bG pos (az [] X.b3)) (backToKw pos (eh [] X.b3))):=by rfl):
  PE X (.Call (.Attribute o m apos) [] [] pos) (tF G (vh g m f vA)):=TU (RK (MT G g) (YV M i hK) d j)
end
section
variable{P:aB}{w:aw}{K:av}{mg:Str->Option aa}{b1:Heap}{x qual:Str}{st:Stmt}{f T:Addr}{fd:bU}{N ps:aC}{k:Nat}{G:Bg}
abbrev Fn(P:aB)(w:aw)(K:av)(mg:Str->Option aa)(b1:Heap)(N:aC)(qual:Str)(st:Stmt)(f:Addr)(cdv:aa)(A:aG)(cf:List Env)(s:af)(H:Hp)(E:XK):Cx:=(MR ze P w K mg b1 N qual (vn st) f cdv A cf s H E).nox
theorem Qe(a:g=eb np n b)(c:ps.length=np)(hN:N.length=n)(F:T? K x qual st f fd)(S:xl N ps (vn st))(body:∀(cdv:aa) (A:aG) (cf:List Env) (s:af) (H:Hp) (E:XK),xj k (A.deeper (envOfC qual (vn st) s.heap.objs.size f cdv))->k? (Fn P w K mg b1 N qual st f cdv A cf s H E) (vQ st) (iE G b)):
  zi P w K mg b1 ze (k+1) f fd ps (et G g):=by
 subst a c hN;exact F.ok S (adZ W9) λcdv A cf s H e Q E d h=>⟨_,body cdv A cf s H E d,W7 (by have:=bw cK S.pre;rw[bZ]at this;omega) h⟩
theorem aee(a:g=sh e n b)(c:ps.length=e)(hN:N.length=n)(F:T? K x qual st f fd)(S:xl N ps (vn st))(body:∀(cdv:aa) (A:aG) (cf:List Env) (s:af) (H:Hp) (E:XK),xj k (A.deeper (envOfC qual (vn st) s.heap.objs.size f cdv))->k? (Fn P w K mg b1 N qual st f cdv A cf s H E) (vQ st) (iE G b)):
  zi P w K mg b1 ze (k+1) f fd ps (q? G g):=by
 subst a c hN;exact F.ok S (ad0 Xa) λcdv A cf s H i Q E d h=>⟨_,body cdv A cf s H E d,W8 (by have:=bw cK S.pre;rw[bZ]at this;omega) h⟩
theorem aef{ps:aC}(a:g=qx e n b)(c:ps.length=e)(hN:N.length=n)(F:T? K x qual st f fd)(S:xl N (p::ps) (vn st))(body:∀(cdv:aa) (A:aG) (cf:List Env) (s:af) (H:Hp) (E:XK),xj k (A.deeper (envOfC qual (vn st) s.heap.objs.size f cdv))->k? (Fn P w K mg b1 N qual st f cdv A cf s H E) (vQ st) (iE G b)):
  zi P w K mg b1 ze (k+1) f fd (p::ps) (rh G g):=by
 subst a c hN;exact F.ok S (ad4 Xk) λcdv A cf s H i Q E d h=>⟨_,body cdv A cf s H E d,Xj (by have:=bw cK S.pre;rw[bZ,aN]at this;omega) h⟩
def YW(d:∀a q,g a=Z q->a.length=i):∀b H Q E,spI G c g b H Q E->b.length=i+1:=λb H Q E h=>by obtain⟨p,l,t,j,a,o,m,rfl,_,_,_,r,e,_⟩:=h;rw[aN,<- uW r,d _ _ e]
theorem aeg{ps:aC}(a:g=ro c i n b)(d:ps.length=i)(hN:N.length=n)(F:T? K x qual st f fd)(S:xl N (p::ps) (vn st))(body:∀(cdv:aa) (A:aG) (cf:List Env) (s:af) (H:Hp) (E:XK),xj k (A.deeper (envOfC qual (vn st) s.heap.objs.size f cdv))->k? (Fn P w K mg b1 N qual st f cdv A cf s H E) (vQ st) (iE G b)):
  zi P w K mg b1 ze (k+1) f fd (p::ps) (spI G c g):=by
 subst a d hN;exact F.ok S (YW λj q h=>(Jh h).1) λcdv A cf s H l Q E e h=>⟨_,body cdv A cf s H E e,P7 (by have:=bw cK S.pre;rw[bZ,aN]at this;omega) h⟩
theorem aaO{ps:aC}(a:g=ro c i n b)(d:ps.length=i)(hN:N.length=n)(F:RF K x qual st f fd T)(S:xl N (p::ps) (vn st))(body:∀(cdv:aa) (A:aG) (cf:List Env) (s:af) (H:Hp) (E:XK),xj k (A.deeper (envOfC qual (vn st) s.heap.objs.size f cdv))->k? (Fn P w K mg b1 N qual st f cdv A cf s H E) (vQ st) (iE G b)):
  zi P w K mg b1 ze (k+1) f fd (p::ps) (spI G c g):=by
 subst a d hN;exact F.ok S (YW λj q h=>(Jh h).1) λcdv A cf s H l Q E e h=>⟨_,body cdv A cf s H E e,P7 (by have:=bw cK S.pre;rw[bZ,aN]at this;omega) h⟩
end
section
variable{X:Cx}{G:Bg}
def AX(G:Bg)(a:Str->Option aa)(x:Str)(d:D):Prop:=∃(v:V) (u:aa),a x=Z u/\dg v u/\∀H,df G H d v
def Uc(h:AX G X.mg x d)(e:Gl X x:=by rfl)(hd:(x==("__debug__" : Str))=δ:=by decide):PE X (.Name x pos) (tF G (cC d)):=by obtain⟨v,u,a,b,c⟩:=h;exact WS (IE e a b hd) c
def Ud:FS:=λy=>O
def Bh(i:Nat)(j:Int)(f:FE):FS:=λc=>match f c with
 |some (d,a)=>match wY a i with
  |some b=>match ixN b.length j with
   |some k=>Z (.nx (putAt a i (b.set k d)))
   |none=>O
  |none=>O
 |none=>O
def RX{st:Stmt}(h:PS X st (EB (tF G f) (gSub (BU i) (tC (.int j)) YL))):PS X st (iE G (Bh i j f)):=PS.dd h λE P H z=>by
 obtain⟨F,q,u,o,R,e,k,N⟩:=z;unfold Bh at e;rcases vB (f:=f) (ρ:=q)with c|⟨d,b,c⟩<;>simp only[c]at e
 .cases e
 cases l:wY b i with
 |none=>simp only[l]at e;cases e
 |some y=>
  simp only[l]at e;cases p:ixN y.length j with
  |none=>simp only[p]at e;cases e
  |some m=>simp only[p]at e;cases e;refine⟨F,q,u,d,b,R,c,λv M w s x r=>?_⟩;obtain⟨a,I,A,B,t,C⟩:=yk x l;exact⟨.ref a,A,a,I,j,m,J,J,B,by rw[<-uW t];exact p,k _ _ _ s (C _ _ (M6 m t r))⟩
def wC(T:String):Ty->Option Bool
 |.b n=>if n="NoneType" then Z δ else if n="bool" then Z (T=="bool" ||T=="int")else if n="int" then Z (T=="int")else if n="str" then Z (T=="str")else if n="tuple" then Z (T=="tuple")else if n="list" then Z (T=="list")else if n="dict" then Z (T=="dict")else O
 |.c _=>O
def Ue:∀k b,wC T (.c k)=Z b->Nr X.K (G.ca k):=λk b h=>by cases h
def ON:List String:=["NoneType", "bool", "int", "str", "tuple", "list", "dict"]
def Jp{T:String}(h:(ON.all λn=>decide (cX X.K ((Ty.b n).val G) (.type T)=wC T (.b n)))=γ):∀y b,wC T y=Z b->cX X.K (y.val G) (.type T)=Z b:=λy b e=>by
 cases y with
 |c k=>cases e
 |b n=>
  by_cases a:n∈ON
  .rw[bp (aQ.1 h n a)];exact e
  .simp only[ON,aM,cw,or_false,not_or]at a;simp[wC,a]at e
def Ug:∀y b,wC "list" y=Z b->cX X.K (y.val G) (.type "list")=Z b:=Jp (by kernel_rfl)
def Xv:∀y b,wC "str" y=Z b->cX X.K (y.val G) (.type "str")=Z b:=Jp (by kernel_rfl)
end
end L4
namespace L3
open PySem PySem.Spec PyProof.Rows L2
def Xw{X:Cx}{spos:Pos}{d6:List Nat}
  (P:X.j0=γ) (hN:X.N.Nodup) (U:X.N[i]?=Z y) (hyl:Loc X.b3.scope y) (Q:PI X r iter wi)
  (body:∀(l:List (Str×Addr)) (C:Addr) (p:List Addr) (s:af) (H:Hp),PG (wZ X c scope l C p s H) r g/\PIf (wZ X c scope l C p s H) ifs tt/\PE (wZ X c scope l C p s H) elt te)
  (hkind:scope.kind=.function:=by rfl) (hcell:(scope.names.all λy=>y.2 != .cell)=γ:=by rfl)
  (hloc:(scope.names.all λy=>y.2 != .local||scope.names.lookup y.1==Z .local)=γ:=by rfl)
  (hfree:(scope.names.all λy=>y.2 != .free||(X.b3.kindOf y.1==Z .cell||X.b3.kindOf y.1==Z .free))=γ:=by rfl)
  (f:c.length=k+d6.length:=by rfl) (hcap:(c.drop k).map Z=d6.map λj=>X.N[j]?:=by rfl)
  (hcf:((c.drop k).all λx=>scope.names.lookup x==Z .free)=γ:=by rfl)
  (T:∀x,iN iter X.b3 x=pure x:=by intro _;rfl)
  (hsw:dO (.ListComp elt [⟨r,iter,ifs,0⟩] scope pos) (Z (.Name y Y)) spos.line X.b3=pure γ:=by rfl)
  (hfy:X.fn y=γ\/X.b3.scope.names.lookup y=Z .local:=by first|exact .inl J|exact .inr J|assumption):
  PS X (.Assign [.Name y Y] (.ListComp elt [⟨r,iter,ifs,0⟩] scope pos) spos) (EB (G8 wi g tt te k d6) (AR i)):=by
 intro B s σ H D I h;rw[exec_Assign_Name_used _ _ _ _ hsw];refine ae (j9 (ae ?_));refine ae (cq (KP P Q body hkind hcell hloc hfree f hcap hcf T I h λa C m u s4 F R C? fpC qn=>?_) (λ_ s' S=>aq (aq S)) λ_ _ e=>e);obtain⟨oC,esC,nC,gC,dC,rC⟩:=id R;have M:=C?.Ra (λb d=>bj.1 d▸fpC) (λb d=>bj.1 d▸⟨oC,gC,λv z=>by rw[dC]at z;cases z⟩);refine e0 (PD hN U hyl hfy _ s4 σ F (.ref a) (.ref a) (λt E=>D.nx t E) M J qn) λ_ s6 zz=>?_;obtain⟨w,G,A,q6⟩:=zz;obtain⟨W,p2,_⟩:=A.E? (C,oC) (bB _ (bB _ (Aq (by simp) gC)));exact⟨m,⟨oC,esC,nC,W,dC,rC⟩,λh' q=>⟨w,G,A.ki.gh (λb o d e=>(q.2 b d).t e) p2 fpC.2.1 fpC.2.2.2.1 fpC.2.2.2.2.1 fpC.2.2.2.2.2,q6⟩⟩
end L3
namespace L4
open PySem PySem.Spec PyProof.Rows L2 L3
section
variable{X:Cx}{G:Bg}
def Jq{st:Stmt}(h:PS X st (EB d g))(w:∀b H Q,a b H Q->d b H Q):PS X st (EB a g):=PS.dd h λE b H c=>w _ _ _ c
def RY{st:Stmt}{d6:List Nat}(c:d6.Nodup)(h:PS X st (EB (G8 (O' G s) (ι G k g) (kg G b) (tF G a) k d6) (AR i))):PS X st (iE G (yj i (u7 k d6 s g b a))):=Nc (Jq h (LZ c))
def Uh{st:Stmt}{d6:List Nat}(c:d6.Nodup)(h:PS X st (EB (G8 (O' G s) (ι G k g) (kg G b) (tF G a) k d6) (AR i))):PS X st (iE G (vp i (cL (u7 k d6 s g b a)))):=P6 (Jq (Jq h (LZ c)) tN_F)
end
section
variable{f g h:FS}{c:FT}{e e' e2:FE}{a a':FA}{ρ ρ' ρ1 ρ2 ρ3:aP}{d x y z:D}{o:x3}{ds xs ys:aY}
def uR(h:f ρ=Z (.nx ρ')):bt f g ρ=g ρ':=by unfold bt;rw[h]
def vE(h:f ρ=Z (.rt d ρ')):bt f g ρ=Z (.rt d ρ'):=by unfold bt;rw[h]
def vP(h:c ρ=Z (γ,ρ')):ew c f g ρ=f ρ':=by unfold ew;rw[h]
def v8(h:c ρ=Z (δ,ρ')):ew c f g ρ=g ρ':=by unfold ew;rw[h]
def wa(h:e ρ=Z (d,ρ')):vp i e ρ=Z (.nx (ρ'.set i (.I d))):=by unfold vp;rw[h]
def Xx(h:a ρ=Z (ds,ρ')):yj i a ρ=Z (.nx (ρ'.set i (.ls ds))):=by unfold yj;rw[h]
def vq(h:e ρ=Z (d,ρ')):uU e ρ=Z (.rt d ρ'):=by unfold uU;rw[h]
def xP(h:a ρ=Z (ds,ρ')):wy a ρ=Z (.rn ds ρ'):=by unfold wy;rw[h]
def xb(h:e ρ=Z (d,ρ')):vH e ρ=Z (.nx ρ'):=by unfold vH;rw[h]
def Nv(h:e ρ=Z (d,ρ1))(b:wY ρ1 i=Z ds)(l:ixN ds.length j=Z k):Bh i j e ρ=Z (.nx (putAt ρ1 i (ds.set k d))):=by unfold Bh;rw[h];simp only[b,l]
def uY{g:D->D->Option D}(b:e ρ=Z (x,ρ1))(i:e' ρ1=Z (y,ρ2))(j:g x y=Z z):c2 g e e' ρ=Z (z,ρ2):=by unfold c2;rw[b];simp only[i,j]
def vO{g:D->Option D}(b:e ρ=Z (x,ρ1))(i:g x=Z z):c1 g e ρ=Z (z,ρ1):=by unfold c1;rw[b];simp only[i]
def Jr(b:e (ρ.map Sl.ν)=Z (d,ρ1))(i:xU d=γ):CU e ρ=Z (d,ρ):=by unfold CU;rw[b];simp only[i,if_true]
def Qf(i:c (ρ.map Sl.ν)=Z (b,ρ1)):Dg c ρ=Z (b,ρ):=by unfold Dg;rw[i]
def vU(i:e ρ=Z (.U b,ρ1)):cT e ρ=Z (b,ρ1):=by unfold cT;rw[i]
def wW(i:c ρ=Z (b,ρ1)):wq c ρ=Z (!b,ρ1):=by unfold wq;rw[i]
def xN(j:c ρ=Z (δ,ρ1))(l:i ρ1=Z (b,ρ2)):xk c i ρ=Z (b,ρ2):=by unfold xk;rw[j];exact l
def uX(b:e ρ=Z (d,ρ1))(i:a ρ1=Z (ds,ρ2)):ax e a ρ=Z (d::ds,ρ2):=by unfold ax;rw[b];simp only[i]
def uP{b:Type}{g:aY->Option b}{r:b}(i:a ρ=Z (ds,ρ1))(j:g ds=Z r):Gv g a ρ=Z (r,ρ1):=by unfold Gv;rw[i];simp only[j]
def we(b:a ρ=Z (ds,ρ1)):cL a ρ=Z (.b4 ds,ρ1):=by unfold cL;rw[b]
def Ui(b:a ρ=Z (ds,ρ1))(i:ds.length<=1000):vF a ρ=Z (ds,ρ1):=by unfold vF;rw[b];simp only[i,if_true]
def aaP(b:a ρ=Z (ds,ρ1))(i:ds.length<=1000):vI a ρ=Z (.c4 ds,ρ1):=by unfold vI;rw[b];simp only[i,if_true]
def wK(b:e ρ=Z (.b4 xs,ρ1))(i:e' ρ1=Z (.b4 ys,ρ2))(j:xs.length+ys.length<=1000):xB e e' ρ=Z (xs++ys,ρ2):=by unfold xB;rw[b];simp only[i,j,if_true]
def Uj{g:aY->aY->Option (D×aY)}{i:Nat}{l j b:aY}(m:wY ρ i=Z j)(p:a ρ=Z (ds,ρ1))(q:wY ρ1 i=Z l)(r:g l ds=Z (d,b)):vY g i a ρ=Z (d,putAt ρ1 i b):=by unfold vY;rw[m];simp only[p,q,r]
def Uk(l:wY ρ i=Z j)(m:e ρ=Z (d,ρ1))(p:wY ρ1 i=Z b)(q:b.length<1000):CZ i e ρ=Z (.J,putAt ρ1 i (b++[d])):=by unfold CZ;rw[l];simp only[m,p,q,if_true]
def Ul(l:wY ρ i=Z j)(m:a ρ=Z (ds,ρ1))(p:wY ρ1 i=Z b)(q:b.length+ds.length<=1000):Ir i a ρ=Z (.J,putAt ρ1 i (b++ds)):=by unfold Ir;rw[l];simp only[m,p,q,if_true]
def xX{s:FA}{g:FG}(b:s ρ=Z (ds,ρ1)):x9 s g f ρ=fh g f ds ρ1:=by unfold x9;rw[b]
def II{k:Nat}{d6:List Nat}{s:FA}{g:FG}{i:FT}{b:FE}(j:s ρ=Z (ds,ρ1))(l:ds.length<=1000):u7 k d6 s g i b ρ=AV k d6 g i b ds ρ1:=by unfold u7;rw[j];simp only[l,if_true]
def OO(m:ds.length=p)(h:b (L4.stM n j ds)=Z (.rt d ρ))(l:Fg ρ=Z i):qx p n b j ds=Z (d,i):=by unfold qx;rw[aj m,h];simp only[l]
def aaQ(m:ds.length=p)(h:b (L4.stM n j ds)=Z (.rn xs ρ))(l:Fg ρ=Z i):qx p n b j ds=Z (.b4 xs,i):=by unfold qx;rw[aj m,h];simp only[l]
def As(i:ds.length=j)(h:b (L4.A? n ds)=Z (.rn xs ρ)):sh j n b ds=Z xs:=by unfold sh;rw[aj i,h]
def u6(i:ds.length=j)(h:b (L4.A? n ds)=Z (.rt d ρ)):eb j n b ds=Z d:=by unfold eb;rw[aj i,h]
def L6(h:yP ds=Z l)(hd:wJ l<=19):en neg (.b4 ds) (.b4 ds)=Z (.U (!neg)):=by
 have b:Jn neg (.b4 ds) (.b4 ds)=O:=rfl;have i:ll (.b4 ds)=Z (.b4 l):=by unfold ll;rw[h]
 have e2:fy (.b4 l)=wJ l+1:=by rw[fy]
 unfold en;rw[b];simp only;unfold Nq;rw[i];simp only;rw[aj (by simp only[aU,bY];exact⟨⟨J,by omega⟩,by omega⟩),L3.BA];cases neg<;>rfl
end
def wu(a:aY):Prop:=(∃c,a=[.int c])\/∃q r n,a=[.int q,.int r,.int n]
def zr(h:B2 a=γ\/B2 b=γ):zL (.int a) (.int b)=Z (.int (a * b)):=by unfold zL dI;simp only;rw[aj (by simpa using h)]
def DU(h:0<b):zm (.int a) (.int b)=Z (.int (a % b)):=by unfold zm dI;simp only;rw[aj (by simpa using h)]
def C'(h:0<b)(c:b<1073741824):Ee (.int a) (.int b)=Z (.int (a / b)):=by unfold Ee dI;simp only;rw[aj (by simp[h,c])]
def Nw(h:0<=a)(b:a<2147483647):B2 a=γ:=by unfold B2;simp only[aU,bY];omega
def BD:D->Option dr
 |.int i=>Z (.inl i)
 |.str x=>Z (.inr x)
 |_=>O
def wG:List dr->aY->dr->Option D
 |k::b,d::a,j=>if k=j then Z d else wG b a j
 |_,_,_=>O
def Xy(e:List dr)(b:aY)(k:dr)(d:D):aY:=fP (λc a=>if c=k then d else a) e b
def Ku(b:List dr)(k:dr):Bool:=b.any λa=>decide (a=k)
section
variable{X:Cx}{G:Bg}{H:Hp}
def B4(h:df G H d v)(e:BD d=Z k):v=kV k:=by
 cases d<;>first|cases e|skip
 all_goals (unfold df at h;exact h)
theorem Di:∀{ks:List dr} {b:aY} {a:bA} (j:dr),b? G H b a->ks.length=a.length->match wG ks b j with
  |some d=>∃v,yL (ks.zip a) j=Z v/\df G H d v
  |none=>yL (ks.zip a) j=O
 |[],b,a,j,r,l=>by cases b<;>rfl
 |k::ks,b,[],j,r,l=>by cases l
 |k::ks,[],x::a,j,r,l=>by unfold b? at r;cases r
 |k::ks,d::b,x::a,j,r,l=>by
  obtain⟨v,q,e,h,i⟩:=r;cases e;unfold wG;by_cases c:k=j
  .rw[aj c];exact⟨x,E9 c,h⟩
  .rw[ak c];have m:=Di j i (by simpa using l);have f:yL ((k::ks).zip (x::a)) j=yL (ks.zip a) j:=Fb c;rw[f];exact m
theorem L7:∀{a:List dr} {b:bA},a.length=b.length->((a.zip b).any λkv=>decide (kv.1=k))=Ku a k
 |[],b,_=>by cases b<;>rfl
 |c::a,[],l=>by cases l
 |c::a,x::b,l=>by unfold Ku;rw[fF,gu,gu,L7 (by simpa using l)];rfl
theorem Qg:∀{a:List dr} {b:bA},a.length=b.length->(a.zip b).map (λkv=>if kv.1=k then (kv.1,v)else kv)=a.zip (fP (λd x=>if d=k then v else x) a b)
 |[],b,_=>by cases b<;>rfl
 |d::a,[],l=>by cases l
 |d::a,x::b,l=>by
  rw[fF,aI,Qg (by simpa using l),gL,fF];congr 1;by_cases c:d=k
  .rw[aj c,aj c]
  .rw[ak c,ak c]
theorem Nx(hd:df G H d v):∀{c:List dr} {b:aY} {a:bA},b? G H b a->c.length=a.length->b? G H (Xy c b k d) (fP (λf x=>if f=k then v else x) c a)
 |[],b,a,r,l=>by unfold Xy;cases b<;>cases a<;>exact vJ
 |f::c,b,[],r,l=>by cases l
 |f::c,[],x::a,r,l=>by unfold b? at r;cases r
 |f::c,m::b,x::a,r,l=>by
  obtain⟨w,q,e,i,j⟩:=r;cases e;unfold Xy;rw[gL,gL];refine vM ?_ (Nx hd j (by simpa using l));by_cases h:f=k
  .rw[aj h,aj h];exact hd
  .rw[ak h,ak h];exact i
def _root_.L2.n9.kf(e:H a=Z (.lb o (.dK kvs))):n9 H a (kV k) (yL kvs k):=.inl ⟨kvs,k,.inr ⟨o,e⟩,J,J⟩
def Ef:D->D->Option D:=λx y=>match x,BD y with
 |.Y b a,Z k=>wG b a k
 |_,_=>O
def Xz(hu:X.A.units+1<cLine)(T:PE X a (tF G f))(U:PE X b (tF G M))(Y:Ti b:=by exact λs s=>J):PE X (.Subscript a b pos) (tF G (c2 Ef f M)):=PE.dd (WI hu T U Y) λσ H Q W=>by
 obtain⟨F,ρ,r,d,o,R,e,k⟩:=W;obtain⟨x,y,h,E,I,c⟩:=Fd e;refine⟨F,ρ,r,x,h,R,E,λv t z s1 C r1=>⟨F,h,t,y,o,C,I,λu B i q R2 r2=>?_⟩⟩;have m:=df.mono q _ _ r1;cases x with
 |Y ks ds=>
  unfold Ef at c;cases l:BD y with
  |none=>simp only[l]at c;cases c
  |some j=>simp only[l]at c;obtain⟨p,ob,xs,rfl,N,P,S⟩:=m;have lv:=Di j S P;rw[c]at lv;obtain⟨w,w1,w2⟩:=lv;refine⟨p,w,J,?_,k w B i (s1.t q) R2 w2⟩;rw[B4 r2 l,<- w1];exact n9.kf (R2.sub _ _ N)
 |_=>unfold Ef at c;cases c
def Dj:D->D->Option D:=λx y=>match x,BD y with
 |.Y b a,Z k=>Z ((wG b a k).getD .J)
 |_,_=>O
def Um(hu:X.A.units+1<cLine)(ha:PE X a (tF G f))(hb:PE X b (tF G Y))(m:M1 X a "get" apos b cpos):PE X (.Call (.Attribute a "get" apos) [b] [] cpos) (tF G (c2 Dj f Y)):=PE.dd (To hu ha hb m) λσ H Q hh=>by
 obtain⟨F,ρ,N,d,r,R,e,k⟩:=hh;obtain⟨x,y,i,U,W,c⟩:=Fd e;cases x with
 |Y I T=>
  refine⟨F,ρ,N,_,i,R,U,λv P S M B r1=>?_⟩;have q:=r1;obtain⟨p,ob,xs,rfl,E,h2,h3⟩:=q;refine⟨p,J,.inl ⟨_,.inr ⟨_,B.sub _ _ E⟩⟩,F,i,P,y,r,B,W,λu t h l R2 r2=>?_⟩;unfold Dj at c;cases o:BD y with
  |none=>simp only[o]at c;cases c
  |some j=>
   simp only[o]at c;cases c;have lv:=Di j (b?.mono l _ _ h3) h2;refine⟨yL (I.zip xs) j,?_,?_⟩
   .rw[B4 r2 o];exact n9.kf (R2.sub _ _ (l _ _ E))
   .cases C:wG I T j with
    |none=>rw[C]at lv k;rw[lv];exact k _ t h (M.t l) R2 AU
    |some z=>rw[C]at lv k;obtain⟨w,w1,w2⟩:=lv;rw[w1];exact k _ t h (M.t l) R2 w2
 |_=>unfold Dj at c;cases c
def Hg(i:Nat):FS:=λa=>Z (.nx (a.set i (.dk [] [])))
def Uo{st:Stmt}(h:PS X st (EB OB (AR i))):PS X st (iE G (Hg i)):=PS.dd h λE u H l=>by obtain⟨F,r,m,o,R,e,k,q⟩:=l;cases e;intro p b;have c:=R.ij b (.dK []);refine k _ _ _ (ve.refl _) (c.set ⟨p,[],J,uZ,R.e4 b,R.fg b,J,vJ⟩ λy a d j t y f to=>?_);cases d;exact R.apart b j t f to
def yQ(i:Nat)(fk fv:FE):FS:=λf=>match fv f with
 |some (d,b)=>match b[i]? with
  |some (.dk _ _)=>match fk b with
   |some (y,c)=>match BD y with
    |some k=>match c[i]? with
     |some (.dk a e)=>if a.length<1000 then if e.length=a.length then Z (.nx (c.set i (if Ku a k=γ then .dk a (Xy a e k d)else .dk (a++[k]) (e++[d]))))else O else O
     |_=>O
    |none=>O
   |none=>O
  |_=>O
 |none=>O
set_option tactic.hygienic true
def Uq{st:Stmt}(h:PS X st (YQ (BU i) (tF G S) (tF G T))):PS X st (iE G (yQ i S T)):=PS.dd h λE σ H hh=>by
 obtain⟨F,q,Y,o,R,e,k,k2⟩:=hh;unfold yQ at e;rcases vB (f:=T) (ρ:=q)with t|⟨d,c,t⟩<;>simp only[t]at e
 .cases e
 split at e
 .rename_i ks0 ds0 ei;rcases vB (f:=S) (ρ:=c)with w|⟨y,C,w⟩<;>simp only[w]at e
  .cases e
  cases z:BD y with
  |none=>simp only[z]at e;cases e
  |some j=>
   simp only[z]at e;split at e
   .rename_i A ds l;split at e
    .rename_i hl;split at e
     .rename_i hl2;cases e;refine⟨F,q,Y,d,c,R,t,λv H1 H1' s1 I r1=>?_⟩;obtain⟨m,xs0,a1,_⟩:=I.sl i _ ei;refine⟨_,yO a1,F,c,H1,y,C,I,w,λu H2 r W R2 r2=>?_⟩;obtain⟨a,B,M,b2,N,P,b,Q⟩:=R2.sl i _ l;rw[a1]at M;cases M;refine⟨m,eg r m (.dK (j? (A.zip B) j v)),J,?_,?_⟩
      .rw[B4 r2 z];exact Tf.k b2 (by rw[iY];exact jP (Nat.min_le_left _ _) (DS (by omega)))
      .have U:=df.mono W _ _ r1;refine k _ _ _ (s1.t W) (R2.mut l J a1 (λH' hH=>?_) ?_)
       .by_cases p:Ku A j=γ
        .rw[aj p];refine⟨m,fP (λk' x=>if k'=j then v else x) A B,J,?_,N,P,by rw[jK,b,i7],Nx U Q b⟩;rw[hH];unfold j?;rw[L7 b,aj p,Qg b]
        .rw[ak p];refine⟨m,B++[v],J,?_,N,P,by rw[aE,aE,b];rfl,w9 Q (vM U vJ)⟩;rw[hH];unfold j?;rw[L7 b,ak p,mJ b];rfl
       .split<;>rfl
     .cases e
    .cases e
   .cases e
 .cases e
set_option tactic.hygienic false
def Iu:D->Option D
 |.b4 a=>(Kt a).map λbs=>.U (bs.any id)
 |_=>O
def RZ(x:X.j0=γ)(hK:X.K=G.K:=by rfl):wM X (.builtin "any") (λw H Q=>∃(p:Addr) (bs:List Bool),w=[.ref p]/\fb G.K H p (bs.map V.U)/\Q (.U (bs.any id)) H):=by
 rw[<-hK];intro m s U H w T Q I r h;obtain⟨p,bs,rfl,C,q⟩:=h;obtain⟨u,rfl,j⟩:=gk r;cases j;obtain⟨f,t,pl,P⟩:=I.list C;have hlt:p<s.heap.objs.size:=by obtain⟨o,B,_⟩:=pl.isList;exact aL B
 have z:=by have:=t.length;rw[ag]at this;exact this
 refine call_any_walk (fG pl.isList ⟨s.heap.objs.size,_,_,_,_,_,λi=>(bs[i]?).getD δ,J,jf (show X.A.in1.handled=O from I.ok.hd x) _ p (aT hlt) f.toArray,⟨⟨_,aX _ J,J,J⟩,?_⟩,?_,λN S y=>?_⟩)
 .exact pl.isList.at λo e=>aA _ e
 .intro i v R M F E hQ';have c:=by simpa using E
  have a:=(bX.1 c).1;have d:(bs.map V.U)[i]?=Z (.U (bs[i]'(by omega))):=by simp[show i<bs.length by omega]
  obtain⟨u,l,j⟩:=t.get d;rw[c]at l;cases l;cases j;refine dF ?_;have e:(bs[i]?).getD δ=bs[i]'(by omega):=by simp[show i<bs.length by omega]
  rw[<-e];exact hQ'
 .refine⟨.U (bs.any id),H,?_,?_,q⟩
  .exact I.fc λb o e=>y b o (by simp;exact aT (aL e)) (aA _ e)
  .show Value.bool _=Value.bool _;congr 1;rw[bb,<- z];rw[du];simp only[dH,bN,id];constructor
   .rintro⟨i,a,h⟩;exact⟨bs[i],gn a,by simpa [a]using h⟩
   .rintro⟨b,d,h⟩;obtain⟨i,a,rfl⟩:=l5.1 d;exact⟨i,a,by simpa [a]using h⟩
def aaR:He G (λd H Q=>∃(p:Addr) (bs:List Bool),d=[.ref p]/\fb G.K H p (bs.map V.U)/\Q (.U (bs.any id)) H) Iu:=λx z j H v Q e s i k=>by
 cases x with
 |b4 f=>
  unfold Iu at e;simp only at e;cases b:Kt f with
  |none=>rw[b]at e;cases e
  |some bs=>rw[b]at e;cases e;obtain⟨a,d,rfl,c,h⟩:=i;rw[Jo h b]at c;exact⟨a,bs,J,s.seq (fb.of c),k _ λy y=>xy _⟩
 |_=>cases e
def iS(f:FE):FA:=λb=>match f b with
 |some (.str x,a)=>Z (x.cps.toList.map λc=>D.str ⟨#[c]⟩,a)
 |_=>O
set_option tactic.hygienic true
def XA(h:PI X N e (iStr (tF G f))):PI X N e (O' G (iS f)):=PI.dd h λσ H R E=>by
 obtain⟨F,P,p,Y,Q,R,e,k⟩:=E;unfold iS at e;split at e
 .rename_i x S B;cases e;refine⟨F,P,p,_,_,R,B,λv T q s A r=>?_⟩;refine⟨x,r,k _ _ _ s A λi u w t M=>⟨λd j=>?_,λI=>?_⟩⟩
  .rw[bx]at j;cases m:x.cps.toList[i]? with
   |none=>rw[m]at j;cases j
   |some c=>
    rw[m]at j;cases j;have a:=by simpa using m
    refine⟨(ou.1 a).1,λz U y=>?_⟩;obtain⟨C,W,l,rfl⟩:=y;rw[a]at l;cases l;subst C;exact⟨u,ve.refl _,M,ve.refl _,λb o e=>.inl e,zB _⟩
  .show i=x.cps.size;rw[I,ag];simp
 .cases e
set_option tactic.hygienic false
def Hh(f g:FE):FE:=λe=>match f e with
 |some (.c4 (x::c),a)=>match g a with
  |some (.c4 d,b)=>if c.length+d.length<=900 then Z (.c4 (x::c++d),b)else O
  |_=>O
 |_=>O
set_option tactic.hygienic true
def XB(U:PE X a (tF G f))(W:PE X b (tF G g))(hK:X.K=G.K:=by rfl):PE X (.BinOp a .Add b pos) (tF G (Hh f g)):=PE.dd (PH WC U W) λσ H Q Y=>by
 rw[hK];obtain⟨F,ρ,y,d,ρ',R,e,k⟩:=Y;unfold Hh at e;split at e
 .rename_i x xs c M;split at e
  .rename_i ys ρ2 N;split at e
   .rename_i hl;cases e;refine⟨F,ρ,y,_,c,R,M,λv A B s E r=>⟨F,c,A,_,_,E,N,λu H2 C l R2 r2=>?_⟩⟩;have w:=df.mono l _ _ r;have r0:=w;obtain⟨a1,m,rfl,S,q⟩:=w;obtain⟨I,o,rfl,T,t⟩:=r2;have h:=uW q;have j:=uW t;rw[aN]at h;refine⟨a1,I,m,o,J,J,e?.mono R2.sub S,e?.mono R2.sub T,(λz=>by rw[z]at h;cases h),by rw[<-h,<- j];exact xT (by omega),λz=>?_,λ_ p i=>?_⟩
    .have P:=by rw[z]at j;exact jE.1 j
     subst P;rw[bT]at k;exact k _ _ _ (s.t l) R2 r0
    .exact k _ _ _ ((s.t l).t (vm (R2.e4 i) _)) (R2.yr i _) (DT (e?.of uZ) (b?.mono (vm (R2.e4 i) _) _ _ (w9 q t)))
   .cases e
  .cases e
 .cases e
end
set_option tactic.hygienic false
section
variable{X:Cx}{G:Bg}
abbrev FO:=aP->Option (Option Int×aP)
inductive ItFO(G:Bg) (f:FO) (σ:St) (H:Hp) (Q:(Option Int->Hp->Prop)):Prop
 |i (F ρ H0 d ρ') (h0:c3 G F σ ρ H0 H) (h1:f ρ=Z (d,ρ')) (h2:∀H0' H',ve H0 H0'->c3 G F σ ρ' H0' H'->Q d H'):ItFO G f σ H Q
def tFO(G:Bg)(f:FO):TO:=λa H Q=>ItFO G f a H Q
def oNo:FO:=λa=>Z (O,a)
def μ(f:FE):FO:=λb=>match f b with
 |some (.int i,a)=>Z (Z i,a)
 |_=>O
def PO.dd(h:PO X e t)(w:∀b H Q,d b H Q->t b H Q):PO X e d:=λa s b H Q I c=>h a s b H Q I (w _ _ _ c)
def aaS:PO X O (tFO G oNo):=PO.dd PR λh H Q a=>by obtain⟨F,f,c,d,b,R,e,k⟩:=a;cases e;exact k _ _ (ve.refl _) R
set_option tactic.hygienic true
def aaT(h:PE X e (tF G f)):PO X (Z e) (tFO G (μ f)):=PO.dd (PU h) λt H Q l=>by
 obtain⟨F,m,a,d,o,R,e,k⟩:=l;unfold μ at e;split at e
 .rename_i i p j;cases e;refine⟨F,m,a,_,_,R,j,λv q b s c r=>?_⟩;unfold df at r;exact⟨i,r,k _ _ s c⟩
 .cases e
set_option tactic.hygienic false
def Iv(f:FE)(lo i:FO):FA:=λj=>match f j with
 |some (d,c)=>match d with
  |.b4 e=>match lo c with
   |some (l,a)=>match i a with
    |some (h,b)=>Z (mq e l h,b)
    |none=>O
   |none=>O
  |.qi e=>match lo c with
   |some (l,a)=>match i a with
    |some (h,b)=>Z (mq e l h,b)
    |none=>O
   |none=>O
  |_=>O
 |none=>O
def OP{lo:FO}(h:PE X e (tSl (WG G.K) (tF G f) (tFO G lo) (tFO G w))):PE X e (ub G (Iv f lo w)):=PE.dd h λσ H Q hh=>by
 obtain⟨F,q,N,Y,E,R,e,k⟩:=hh;unfold Iv at e;rcases vB (f:=f) (ρ:=q)with y|⟨d,c,y⟩<;>simp only[y]at e
 .cases e
 have nr:∀(i:aY),(∀{m:Hp} {v:V},df G m d v->∃a j,v=.ref a/\fb G.K m a j/\b? G m i j)->(match lo c with
   |some (l,b)=>match w b with
    |some (h,t)=>Z (mq i l h,t)
    |none=>O
   |none=>O)=Z (Y,E)->tSl (WG G.K) (tF G f) (tFO G lo) (tFO G w) σ H Q:=λi rd e=>by
  rcases vB (f:=lo) (ρ:=c)with z|⟨l,b,z⟩<;>simp only[z]at e
  .cases e
  rcases vB (f:=w) (ρ:=b)with A|⟨u,t,A⟩<;>simp only[A]at e
  .cases e
  cases e;refine⟨F,q,N,d,c,R,y,λv m P s1 W r1=>⟨F,c,m,l,b,W,z,λS T I R2=>⟨F,b,S,u,_,R2,A,λH3 U M o=>?_⟩⟩⟩;obtain⟨a,j,rfl,B,C⟩:=rd (df.mono (I.t M) _ _ r1);exact⟨a,j,J,o.sub.seq B,λp x=>k p _ _ _ (s1.t (I.t M)) (o.ij x _) uZ (o.e4 x) (o.fg x) (o.apart x) (Nt C)⟩
 cases d with
 |b4 i=>exact nr i (λr=>by unfold df at r;obtain⟨a,j,rfl,B,C⟩:=r;exact⟨a,j,J,fb.of B,C⟩) e
 |qi i=>exact nr i (λr=>by unfold df at r;exact r) e
 |_=>cases e
def K0:D->D->Option D
 |.str x,.int n=>if 0<=n/\n<=1000/\x.length<=100 then Z (.str (nU x n))else O
 |_,_=>O
end
section
variable{X:Cx}{G:Bg}
def Hk(f e h:FE):FE:=λj=>match f j with
 |some (.Y i d,a)=>match e a with
  |some (y,b)=>match h b with
   |some (x,c)=>match BD y with
    |some k=>Z ((wG i d k).getD x,c)
    |none=>O
   |none=>O
  |none=>O
 |_=>O
set_option tactic.hygienic true
def Ur(hu:X.A.units+1<cLine)(ha:PE X a (tF G f))(hb:PE X b (tF G S))(hc:PE X c (tF G T))(m:M2 X a "get" apos b c cpos):PE X (.Call (.Attribute a "get" apos) [b,c] [] cpos) (tF G (Hk f S T)):=PE.dd (Tp hu ha hb hc m) λσ H Q hh=>by
 obtain⟨F,I,H0,d,ρ',R,e,k⟩:=hh;unfold Hk at e;split at e
 .rename_i o ds h e1;rcases vB (f:=S) (ρ:=h)with B|⟨y,i,B⟩<;>simp only[B]at e
  .cases e
  rcases vB (f:=T) (ρ:=i)with C|⟨x,ρ3,C⟩<;>simp only[C]at e
  .cases e
  cases E:BD y with
  |none=>simp only[E]at e;cases e
  |some j=>
   simp only[E]at e;cases e;refine⟨F,I,H0,_,h,R,e1,λv H1 H1' Y N W=>?_⟩;unfold df at W;obtain⟨p,ob,xs,rfl,U,h2,h3⟩:=W;refine⟨p,J,.inl ⟨_,.inr ⟨_,N.sub _ _ U⟩⟩,F,h,H1,y,i,N,B,λu H2 H2' q R2 r2=>⟨F,i,H2,x,_,R2,C,λz M l r t r3=>?_⟩⟩;have lv:=Di (ks:=o) j (b?.mono (q.t r) _ _ h3) h2;refine⟨yL (o.zip xs) j,?_,?_⟩
   .rw[B4 r2 E];exact n9.kf (t.sub _ _ (r _ _ (q _ _ U)))
   .cases P:wG o ds j with
    |none=>rw[P]at lv k;rw[lv];exact k _ M l (Y.t (q.t r)) t r3
    |some w=>rw[P]at lv k;obtain⟨w',w1,w2⟩:=lv;rw[w1];exact k _ M l (Y.t (q.t r)) t w2
 .cases e
set_option tactic.hygienic false
def Js(G:Bg)(c:Nat)(t:Ty->Option Bool):Prop:=(∀y b,t y=Z b->cX G.K (y.val G) (.ref (G.ca c))=Z b)/\∀j b,t (.c j)=Z b->Nr G.K (G.ca j)
def OQ(h:Js G c t)(hK:X.K=G.K:=by rfl):wM X (.builtin "isinstance") (λa H Q=>∃d x b,a=[x,(Ty.c c).v G]/\df G H d x/\t (tyD d)=Z b/\Q (.U b) H):=
 KZ (X:=X) (.c c) (by rw[hK];exact h.1) (by rw[hK];exact h.2) hK
end
def ξ(acc:List dr)(k:dr):List dr:=if acc.any (λz=>decide (z=k))then acc else acc++[k]
def AQ(a:List dr):List dr:=a.foldl ξ []
def XD(acc:List dr)(k j:dr):(ξ acc k).any (λz=>decide (z=j))=(acc.any (λz=>decide (z=j))||decide (j=k)):=by
 unfold ξ;by_cases h:acc.any (λz=>decide (z=k))=γ
 .rw[aj h];by_cases e:j=k
  .subst e;rw[h];simp
  .simp[e]
 .rw[ak h,List.any_append];by_cases e:j=k
  .subst e;simp
  .have a:¬k=j:=λz=>e z.symm;simp[a,e]
def Qh(acc:List dr)(k:dr):(ξ acc k).length=if acc.any (λz=>decide (z=k))=γ then acc.length else acc.length+1:=by unfold ξ;split<;>simp
def K1(a:List dr)(i:Nat)(h:i<a.length):AQ (a.take (i+1))=ξ (AQ (a.take i)) a[i]:=by unfold AQ;rw[iP,bh h,pN];rfl
def Us(a:List dr):(AQ a).length<=a.length:=by
 have nr:∀(l:List dr) (acc:List dr),(l.foldl ξ acc).length<=acc.length+l.length:=by
  intro l
  induction l with
  |nil=>intro acc;simp
  |cons k l b=>
   intro acc;rw[iX,aN];have c:=b (ξ acc k);have d:(ξ acc k).length<=acc.length+1:=by rw[Qh];split<;>omega
   omega
 have:=nr a [];simpa [AQ]using this
def set_same{h:Heap}(hS:h.SetOf (vv prog w) a S n)(e:∀k,S k=b k)(c:n=d):h.SetOf (vv prog w) a b d:=by obtain rfl:S=b:=funext e;subst c;exact hS
section
variable{prog:aB}{w:aw}{A:aG}{R:fT->af->Prop}{I:Addr}{fp wr:List Addr}{GG:Array fq->Array fq->Prop}{n:Nat}{PP:Nat->aa->Prop}{SS:Nat->af->Prop}
def Ut(W:kE prog w A.in1 I fp wr GG n PP SS)(S:Addr)(hSf:S∉fp)(a:List dr)(F:a.length=n)
  (hval:∀i v (h:i<a.length),PP i v->(vv prog w).is a[i] v=γ/\v.scannable=γ) (E:n+1<scanBound):∀(k i:Nat) (s:af),n - i=k->i<=n->SS i s->
   s.heap.SetOf (vv prog w) S (λj=>(AQ (a.take i)).any (λz=>decide (z=j))) (AQ (a.take i)).length->
   (∀c,jk (S::wr) GG s c->c.heap.SetOf (vv prog w) S (λj=>(AQ a).any (λz=>decide (z=j))) (AQ a).length->R (.ok (.ret .none)) c)->
   cz (model prog w) A (.builtin "set.update.loop" ⟨[.ref S,.ref I],[]⟩) R s:=by
 have hSw:=λz=>hSf ((W).sub _ z);have up:∀b∈wr,b∈S::wr:=λb z=>bc _ z;intro k
 induction k with
 |zero=>
  intro i s x u hst hS hR;obtain rfl:i=n:=by omega
  refine dw gG ?_;rw[dE dQ _];show ah _ A.in1 (pyNext (.ref I)>>=_) _ _ s;refine ae (W.done s _ _ hst λc d=>?_);rw[gO (by omega)]at hS;refine aq (hR c (d.mono up) ?_);obtain⟨o,m,l,t,p,more⟩:=hS;exact⟨o,m,l,t,d.heap S _ hSw p,more⟩
 |succ k B=>
  intro i s x u hst hS hR;have hlt:i<n:=by omega
  have hlk:i<a.length:=by omega
  refine dw gG ?_;rw[dE dQ _];show ah _ A.in1 (pyNext (.ref I)>>=_) _ _ s;refine ae (W.item i s _ _ hlt hst λv c hP hst' d=>?_);obtain⟨kv,C⟩:=hval i v hlk hP;have hS':c.heap.SetOf (vv prog w) S (λj=>(AQ (a.take i)).any (λz=>decide (z=j))) (AQ (a.take i)).length:=by obtain⟨o,m,l,t,p,more⟩:=hS;exact⟨o,m,l,t,d.heap S _ hSw p,more⟩
  refine ae (bK ?_);unfold setAdd;refine bK ?_;refine ae ((vv prog w).pyHash kv ?_);have room:(AQ (a.take i)).length+1<scanBound:=by have:=Us (a.take i);rw[bZ]at this;omega
  refine wpAny_setAddHashed_of kv C hS' room λr hsb hS2=>?_;have hSi:r.SetOf (vv prog w) S (λj=>(AQ (a.take (i+1))).any (λz=>decide (z=j))) (AQ (a.take (i+1))).length:=
   set_same hS2 (λj=>by rw[K1 a i hlk,XD]) (by rw[K1 a i hlk,Qh])
  refine aq ⟨eX dQ _,B (i+1) _ (by omega) hlt (W.frame _ c _ _ hst' (ja _) λb z o e=>?_) hSi λq f hS''=>?_⟩
  .rw[hsb.2 b (λy:b=S=>hSf (by rw[<-y];exact z))];exact e
  .refine hR q (jc W.gtrans ((d.mono up).then_heap (ja _) λb o z e=>?_) f) hS'';rw[hsb.2 b (λy:b=S=>z (by rw[y];exact ba))];exact e
end
def XE(l:Addr)(us:Array aa)(m:Nat)(b:Addr)(o:Obj)(ws:Array aa)(f:Nat)(e:o.cls=.type "tuple")(hd:o.data=.seq ws f)(E:¬(!us.isEmpty&&gE (us.size+ws.size))=γ)(i:us.size<=aF)(j:us.size+ws.size<=aF+1):
  Meets (cP.«list.extend» ⟨[.ref l,.ref b],[]⟩) (λv R s=>s.heap.get? l=Z { cls:=.type "list", data:=.seq us m }/\s.heap.get? b=Z o/\R (.ok (.ret Value.none)) { s with heap:=s.heap.update l (c9 λx=>x++ws),toks:=s.toks }):=by
 obtain⟨c,q,data,sl⟩:=o;cases e;cases hd;refine .of_wp λprog w A R s h=>?_;obtain⟨z,g,d,tk,os⟩:=s;obtain⟨a,hb,h⟩:=h;have r:=AutoSeq1.sub_tuple_tuple;have t:=AutoSeq1.sub_list_list;have u:=AutoSeq1.sub_tuple_list;have y:=AutoSeq1.sub_list_tuple;have p:(us++ws).size<=aF+1:=Array.size_append (xs:=us) (ys:=ws)▸j
 wp_walk using (mK a J (hz:=i) (_hz':=p)),oA a,oA hb
 exact⟨_,J,h⟩
section
variable{X:Cx}{G:Bg}
inductive K2(K:av) (x:V) (vs:bA) (H:Hp) (Q:VK):Prop
 |i (l b xs zs) (h0:x=.ref l) (h1:vs=[.ref b]) (h2:H l=Z (.b4 xs)) (h3:e? K H b zs) (h4:xs.length+zs.length<=aF) (h5:Q .J (eg H l (.b4 (xs++zs)))):K2 K x vs H Q
def Ny(K:av):V->bA->Hp->VK->Prop:=λx a H Q=>K2 K x a H Q
def OR:MtM X "list.extend" (Ny X.K):=by
 intro i s S H x N v M Q I C B h;obtain⟨l,b,P,R,rfl,rfl,hH,hB,F,q⟩:=h;cases C;obtain⟨u,rfl,A⟩:=B.one;cases A;obtain⟨z,c,n,r,E,e⟩:=I.R' hH;obtain⟨a,j,⟨o,m,p,y,hd⟩,w⟩:=I.tuple hB;have t:=j.length;have d:c.toArray.size+a.toArray.size<=aF:=by rw[bb,bb];omega
 have hlong:¬(!c.toArray.isEmpty&&gE (c.toArray.size+a.toArray.size))=γ:=by rw[IY d,qM];exact br
 refine ia jN ⟨_,e,J⟩ pb (oV _ _)
  (XE l c.toArray n b o a.toArray y p hd hlong (by rw[bb];omega) (by omega)) ⟨e,m,?_⟩
 refine⟨.J,_,I.lset (its':=c++a) hH e (by simp) (r.append j) ?_,J,q⟩;rw[aE];omega
def Dk(i:Nat)(f:FE):FE:=λd=>match wY d i with
 |some _=>match f d with
  |some (.c4 c,a)=>match wY a i with
   |some b=>if b.length+c.length<=1000 then Z (.J,putAt a i (b++c))else O
   |none=>O
  |_=>O
 |none=>O
set_option tactic.hygienic true
def OS(h:PE X e (tBM G.K "list" (Ny G.K) (BU i) (Ec (tF G f) Kl))):PE X e (tF G (Dk i f)):=PE.dd h λσ H Q A=>by
 obtain⟨F,c,w,d,S,R,e,k⟩:=A;unfold Dk at e;cases j:wY c i with
 |none=>simp only[j]at e;cases e
 |some z=>
  simp only[j]at e;rcases vB (f:=f) (ρ:=c)with l|⟨x,b,l⟩<;>simp only[l]at e
  .cases e
  .cases x with
   |c4 Y=>
    cases m:wY b i with
    |none=>simp only[m]at e;cases e
    |some W=>
     simp only[m]at e;split at e
     .rename_i B;cases e;obtain⟨a,N,r,E,s3,_⟩:=yk R j;refine⟨.ref a,r,.inl ⟨J,N,fb.of E⟩,F,c,w,_,b,R,l,λv T y s q rs=>?_⟩;unfold df at rs;obtain⟨p,P,rfl,C,rs⟩:=rs;obtain⟨U,o,t,I,u,M⟩:=yk q m;rw[r]at t;cases t;refine⟨a,p,o,P,J,J,I,e?.mono q.sub C,?_,k _ _ _ s (M _ _ (w9 u rs)) AU⟩;rw[<-uW u,<- uW rs];exact xT B
     .cases e
   |_=>cases e
end
set_option tactic.hygienic false
section
variable{X:Cx}{G:Bg}{H:Hp}
def aaU{h:cE}{F:St}{s:af}{d:D}{v:V}{u:aa}(I:cb X h F H s)(hK:X.K=G.K)(hd:df G H d v)(c:dg v u)(C:∀k r e,d=.obj k r e->Nr X.K (G.ca k)):
  ∃HH:Heap->Prop,W.KitX X.K u ((tyD d).val G) HH/\HH s.heap/\u≠.builtin "__main__.__loader__#opaque" := by
 cases d with
 |J=>unfold df at hd;subst hd;cases (show u=Value.none from c);exact⟨_,rO,True.intro,λz=>nomatch z⟩
 |U x=>unfold df at hd;subst hd;cases (show u=Value.bool x from c);exact⟨_,rP,True.intro,λz=>nomatch z⟩
 |int x=>unfold df at hd;subst hd;obtain⟨t,q⟩:=(show ∃t,u=Value.int x t from c);cases q;exact⟨_,W.kitx_int,True.intro,λz=>nomatch z⟩
 |str x=>unfold df at hd;subst hd;obtain⟨t,q⟩:=(show ∃t,u=Value.str x t from c);cases q;exact⟨_,W.kitx_str,True.intro,λz=>nomatch z⟩
 |c4 e=>obtain⟨a,f,rfl,b,l⟩:=hd;cases c;rw[<-hK]at b;obtain⟨p,_,⟨o,i,j,_⟩,_⟩:=I.tuple b;exact⟨_,m8,⟨o,i,j⟩,λz=>nomatch z⟩
 |b4 e=>obtain⟨a,f,rfl,b,l⟩:=hd;cases c;obtain⟨_,_,n,_,q⟩:=(show ef X.prog X.w H s.heap a (.b4 f) from I.er a _ b);exact⟨_,i9,⟨_,q,J⟩,λz=>nomatch z⟩
 |qi e=>obtain⟨a,f,rfl,b,l⟩:=hd;cases c;rw[<-hK]at b;obtain⟨p,_,⟨o,n,i,j,_⟩,_⟩:=I.list b;exact⟨_,i9,⟨o,i,j⟩,λz=>nomatch z⟩
 |Y y e=>obtain⟨a,E,f,rfl,b,l,m⟩:=hd;cases c;obtain⟨_,_,_,S,_,o,P,N,i,j,_⟩:=(show ef X.prog X.w H s.heap a (.lb E (.dK (y.zip f))) from I.er a _ b);exact⟨_,hX,⟨o,i,j.1⟩,λz=>nomatch z⟩
 |tH y e=>obtain⟨a,f,rfl,⟨o,R,b,_,m,_⟩,_⟩:=hd;cases c;exact⟨_,hX,⟨o,(show ef X.prog X.w H s.heap a (.ext (isO a o)) from I.er a _ b).1,m.ex.1⟩,λz=>nomatch z⟩
 |obj k r e=>have ci:=C k r e J;obtain⟨a,M,f,rfl,b,l,m⟩:=hd;cases c;obtain⟨mA,B,_⟩:=E4 I.er b;obtain⟨Q,A,_⟩:=B.look;exact⟨_,W.kitx_own (ci.cl.get _) ci.cl.hd ci.ha ci.hn ci.htk ci.hm,A,λz=>nomatch z⟩
def R0(G:Bg)(cs:List Nat):bA:=cs.map λc=>.ref (G.ca c)
def Uu(G:Bg)(cs:List Nat):List aa:=cs.map λc=>.ref (G.ca c)
def Uv(cs:List Nat){a:List aa}(r:de (R0 G cs) a):a=Uu G cs:=by
 induction cs generalizing a with
 |nil=>cases r;rfl
 |cons c cs b=>
  cases r with
  |cons r d=>cases r;exact bw _ (b d)
def Qi(G:Bg)(cs:List Nat)(t:Ty->Option Bool):Prop:=(∀y b,t y=Z b->W.kitAny G.K (y.val G) (Uu G cs)=Z b)/\∀j b,t (.c j)=Z b->Nr G.K (G.ca j)
def OT{cs:List Nat}{t:Ty->Option Bool}(i:Qi G cs t)(hK:X.K=G.K:=by rfl):wM X (.builtin "isinstance") (λl H Q=>∃d x b a,l=[x,.ref a]/\H a=Z (.c4 (R0 G cs))/\df G H d x/\t (tyD d)=Z b/\Q (.U b) H):=by
 intro j s σ H l U Q I r h;obtain⟨d,x,b,a,rfl,o,hd,e,q⟩:=h;obtain⟨u,Y,rfl,E,f⟩:=za r;cases f;obtain⟨HH,AT,z,A⟩:=aaU I hK hd E λk R P y=>by subst y;rw[hK];exact i.2 k b e
 obtain⟨_,p,F,⟨⟨c,N,M,S⟩,B,C,n,q3⟩,_⟩:=(show ef X.prog X.w H s.heap a (.c4 (R0 G cs)) from I.er a _ o);cases C;cases q3;have m:=Uv cs F;subst m;exact W.kia_tup AT I.kx z B (by rw[hK];exact i.1 _ _ e) A λT=>⟨.U b,H,I.pa _,J,q⟩
def tCls(G:Bg):List Nat->TA
 |[]=>Kl
 |c::r=>Ec (tC (.ref (G.ca c))) (tCls G r)
theorem Qj:∀(cs:List Nat) (a:St) (H:Hp) (Q:bA->Hp->Prop),Q (R0 G cs) H->tCls G cs a H Q
 |[],_,_,_,h=>h
 |c::r,a,H,Q,h=>Qj r a H (λd b=>Q (.ref (G.ca c)::d) b) h
def Uw{e:Expr}{cs:List Nat}{t:Ty->Option Bool}{f:FE}(h:PE X e (Z' (λz H Q=>∃d x b m,z=[x,.ref m]/\H m=Z (.c4 (R0 G cs))/\df G H d x/\t (tyD d)=Z b/\Q (.U b) H) (Ec (tF G f) (Ec (tTup (tCls G cs)) Kl))))(y:cs.length<=1000:=by decide):PE X e (tF G (c1 (vZ t) f)):=PE.dd h λC H Q w=>by
 obtain⟨F,A,o,d,l,R,e,k⟩:=w;obtain⟨x,u,a⟩:=Fc e;unfold vZ at a;cases i:t (tyD x)with
 |none=>rw[i]at a;cases a
 |some b=>
  rw[i]at a;cases a;refine⟨F,A,o,x,l,R,u,λv B q s c r=>Qj cs _ _ _ ⟨?_,λp j=>?_⟩⟩
  .unfold R0;rw[ag];exact xT y
  .exact⟨x,v,b,p,J,uZ,df.mono (c.sub.t (vm j _)) _ _ r,i,k _ _ _ (s.t (vm (c.e4 j) _)) (c.yr j _) (xy b)⟩
end
abbrev one(j:Nat)(led pl:Bool):bF:=⟨7,#[j],#[],0,led,0,pl⟩
section
variable{prog:aB}{w:aw}{A:aG}{E:aa->af->Prop}{s:af}
abbrev TK(prog:aB)(w:aw):=ib (vv prog w)
def cls_val(n:Nat)(h:mN v=γ):iQ n v=pure δ:=by
 cases v with
 |ref a=>simp[mN]at h
 |_=>first|rfl|simp[iQ]|(unfold iQ;rfl)
def Qk(e:TK prog w s.heap j a)(h:Q δ s):ah (model prog w) A (iQ 8 (.ref a)) Q E s:=by
 have hT:=e.typeIs;obtain⟨o,items,n,i,_,hd,f⟩:=e;unfold iQ;refine ae (hG hT ?_);show ah _ _ (pure γ>>=_) _ _ s;refine ae (aq ?_);simp only[Bool.not_true,eQ,if_false];refine ae (dJ i hd ?_);refine ae ?_;show ah _ _ (forIn items _ _) _ _ s;rw[<-pC];refine mx _ (λey r d=>r.1=O/\d=s/\∀v∈ey,mN v=γ) _ ?_ ?_ _ _ ⟨J,J,f.byValue⟩
 .rintro v ey r d ⟨b,rfl,hall⟩;rw[cls_val _ (hall v ba)];refine ae (aq ?_);simp only[eQ,if_false];exact aq ⟨J,J,λu c=>hall u (bc _ c)⟩
 .rintro⟨l,m⟩ d ⟨b,rfl,_⟩;simp only at b;subst b;exact aq h
end
section
variable{prog:aB}{w:aw}{A:aG}{E:aa->af->Prop}{s:af}
def OU{a:Heap}(b:a.get? S=Z o)(hd:o.data=.set es ep t):(a.update S (ku es' t')).get? S=Z { o with data:=.set es' (ep+1) t' }:=by have:=eK (ku es' t') b (by rw[putSet_of es' t' hd];rfl);rw[putSet_of es' t' hd]at this;exact this
end
section
variable{prog:aB}{w:aw}{A:aG}{R:fT->af->Prop}{I:Addr}{fp wr:List Addr}{GG:Array fq->Array fq->Prop}{PP:Nat->aa->Prop}{SS:Nat->af->Prop}
def TK.fc{c:Heap}(t:TK prog w h f a)(e:∀o,h.get? a=Z o->c.get? a=Z o):TK prog w c f a:=by obtain⟨o,b,n,d,m⟩:=t;exact⟨o,b,n,e o d,m⟩
def Set2(h:Heap)(S:Addr)(n:Nat):Prop:=∃o a b t,h.get? S=Z o/\o.ExactSet/\o.data=.set a b t/\a.size<scanBound/\t.fits a.size=γ/\a.size=n
end
def vr:isSubtype (.type "tuple") (.type "set")=pure δ:=by rw[j7];kernel_rfl
def lr:isSubtype (.type "tuple") (.type "frozenset")=pure δ:=by rw[j7];kernel_rfl
section
variable{prog:aB}{w:aw}{A:aG}{E:aa->af->Prop}{s:af}{Q:aa->af->Prop}
abbrev Au(led:Bool):Obj:={ cls:=.type "set", dict:=O,data:=.set #[] 0 (.fresh 0 0 led) }
abbrev inK(a:List dr):dr->Bool:=λj=>(AQ a).any (λz=>decide (z=j))
structure SrcK(prog:aB)(w:aw)(h:Heap)(a:Addr)(items:Array aa)(ks:List dr):Prop where
 len:ks.length=items.size
 key:∀i v (hi:i<ks.length),items[i]?=Z v->(vv prog w).is ks[i] v=γ/\v.scannable=γ
 bnd:items.size+1<scanBound
def XG(s:af)(PS:Heap->Prop)(E:aa->af->Prop):fT->af->Prop:=
 wants (λr s2=>r=.none/\∃h2 k2,s2={ s with heap:=h2,toks:=k2 }/\PS h2/\∀b o,b<s.heap.objs.size->s.heap.get? b=Z o->h2.get? b=Z o) E
def NA(K:SrcK prog w s.heap a items ks)(hlt:a<s.heap.objs.size)
  (W:Walks prog w A.in1 (s.heap.objs.size+1) [s.heap.objs.size+1,a] [s.heap.objs.size+1] items.size (λi v=>items[i]?=Z v) SS) (st:SS 0 ((s.heap.push (Au led)).push itO))
  (hR:∀h2 k2,h2.SetOf (vv prog w) s.heap.objs.size (inK ks) (AQ ks).length->(∀b o,b<s.heap.objs.size->s.heap.get? b=Z o->h2.get? b=Z o)->R (.ok (.ret .none)) { s with heap:=h2,toks:=k2 }) (tk:Nat):
  cz (model prog w) A (.builtin "set.update.loop" ⟨[.ref s.heap.objs.size,.ref (s.heap.objs.size+1)],[]⟩) R { s with heap:=(s.heap.push (Au led)).push itO,toks:=tk }:=by
 have notin:s.heap.objs.size∉[s.heap.objs.size+1,a]:=by
  intro z;rcases aM.1 z with z|z
  .exact ar z (aT (dG _))
  .exact ar (bj.1 z) (dM hlt)
 have d:((s.heap.push (Au led)).push itO).get? s.heap.objs.size=Z (Au led):=aA _ (aX _ J);refine Ut W.toS s.heap.objs.size notin ks K.len (λi v hi m=>K.key i v hi m) K.bnd (items.size - 0) 0 _ (by omega) (cp _) st ?_ λs2 mv c=>?_
 .exact⟨_,#[],0,_,d,⟨J,J,J⟩,J,λe l=>by simp at l,λk=>by simp[AQ],by unfold scanBound;decide,by rfl,J⟩
 .obtain⟨h2,g2,d2,k2,p⟩:=s2;have h:g2=s.gens:=mv.gens;have f:d2=s.drawn:=mv.drawn;have j:p=s.os:=mv.os;subst h f j;refine hR h2 k2 c λb o hb e=>mv.heap b o (λz=>?_) (aA _ (aA _ e));rcases aM.1 z with z|z
  .exact ar z (aT hb)
  .exact ar (bj.1 z) (aT (eU hb))
theorem OV(a:aa)(h:Q₁ (.ref s.heap.objs.size) { s with heap:=s.heap.push (Au (!w.params.followText "set-order")) }):
  cz (model prog w) A (.call (.builtin "set.__new__") ⟨[.type "set", a],[]⟩) (wants Q₁ E) s:=by
 refine qv ?_;show ah _ A.in1 (do checkBuiltinCall "set.__new__" ⟨[.type "set", a],[]⟩;again (.builtin "set.__new__" ⟨[.type "set", a],[]⟩)) _ _ s;refine ae (nD (F.newCall_set_1 a) (aq ⟨eX qw _,dw F.entry_set_new ?_⟩));rw[dE qw _];unfold cP.«set.__new__» sS;have hsub:=sub_set_self;obtain⟨b,g,d,tk,os⟩:=s;dsimp only
 wp_walk
 refine mB (aq ?_);dsimp only;simp only[newObj];refine ae (wpAny_alloc (aq ?_));exact aq h
theorem Fo{PS:Heap->Prop}(q:s.heap.get? a=Z o)(z:o.cls=.type T)
  (P:isSubtype (.type T) (.type "set")=pure δ) (S:isSubtype (.type T) (.type "frozenset")=pure δ) (U:(Value.type T==Value.type "dict")=δ)
  (itr:∀(A:aG) (Q:aa->af->Prop) (E:aa->af->Prop) (d:af),d.heap.get? a=Z o->Q (.ref d.heap.objs.size) { d with heap:=d.heap.push itO }->ah (model prog w) A (pyIter (.ref a)) Q E d)
  (fil:∀tk (R:fT->af->Prop),(∀h2 k2,PS h2->(∀b o,b<s.heap.objs.size->s.heap.get? b=Z o->h2.get? b=Z o)->R (.ok (.ret .none)) { s with heap:=h2,toks:=k2 })->
   cz (model prog w) A.in1.in1 (.builtin "set.update.loop" ⟨[.ref s.heap.objs.size,.ref (s.heap.objs.size+1)],[]⟩) R { s with heap:=(s.heap.push (Au (!w.params.followText "set-order"))).push itO,toks:=tk })
  (h:∀h2 k2,PS h2->(∀b o,b<s.heap.objs.size->s.heap.get? b=Z o->h2.get? b=Z o)->Q (.ref s.heap.objs.size) { s with heap:=h2,toks:=k2 }):
  ah (model prog w) A (call (.type "set") [.ref a]) Q E s:=by
 have hlt:a<s.heap.objs.size:=aL q;obtain⟨c,N,hmro⟩:=fQ.mro;have made:=fQ.made;have subs:=fQ.sub;refine kq (qv ?_);show ah _ _ (callAny (.type "set") _) _ _ _;refine aq ⟨Code.quiet_builtin _ (by decide +kernel),dw F.entry_type_call ?_⟩;rw[Around.under_plain (weight_type_call_type "set" [.ref a] []) J];have H:=fQ.notType;have I:=fQ.canCreate;have M:=F.typeCall_set_1 (.ref a)
 repeat (any_goals (first|assumption|wp_step))
 let led:Bool:=!w.params.followText "set-order";refine hE (OV (.ref a) (E:=E) (Q₁:=λv d=>v=.ref s.heap.objs.size/\d={ s with heap:=s.heap.push (Au led) }) ⟨J,J⟩) λr d hr=>?_;cases r with
 |error e=>exact hr
 |ok y=>
  cases y with
  |ret v=>
   obtain⟨rfl,rfl⟩:=hr;have t:(s.heap.push (Au led)).get? s.heap.objs.size=Z (Au led):=aX _ J;have m:mV { s with heap:=s.heap.push (Au led) } (.ref s.heap.objs.size) "set" := ⟨_,t,J⟩;have C:=fQ.init.lookup;have G:=fQ.init.bind (.ref s.heap.objs.size)
   repeat (any_goals (first|assumption|wp_step))
   refine hE (oW (R:=XG s PS E) fQ.init.plain F.entry_set_init (check_set_init_1 m ?_)) λB s2 f=>?_
   .obtain⟨oc,od,oda,osl⟩:=o;cases z;have u:(s.heap.push (Au led)).get? a=Z { cls:=.type T,dict:=od,data:=oda,slots:=osl }:=aA _ q;unfold cP.«set.__init__» noKeywords sO;generalize gP:pyIter=PP
    wp_walk
    subst gP;refine itr _ _ _ _ u ?_;refine ae (qO ?_);have x:(s.heap.push (Au led)).objs.size=s.heap.objs.size+1:=cy _ _;show cz _ _ (.builtin "set.update.loop" ⟨[.ref s.heap.objs.size,.ref (s.heap.push (Au led)).objs.size],[]⟩) _ _;rw[x];refine fil _ _ λh2 k2 i l=>?_;show ah _ _ _ _ _ _;refine aq ?_;show ah _ _ (ret Value.none) _ _ _;exact aq ⟨J,h2,k2,J,i,l⟩
   .cases B with
    |error e=>exact f
    |ok j=>
     cases j with
     |ret r=>
      obtain⟨rfl,h2,k2,rfl,i,l⟩:=f
      repeat (any_goals (first|assumption|wp_step))
      exact h _ _ i l
     |_=>exact f.elim
  |_=>exact hr.elim
end
section
variable{X:Cx}{G:Bg}{H:Hp}{pins:cE}{σ:St}{s:af}
def Ux(h:(vv P w).is k v=γ):v.scannable=γ:=by rcases wt h with ⟨i,t,_,rfl⟩|⟨x,t,_,rfl⟩<;>rfl
def Uy{b:List dr}(r:de (b.map kV) c)(o:b.length+1<scanBound):SrcK X.prog X.w s.heap a c.toArray b:=by
 have l:=by have:=r.length;rw[ag]at this;exact this
 refine⟨by rw[bb];exact l,λi v j f=>?_,by rw[bb];omega⟩;have e:(b.map kV)[i]?=Z (kV b[i]):=by rw[bx,bh j];rfl
 obtain⟨u,d,m⟩:=r.get e;have h:=by rw[iB]at f;rw[f]at d;exact cJ d
 subst h;have:=G6 (P:=X.prog) (w:=X.w) m;exact⟨this,Ux this⟩
def Ql{c:List dr}(I:cb X pins σ H s)(h:e? X.K H a (c.map kV)):TK X.prog X.w s.heap c a:=by
 obtain⟨b,r,p,_⟩:=I.tuple h;obtain⟨o,i,f,n,hd⟩:=p;refine⟨o,_,n,i,f,hd,?_⟩;have nr:∀(c:List dr) (b:List aa),de (c.map kV) b->PySem.ItemsAre (vv X.prog X.w) c b:=λc=>by
  induction c with
  |nil=>intro b r;cases r;exact .nil
  |cons k c j=>intro b r;cases r with|cons d e=>exact .cons (G6 d) (j _ e)
 exact nr c b r
def SrcO(K:av)(H:Hp)(a:Addr)(n:Nat):Prop:=∃b,(fb K H a (b.map kV)\/e? K H a (b.map kV))/\b.length+1<scanBound/\n=(AQ b).length
def SetV(X:Cx)(S:av->Hp->Addr->Nat->Prop):Prop:=∀{pins:cE} {σ:St} {H:Hp} {s:af} {A:aG} {E:aa->af->Prop} {Q:aa->af->Prop} {a:Addr} {n:Nat},cb X pins σ H s->A.handled=O->A.units+8<cLine->S X.K H a n->
 (∀h2 k2,Set2 h2 s.heap.objs.size n->(∀b o,b<s.heap.objs.size->s.heap.get? b=Z o->h2.get? b=Z o)->Q (.ref s.heap.objs.size) { s with heap:=h2,toks:=k2 })->ah (model X.prog X.w) A (call (.type "set") [.ref a]) Q E s
def aek:SetV X (SrcO):=by
 intro pins σ H s A E Q a n I M U i h;have u:A.in1.in1.in1.handled=O:=by simp[M]
 have q:∀{f:Heap} {j:List dr},f.SetOf (vv X.prog X.w) s.heap.objs.size (inK j) (AQ j).length->Set2 f s.heap.objs.size (AQ j).length:=λS=>by obtain⟨o,C,B,t,b,hex,hd,_,_,P,F,N⟩:=S;exact⟨o,C,B,t,b,hex,hd,P,F,N⟩
 have y:∀{o:Obj} {led:Bool},o.isFreed=δ->((s.heap.push (Au led)).push o).get? (s.heap.objs.size+1)=Z o:=λ{o led} z=>by rw[show s.heap.objs.size+1=(s.heap.push (Au led)).objs.size from(cy _ _).symm];exact aX _ z
 obtain⟨j,i|i,x,rfl⟩:=i
 .obtain⟨d,r,p,_⟩:=I.list i;obtain⟨o,b,c,n,hd⟩:=p.isList;have hne:=aT (eU (aL b));refine Fo b c mO l7 (by decide)
   (λA Q E T e k=>fG ⟨o,e,c,n,hd⟩ k) (λm R hR=>NA (Uy r x) (aL b) (jf u _ a hne d.toArray) ⟨⟨_,y J,J,J⟩,⟨o,aA _ (aA _ b),c,n,hd⟩⟩ (λf l S=>hR f l (q S)) m) h
 .obtain⟨d,r,p,_⟩:=I.tuple i;obtain⟨o,b,c,n,hd⟩:=p;have hne:=aT (eU (aL b));refine Fo b c vr lr (by decide)
   (λA Q E T e k=>jM ⟨o,e,c,n,hd⟩ k) (λm R hR=>NA (Uy r x) (aL b) (rT u _ a hne d.toArray) ⟨⟨_,y J,J,J⟩,⟨o,aA _ (aA _ b),c,n,hd⟩⟩ (λf l S=>hR f l (q S)) m) h
def Qm(S:av->Hp->Addr->Nat->Prop)(K:av)(c:TE):TE:=λσ H Q=>c σ H λx b=>∃a n,x=.ref a/\S K b a n/\Q (.int n) b
def R7{p2 p3:Pos}(hV:SetV X S)(P:X.A.units+64<cLine)(p:X.j0=γ)(g1:Gl X "len")(C:X.mg "len" = O)(g2:Gl X "set")(E:X.mg "set" = O)(r:PE X e N)
  (f:az [Expr.Call (.Name "set" p2) [e] [] p3] X.b3=[(δ,eval (.Call (.Name "set" p2) [e] [] p3) X.b3)]:=by rfl) (i:az [e] X.b3=[(δ,eval e X.b3)]:=by rfl):PE X (.Call (.Name "len" R) [.Call (.Name "set" p2) [e] [] p3] [] T) (Qm S X.K N):=by
 intro pins s σ H Q I h;refine dS (Be I g1 C mQ ?_ (by decide) (by decide));refine callWith_builtin1 ?_ f J;rw[f];refine eO ?_;refine dS (Be I g2 E rU ?_ (by decide) (by decide));refine callWith_type1 (e0 (w6 r z6 i p3 pins s σ H (λvs H1=>match vs with
  |[x]=>∃a n,x=.ref a/\S X.K H1 a n/\Q (.int n) H1
  |_=>False) I h) λus M ⟨vs,H1,c,r1,d⟩=>?_) i J
 match vs,r1,d with
 |[x],r1,d=>
 obtain⟨a,n,m,y,q⟩:=d;subst m;obtain⟨u,rfl,F⟩:=gk r1;cases F;refine hV c (c.ok.hd p) (by omega) y λh2 k2 l B=>?_;refine gb ?_;obtain⟨o,es,ep,t,w,hex,hd,z,hf,hn⟩:=l;have j:cb X pins σ H1 { M with heap:=h2,toks:=k2 }:=c.fc λb o e=>B b o (aL e) e;refine call_len_set w hex hd hf (by unfold scanBound at z;omega) ⟨.int n,H1,j.pa _,⟨_,by rw[hn]⟩,q⟩
def Eg:aY->Option (List dr)
 |[]=>Z []
 |d::a=>match BD d,Eg a with
  |some k,Z b=>Z (k::b)
  |_,_=>O
theorem DV:∀{a:aY} {c:bA} {ks:List dr},b? G H a c->Eg a=Z ks->c=ks.map kV
 |[],c,ks,r,e=>by cases e;unfold b? at r;exact r
 |d::a,c,ks,r,e=>by
  unfold Eg at e;cases b:BD d with
  |none=>rw[b]at e;cases e
  |some k=>
   cases f:Eg a with
   |none=>rw[b,f]at e;cases e
   |some j=>rw[b,f]at e;cases e;obtain⟨v,l,rfl,h,i⟩:=r;rw[B4 h b,DV i f];rfl
def xQ(b:aY):Option D:=match Eg b with
 |some a=>if a.length<=1000 then Z (.int (AQ a).length)else O
 |none=>O
def Fp(g:aY->Option D):D->Option D
 |.b4 a=>match xQ a with
  |some r=>Z r
  |none=>g a
 |.c4 a=>xQ a
 |.qi a=>xQ a
 |_=>O
def XH(h:xQ a=Z r):Fp g (.b4 a)=Z r:=by show (match xQ a with|some r=>Z r|none=>g a)=Z r;rw[h]
set_option tactic.hygienic true
def OW(hK:X.K=G.K)(hO:∀{H a n},SrcO X.K H a n->S X.K H a n)
  (E:∀{c d m b a i},g c=Z d->fb X.K b a i->b? G m c i->ve m b->∃n:Nat,S X.K b a n/\d=.int n)
  (h:PE X e (Qm S X.K (tF G f))):PE X e (tF G (c1 (Fp g) f)):=PE.dd h λσ H Q I=>by
 obtain⟨F,N,z,d,u,R,e,k⟩:=I;obtain⟨x,B,l⟩:=Fc e;have key:∀{c:aY} {i:bA} {a:Addr} {m b:Hp},xQ c=Z d->b? G m c i->ve z m->c3 G F σ u m b->(fb X.K b a i\/e? X.K b a i)->
   ∃A n,V.ref a=.ref A/\S X.K b A n/\Q (.int n) b:=λ{c i a m b} o rs s j t=>by
  unfold xQ at o;cases y:Eg c with
  |none=>rw[y]at o;cases o
  |some M=>
   rw[y]at o;simp only at o;split at o
   .rename_i P;cases o;rw[DV rs y]at t;exact⟨a,_,J,hO ⟨M,t,by unfold scanBound;omega,J⟩,k _ _ _ s j (xa _)⟩
   .cases o
 refine⟨F,N,z,x,u,R,B,λv m b s j r=>?_⟩;cases x with
 |b4 c=>
  obtain⟨a,i,rfl,p,q⟩:=r;have t:fb X.K b a i:=fb.of (j.sub _ _ p);replace l:(match xQ c with|some r=>Z r|none=>g c)=Z d:=l;cases w:xQ c with
  |some r=>rw[w]at l;cases l;exact key w q s j (.inl t)
  |none=>rw[w]at l;obtain⟨n,C,rfl⟩:=E l t q j.sub;exact⟨a,n,J,C,k _ _ _ s j (xa _)⟩
 |c4 c=>obtain⟨a,i,rfl,p,q⟩:=r;rw[<-hK]at p;exact key l q s j (.inr (e?.mono j.sub p))
 |qi c=>obtain⟨a,i,rfl,p,q⟩:=r;rw[<-hK]at p;exact key l q s j (.inl (j.sub.seq p))
 |_=>cases l
end
set_option tactic.hygienic false
def Qn(h:(vv P w).is k v=γ):dg (kV k) v:=by
 rcases wt h with ⟨i,t,rfl,rfl⟩|⟨x,t,rfl,rfl⟩
 .exact⟨t,J⟩
 .exact⟨t,J⟩
def Itd(a:Addr)(o:Obj)(kvs:List (dr×V)):It:=
 ⟨λi H=>i<kvs.length/\H a=Z (.lb o (.dK kvs)),λi H x b=>b=H/\∃k z,kvs[i]?=Z (k,z)/\x=kV k,λi H=>kvs.length<=i/\H a=Z (.lb o (.dK kvs))⟩
section
variable{X:Cx}{pins:cE}{σ:St}{H:Hp}{s:af}
def Hl(I:cb X pins σ H s)(e:H a=Z (.lb o (.dK kvs)))(hd:o.data=.dict i f):
  (a==cU)=δ/\s.heap.get? a=Z o/\∃b,KV kvs b/\s.heap.DictAt (vv X.prog X.w) a b f:=by
 obtain⟨c,_,y,b,r,p,j,h,d,l,q3,m⟩:=(show ef X.prog X.w H s.heap a (.lb o (.dK kvs)) from I.er a _ e);rw[c]at d;cases d;rw[hd]at q3;cases q3;exact⟨y,c,b,r,o,i,c,l,hd,m⟩
def aaY{kvs:List (dr×V)}{a:List (dr×aa)}(r:KV kvs a){i:Nat}{k:dr}{x:aa}(e:a[i]?=Z (k,x)):∃z,kvs[i]?=Z (k,z):=by
 induction r generalizing i with
 |nil=>cases e
 |@cons p q l c h _ b=>
  cases i with
  |zero=>obtain⟨pk,pv⟩:=p;cases e;exact⟨pv,by rw[show pk=k from h.1];rfl⟩
  |succ i=>exact b e
end
def R8{K:av}(a it:Addr)(o:Obj)(kvs:List (dr×V)):O? P w K tg (Itd a o kvs) [it] it (λi h=>∃es ep,o.data=.dict es ep/\h.IsKeyIter it a i kvs.length ep) where
 mem:=by simp
 obj:=λi h st b hb=>by
  have e:=by simpa using hb
  subst e;obtain⟨es,ep,hd,ob,e,c,d⟩:=st;exact⟨ob,e,λv z=>by rw[d]at z;cases z⟩
 keep:=λi h h' st k=>by obtain⟨es,ep,hd,x⟩:=st;exact⟨es,ep,hd,x.at λo e=>k it (by simp) o e⟩
 item:=by
  intro X hP hw hK A i pins s σ H E I hf st hg;subst hP hw hK;obtain⟨hi,p⟩:=hg;obtain⟨es,ep,hd,m⟩:=st;obtain⟨j,q,G,t,u,y⟩:=hf it (by simp);obtain⟨_,_,vs,r,da⟩:=Hl I p hd;have l:=r.length;have hne:a≠it:=λz=>by subst z;rw[p]at j;cases j
  have W:=Walks.dictKeys (knd:=vv X.prog X.w) (I.ok.hd A) it a hne vs ep;refine W.item i s _ _ (by omega) ⟨by rw[<-l];exact m,da⟩ λv h' tk N B S=>?_;obtain⟨k,x,Q,M⟩:=N;obtain⟨z,R⟩:=aaY r Q;have C:cb X pins σ H { s with heap:=h',toks:=tk }:=I.gh (λb o hb e=>S b o (by simpa using hb) e) j q t u y;obtain⟨f,_⟩:=B;rw[<-l]at f;obtain⟨ob,e,c,d⟩:=id f;exact⟨v,J,PF e c d (by decide) ⟨kV k,H,C,Qn M,⟨J,k,z,R,J⟩,⟨es,ep,hd,f⟩,λb hb=>(hf b hb).1⟩⟩
 done:=by intro X hP hw hK A i pins s σ H E I hf st hg;subst hP hw hK;obtain⟨hi,p⟩:=hg;obtain⟨es,ep,hd,m⟩:=st;obtain⟨j,q,G,t,u,y⟩:=hf it (by simp);obtain⟨_,_,vs,r,da⟩:=Hl I p hd;have l:=r.length;exact wpAny_pyNext_dict_end (I.ok.hd A) (by rw[<-l];exact m) da (gQ (by rw[<-l];exact hi)) λh' F=>⟨J,I.gh (λb o hb e=>F b o hb e) j q t u y⟩
 self:=λ_ _ _ _ _ st h=>by obtain⟨es,ep,hd,m⟩:=st;exact wpAny_pyIter_keyiter m h
section
variable{X:Cx}{G:Bg}{tg:Expr}
def iDic(c:TE):TI:=λd H R=>c d H λx b=>∃a o kvs,x=.ref a/\b a=Z (.lb o (.dK kvs))/\R (Itd a o kvs) b
def XI(f:PE X l N):PI X tg l (iDic N):=by
 intro c s P H R I h;refine e0 (f c s P H _ I h) λv i zz=>?_;obtain⟨x,j,d,M,F⟩:=zz;obtain⟨a,o,kvs,e,E,q⟩:=F;subst e;cases M;obtain⟨u,_,y,S,r,Q,t,B,m,z,p,A⟩:=(show ef X.prog X.w j i.heap a (.lb o (.dK kvs)) from d.er a _ E);rw[u]at m;cases m;have f:=r.length;refine wpAny_pyIter_dict y ⟨o,t,u,z,p,A⟩ ?_;refine⟨i.heap.objs.size,[i.heap.objs.size],_,_,j,J,d.fc λb o e=>aA _ e,R8 a _ o kvs,⟨t,B,p,⟨_,aX _ J,J,by rw[f];rfl⟩⟩,λb C=>?_,q⟩;have e:=by simpa using C
 subst e;exact d.K3 (aJ _) (d.er.fresh (aJ _))
def keyV:dr->D
 |.inl i=>.int i
 |.inr x=>.str x
def XJ(k:dr):df G H (keyV k) (kV k):=by
 cases k with
 |inl i=>exact xa i
 |inr x=>exact zB x
def iD(f:FE):FA:=λd=>match f d with
 |some (.Y b c,a)=>if b.length=c.length then Z (b.map keyV,a)else O
 |_=>O
set_option tactic.hygienic true
def Uz(h:PI X tg e (iDic (tF G f))):PI X tg e (O' G (iD f)):=PI.dd h λσ H R Q=>by
 obtain⟨F,Y,B,ds,ρ',R,e,k⟩:=Q;unfold iD at e;split at e
 .rename_i p M ρ1 N;split at e
  .rename_i x;cases e;refine⟨F,Y,B,_,_,R,N,λv H1 C s w r=>?_⟩;obtain⟨a,o,W,rfl,q,U,r3⟩:=r;have A:(p.zip W).length=p.length:=by rw[iY,<- U,i7]
   refine⟨a,o,_,J,w.sub _ _ q,k _ _ _ s w λi E I t u=>⟨λd c=>?_,λT=>?_⟩⟩
   .rw[bx]at c;cases m:p[i]? with
    |none=>rw[m]at c;cases c
    |some j=>
     rw[m]at c;cases c;have S:=(bX.1 m).1;refine⟨⟨by rw[A];exact S,u _ _ (t _ _ q)⟩,λz H3 y=>?_⟩;obtain⟨P,k',z',l,rfl⟩:=y;subst P;have:=by rw[List.getElem?_zip_eq_some]at l;have:=l.1;rw[m]at this;exact(cJ this).symm
     subst this;exact⟨E,ve.refl _,u,ve.refl _,λb o e=>.inl e,XJ _⟩
   .refine⟨by rw[A,T,ag];exact aJ _,u _ _ (t _ _ q)⟩
  .cases e
 .cases e
end
set_option tactic.hygienic false
section
variable{X:Cx}{pins:cE}{σ:St}{H:Hp}{s:af}
def cb.P0{h':Heap}{T:Addr}{xs:bA}{t':Nat}{ch:List Addr}(I:cb X pins σ H s)(hf:∀b∈ch,Kk X pins H b)(k:∀b o,b∉ch->s.heap.get? b=Z o->h'.get? b=Z o)
  (hT:s.heap.objs.size<=T) (new:ef X.prog X.w (eg H T (.c4 xs)) h' T (.c4 xs)):cb X pins σ (eg H T (.c4 xs)) { s with heap:=h',toks:=t' }:=by
 have nT:H T=O:=I.er.fresh hT;have ne:∀{b:Addr} {u:HO},H b=Z u->b≠T:=λe z=>by subst z;rw[nT]at e;cases e
 have nch:∀{b:Addr} {u:HO},H b=Z u->b∉ch:=λe z=>by have:=(hf _ z).1;rw[e]at this;cases this
 have lt:∀{b:Addr} {o:Obj},s.heap.get? b=Z o->b≠T:=λe z=>by subst z;exact ar (ck (aL e) hT) (d8 _)
 refine I.step (g':=s.gens) (d':=s.drawn) (ch:=ch) (λb hb=>?_) (λb o y y a e y=>k b o a e) (λb o y y a e y=>⟨o.slots,k b o a e⟩) (λb o y e n=>by rw[vb (lt e)];exact n) (λb o a e=>⟨o,k b o a e⟩)
  (λb j e=>by rw[vb (ne e)];exact e) (λb o u e=>by rw[vb (ne e)];exact e) (λb ps e=>⟨#[],by rw[vb (ne e),e];simp⟩) (λm hm=>?_) (λb u e=>?_) I.gi
 .obtain⟨p,d,r,f,h,i⟩:=hf b hb;exact⟨f,d,h,i⟩
 .exact hm.at' λo e=>k _ o (λz=>(hf _ z).2.1 J) e
 .by_cases hb:b=T
  .subst hb;rw[uZ]at e;cases e;exact new
  .rw[vb hb]at e;refine(I.er b u e).H4 (λc v a q=>k c v ?_ q) (λc q=>by rw[vb (ne q)];exact q) λc j q=>by rw[vb (ne q)];exact q
   rcases a with rfl|a
   .exact nch e
   .exact nch a
end
structure aa0(z TI TO i1 i2:Addr):Prop where
 a:TI≠z
 b:TO≠z
 c:i1≠z
 d:i2≠z
 e:TI≠TO
 f:TI≠i1
 g:TI≠i2
 h:TO≠i1
 i:TO≠i2
 j:i1≠i2
def aa1(n:Nat):aa0 (n+4) (n+2) (n+3) n (n+1) where
 a:=(by omega:(n+2:Nat)≠n+4)
 b:=(by omega:(n+3:Nat)≠n+4)
 c:=(by omega:(n:Nat)≠n+4)
 d:=(by omega:(n+1:Nat)≠n+4)
 e:=(by omega:(n+2:Nat)≠n+3)
 f:=(by omega:(n+2:Nat)≠n)
 g:=(by omega:(n+2:Nat)≠n+1)
 h:=(by omega:(n+3:Nat)≠n)
 i:=(by omega:(n+3:Nat)≠n+1)
 j:=(by omega:(n:Nat)≠n+1)
section
variable{X:Cx}{G:Bg}{elts:List Expr}{x1:Nat}{tpos:Pos}
def OX(a b:aY):aY:=fP (λd e=>D.c4 [d,e]) a b
def UA(a b:aY):(OX a b).length=min a.length b.length:=by unfold OX;rw[jK]
end
mutual
def vu(N c:Nat):D->Bool
 |.J=>γ
 |.U _=>γ
 |.int _=>γ
 |.str _=>γ
 |.c4 a=>z7 N c a
 |.b4 a=>z7 N c a
 |.qi a=>z7 N c a
 |.obj k _ a=>decide (k<N)&&decide (k≠c)&&z7 N c a
 |.Y _ a=>z7 N c a
 |.tH _ a=>z7 N c a
def z7(N c:Nat):aY->Bool
 |[]=>γ
 |d::a=>vu N c d&&z7 N c a
end
def without(H:Hp)(a:Addr):Hp:=λb=>if b=a then O else H b
def Jt{H:Hp}{a b:Addr}(h:b≠a):without H a b=H b:=by unfold without;rw[ak h]
def Fq{H:Hp}{a b:Addr}{o:HO}(h:without H a b=Z o):b≠a/\H b=Z o:=by
 unfold without at h;by_cases c:b=a
 .rw[aj c]at h;cases h
 .rw[ak c]at h;exact⟨c,h⟩
def xY{H:Hp}{a b:Addr}{u v:HO}(e:H a=Z u)(c:H b=Z v)(d:u≠v):without H a b=Z v:=by rw[Jt (λz=>by subst z;rw[e]at c;exact d (cJ c))];exact c
section
variable{G:Bg}{H:Hp}{a dx:Addr}{fs:List (Str×V)}{N c:Nat}
def Hm(b:H a=Z (.ka (G.ca c) dx fs)){p:Addr}{d:bA}(h:e? G.K H p d):e? G.K (without H a) p d:=by
 rcases h with (h|⟨o,h⟩)|h
 .exact .inl (.inl (xY b h (λz=>nomatch z)))
 .exact .inl (.inr ⟨o,xY b h (λz=>nomatch z)⟩)
 .exact .inr h
def NB(b:H a=Z (.ka (G.ca c) dx fs)){p:Addr}{d:bA}(h:fb G.K H p d):fb G.K (without H a) p d:=by
 rcases h with (h|⟨o,h⟩)|h
 .exact .inl (.inl (xY b h (λz=>nomatch z)))
 .exact .inl (.inr ⟨o,xY b h (λz=>nomatch z)⟩)
 .exact .inr h
mutual
theorem Hn(inj:∀j k,j<N->k<N->G.ca j=G.ca k->j=k)(t:c<N)(i:H a=Z (.ka (G.ca c) dx fs)):∀(d:D) (v:V),vu N c d=γ->df G H d v->df G (without H a) d v
 |.J,v,_,h=>by unfold df at h ⊢;exact h
 |.U _,v,_,h=>by unfold df at h ⊢;exact h
 |.int _,v,_,h=>by unfold df at h ⊢;exact h
 |.str _,v,_,h=>by unfold df at h ⊢;exact h
 |.c4 l,v,n,h=>by obtain⟨p,f,e,m,r⟩:=h;exact⟨p,f,e,Hm i m,xC inj t i l f n r⟩
 |.b4 l,v,n,h=>by obtain⟨p,f,e,m,r⟩:=h;exact⟨p,f,e,xY i m (λz=>nomatch z),xC inj t i l f n r⟩
 |.qi l,v,n,h=>by obtain⟨p,f,e,m,r⟩:=h;exact⟨p,f,e,NB i m,xC inj t i l f n r⟩
 |.obj k M l,v,n,h=>by unfold vu at n;simp only[aU,bY]at n;obtain⟨p,w,f,e,m,r,u⟩:=h;refine⟨p,w,f,e,xY i m (λz=>?_),r,xC inj t i l f n.2 u⟩;injection z with I;exact n.1.2 (inj k c n.1.1 t I.symm)
 |.Y E l,v,n,h=>by obtain⟨p,o,f,e,m,r,u⟩:=h;exact⟨p,o,f,e,xY i m (λz=>nomatch z),r,xC inj t i l f n u⟩
 |.tH E l,v,n,h=>by obtain⟨b,f,rfl,⟨o,F,m,r,u,x,y,A⟩,B⟩:=h;exact⟨b,f,J,⟨o,F,xY i m (λz=>nomatch z),r,u,x,λq C=>Hm i (y q C),A⟩,xC inj t i l f n B⟩
theorem xC(inj:∀j k,j<N->k<N->G.ca j=G.ca k->j=k)(l:c<N)(i:H a=Z (.ka (G.ca c) dx fs)):∀(b:aY) (f:bA),z7 N c b=γ->b? G H b f->b? G (without H a) b f
 |[],f,_,h=>by unfold b? at h ⊢;exact h
 |d::b,f,n,h=>by unfold z7 at n;simp only[aU]at n;obtain⟨v,r,e,m,o⟩:=h;exact⟨v,r,e,Hn inj l i d v n.1 m,xC inj l i b r n.2 o⟩
end
end
def EE:Sl->Sl
 |.I d=>.I d
 |_=>.un
def Eh(N:Nat)(f:FE):FE:=λa=>match a with
 |.ob c e b::r=>match f (.I (.obj c e b)::r.map EE)with
  |some (d,_)=>if (decide (c<N)&&vu N c d)=γ then Z (d,a)else O
  |none=>O
 |_=>O
section
variable{X:Cx}{G:Bg}
def OY{s:Sl}:(EE s).fl=δ:=by cases s<;>rfl
set_option tactic.hygienic true
def XM{e:Expr}{f:FE}{N:Nat}(inj:∀j k,j<N->k<N->G.ca j=G.ca k->j=k)(h:PE X e (tF G f)):PE X e (tF G (Eh N f)):=PE.dd h λσ H Q E=>by
 obtain⟨F,ρ,H0,d,ρ',R,e,k⟩:=E;unfold Eh at e;split at e
 .rename_i c ns ds r;rcases vB (f:=f) (ρ:=.I (.obj c ns ds)::r.map EE)with w|⟨x,y,w⟩<;>simp only[w]at e
  .cases e
  split at e
  .rename_i hn;cases e;simp only[aU,bY]at hn;obtain⟨a,dx,xs,h1,h2,h3,h4,h5,h6⟩:=R.sl 0 _ J;have RL:c3 G ⟨eg H0 a (.ka (G.ca c) dx (ns.zip xs)),H,[]⟩ σ (.I (.obj c ns ds)::r.map EE) (eg H0 a (.ka (G.ca c) dx (ns.zip xs))) H:={
    sub:=λb o q=>by
     by_cases hb:b=a
     .subst hb;rw[uZ]at q;cases q;exact h2
     .rw[vb hb]at q;exact R.sub _ _ q
    g0:=ve.refl _
    keep:=λb o q _=>q
    fr:=λb o q=>.inl q
    am:=λb q=>by cases q
    len:=by have:=R.len;simpa using this
    sl:=λi s q=>by
     cases i with
     |zero=>cases q;exact⟨.ref a,h1,by unfold df;exact⟨a,dx,xs,J,uZ,h5,b?.mono (vm h3 _) _ _ h6⟩⟩
     |succ i=>
      have l:(r.map EE)[i]?=Z s:=q;rw[bx]at l;cases m:r[i]? with
      |none=>rw[m]at l;cases l
      |some t=>
       rw[m]at l;cases l;have ok:=R.sl (i+1) t m;cases t with
       |I d=>obtain⟨v,g1,g2⟩:=ok;exact⟨v,g1,df.mono (vm h3 _) _ _ g2⟩
       |_=>trivial
    ap:=λi j s t b _ A _ so=>by
     cases i with
     |zero=>cases A;cases so
     |succ i=>
      have l:(r.map EE)[i]?=Z s:=A;rw[bx]at l;cases m:r[i]? with
      |none=>rw[m]at l;cases l
      |some t=>rw[m]at l;cases l;rw[OY]at so;cases so }
   refine⟨_,_,_,d,y,RL,w,λv H1 p s u I=>?_⟩;have ha:=s _ _ uZ;have B:ve H0 (without H1 a):=λb o q=>by
    have hb:b≠a:=λz=>by subst z;rw[h3]at q;cases q
    rw[Jt hb];exact s b o (by rw[vb hb];exact q)
   refine k v (without H1 a) p B ?_ (Hn inj hn.1 ha d v hn.2 I);refine R.ff (λb o q=>u.keep b o q (by simp)) B (λb o q=>u.sub _ _ (Fq q).2) λb o q=>?_;obtain⟨hb,q⟩:=Fq q;rcases u.fr b o q with z|z
   .have C:eg H0 a (.ka (G.ca c) dx (ns.zip xs)) b=Z o:=z;rw[vb hb]at C;exact .inl C
   .exact .inr z
  .cases e
 .cases e
end
set_option tactic.hygienic false
section
variable{X:Cx}{pins:cE}{σ:St}{H:Hp}{s:af}{a:Addr}{A:aG}{E:aa->af->Prop}
theorem aa2(I:cb X pins σ H s)(e:H a=Z (.dK kvs))(M:dg (kV k) u)(N:dg z r)(P:kvs.length<aF)
  (l:∀v w f,yL kvs k=Z v->cb X pins σ H f->dg v w->Q w f) (m:∀f,yL kvs k=O->cb X pins σ (eg H a (.dK (j? kvs k z))) f->Q r f):
  ah (model X.prog X.w) A (call (.builtin "dict.setdefault") [.ref a,u,r]) Q E s:=by
 obtain⟨y,hd,i,rel,h⟩:=YO I.er e;have G:i.length<=aF:=by rw[<-rel.length];exact y
 have t:(j? kvs k z).length<=aF:=by have:=CW kvs k z;omega
 have b:=rel.val k;refine hJ oK h.typeIs F.entry_dict_setdefault (F.args_dict_setdefault_3 _ _ _) (kt_meets_setdefault (vv X.prog X.w) a (G6 M) hd r) ⟨i,h,G,λw C=>?_,λp j d B=>?_⟩
 .rw[C]at b;cases c:yL kvs k with
  |none=>rw[c]at b;exact b.elim
  |some v=>rw[c]at b;exact l v w _ c (I.pa _) b
 .rw[p]at b;cases c:yL kvs k with
  |some v=>rw[c]at b;exact b.elim
  |none=>have o:∃q,j.get? a=Z q:=let ⟨q,_,_,x,_⟩:=d;⟨q,x⟩;exact m _ c (LS I (by rw[e];exact True.intro) B o (Tg t hd (rel.put k N) d))
def UB(e ty f:TE):TE:=λσ H Q=>e σ H λx c=>∃a,x=.ref a/\IsD c a/\ty σ c λy d=>f σ d λz b=>∃kvs k,b a=Z (.dK kvs)/\y=kV k/\kvs.length<aF/\
 (∀v,yL kvs k=Z v->Q v b)/\(yL kvs k=O->Q z (eg b a (.dK (j? kvs k z))))
theorem UC(U:PE X o td)(R:PE X e ty)(S:PE X f tx)(m:M2 X o "setdefault" apos e f cpos):PE X (.Call (.Attribute o "setdefault" apos) [e,f] [] cpos) (UB td ty tx):=by
 intro pins s σ H Q I h;refine jQ m.b1 m.few m.line jR oK F.type_dict_setdefault (e0 (U pins s σ H _ I h) λu s1 zz=>?_);obtain⟨x,p,j,rx,a,G,d,W⟩:=zz;subst G;obtain rfl:u=Value.ref a:=rx;obtain⟨t1,t2,_⟩:=LU j d;refine⟨t1,t2,?_⟩;rw[m.Hs];refine iz J (iF (eO (e0 (R pins s1 σ p _ j W) λiv s2 ⟨y,q,t,ry,Y⟩=>
  eO (e0 (S pins s2 σ q _ t Y) λfv s3 ⟨z,r,B,l,kvs,k,C,M,T,N,P⟩=>gb ?_))))
 subst M;exact aa2 B C ry l T (λv w s' c b i=>⟨v,r,b,i,N v c⟩) λs' c b=>⟨z,_,b,l,P c⟩
end
def B5(a:List dr)(dss:List aY)(k:dr)(d:D):List dr×List aY:=
 if Ku a k=γ then (a,fP (λc b=>if c=k then b++[d]else b) a dss)else (a++[k],dss++[[d]])
def Fs:Ku c k=γ ↔ k∈c:=by unfold Ku;rw[dH];exact⟨λ⟨x,a,b⟩=>bp b▸a,λh=>⟨k,h,bg J⟩⟩
def UD{b:List dr}{a:bA}:b.length=a.length->yL (b.zip a) k=Z v->∃j:Nat,b[j]?=Z k/\a[j]?=Z v:=by
 induction b generalizing a with
 |nil=>intro _ h;cases h
 |cons l b i=>
  intro c h;cases a with
  |nil=>cases c
  |cons m a=>
   unfold yL at h;rw[fF,dY]at h;by_cases e:l=k
   .subst e;simp only[decide_true]at h;cases h;exact⟨0,J,J⟩
   .simp only[e,decide_false]at h;obtain⟨j,d,f⟩:=i (by simpa using c) h;exact⟨j+1,d,f⟩
def UE{a:List dr}{b:bA}:a.length=b.length->yL (a.zip b) k=O->k∉a:=by
 induction a generalizing b with
 |nil=>intro _ _ h;cases h
 |cons i a f=>
  intro c h d;cases b with
  |nil=>cases c
  |cons j b=>
   unfold yL at h;rw[fF,dY]at h;by_cases e:i=k
   .subst e;simp only[decide_true]at h;cases h
   .simp only[e,decide_false]at h;rcases aM.1 d with z|z
    .exact e z.symm
    .exact f (by simpa using c) h z
structure L'(G:Bg)(F:Fr)(H0 H:Hp)(a:Addr)(ks:List dr)(dss:List aY)(bs:List Addr):Prop where
 fi:H a=Z (.dK (ks.zip (bs.map V.ref)))
 n0:H0 a=O
 nB:F.B a=O
 len:ks.length=bs.length
 vf:bs.length=dss.length
 nd:bs.Nodup
 kd:ks.Nodup
 each:∀(i:Nat) (b:Addr) (ds:aY),bs[i]?=Z b->dss[i]?=Z ds->∃xs,H b=Z (.b4 xs)/\H0 b=O/\F.B b=O/\b? G H0 ds xs
section
variable{G:Bg}{F:Fr}{σ:St}{ρ:aP}{H0 H H0' H':Hp}{a:Addr}{ks:List dr}{dss:List aY}{bs:List Addr}
def L'.ff(g:L' G F H0 H a ks dss bs)(hs:ve H H')(h0:ve H0 H0')(hf:∀b o,H0' b=Z o->H0 b=Z o\/H b=O):L' G F H0' H' a ks dss bs where
 fi:=hs _ _ g.fi
 n0:=by
  cases q:H0' a with
  |none=>rfl
  |some o=>
   rcases hf a o q with z|z
   .rw[g.n0]at z;cases z
   .rw[g.fi]at z;cases z
 nB:=g.nB
 len:=g.len
 vf:=g.vf
 nd:=g.nd
 kd:=g.kd
 each:=λi b ds d e=>by
  obtain⟨xs,c,f,q3,h⟩:=g.each i b ds d e;refine⟨xs,hs _ _ c,?_,q3,b?.mono h0 _ _ h⟩;cases q:H0' b with
  |none=>rfl
  |some o=>
   rcases hf b o q with z|z
   .rw[f]at z;cases z
   .rw[c]at z;cases z
def c3.still(R:c3 G F σ ρ H0 H)(no:∀s∈ρ,s.fl=δ):c3 G ⟨H0,H,[]⟩ σ ρ H0 H where
 sub:=R.sub
 g0:=ve.refl _
 keep:=λb o e y=>e
 fr:=λb o e=>.inl e
 am:=λa h=>by cases h
 len:=R.len
 sl:=λi s e=>by
  have ok:=R.sl i s e;have n:=no s (bL e);cases s with
  |un=>trivial
  |I d=>exact ok
  |_=>cases n
 ap:=λi j s t b y e y so=>by rw[no s (bL e)]at so;cases so
theorem c3.touch(R:c3 G F σ ρ H0 H)(no:∀s∈ρ,s.fl=δ)(c:∀b o,H b=Z o->(H0 b≠O\/F.B b≠O)->H' b=Z o)(ha:∀b o,H b=Z o->∃f,H' b=Z f):c3 G F σ ρ H0 H' where
 sub:=λb o e=>c b o (R.sub _ _ e) (.inl (by rw[e];exact λz=>nomatch z))
 g0:=R.g0
 keep:=λb o e n=>c b o (R.keep b o e n) (.inr (by rw[e];exact λz=>nomatch z))
 fr:=R.fr
 am:=λb hb=>by obtain⟨o,e⟩:=R.am b hb;exact ha b o e
 len:=R.len
 sl:=λi s e=>by
  have ok:=R.sl i s e;have n:=no s (bL e);cases s with
  |un=>trivial
  |I d=>exact ok
  |_=>cases n
 ap:=λi j s t b y e y so=>by rw[no s (bL e)]at so;cases so
def aa3{bs:List Addr}(h:bs.Nodup){i j:Nat}{b:Addr}(c:bs[i]?=Z b)(d:bs[j]?=Z b):i=j:=by obtain⟨l,e⟩:=bX.1 c;obtain⟨m,f⟩:=bX.1 d;exact(mw h).1 (e.t f.symm)
def aa4{ks:List dr}(h:ks.Nodup){i j:Nat}{b:dr}(c:ks[i]?=Z b)(d:ks[j]?=Z b):i=j:=by obtain⟨l,e⟩:=bX.1 c;obtain⟨m,f⟩:=bX.1 d;exact(mw h).1 (e.t f.symm)
def L'.more(g:L' G F H0 H a ks dss bs){j:Nat}{k:dr}{b:Addr}{d:D}{v:V}{y:bA}(h:ks[j]?=Z k)(p:bs[j]?=Z b)(l:H b=Z (.b4 y))(I:df G H0 d v):
  L' G F H0 (eg H b (.b4 (y++[v]))) a (B5 ks dss k d).1 (B5 ks dss k d).2 bs:=by
 have A:=Fs.2 (bL h);unfold B5;rw[aj A];have E:a≠b:=λz=>by subst z;rw[g.fi]at l;cases l
 refine⟨by rw[vb E];exact g.fi,g.n0,g.nB,g.len,?_,g.nd,g.kd,λi c N o e=>?_⟩
 .rw[jK,<- g.vf,<- g.len,i7,g.len]
 .rw[oP]at e;cases f:ks[i]? with
  |none=>rw[f]at e;cases e
  |some B=>
   cases t:dss[i]? with
   |none=>rw[f,t]at e;cases e
   |some m=>
    rw[f,t]at e;cases e;obtain⟨M,u,w,w3,x⟩:=g.each i c m o t;by_cases q:B=k
    .subst q;have r:=aa4 g.kd f h;subst r;rw[o]at p;cases p;rw[u]at l;cases l;rw[aj J];exact⟨_,uZ,w,w3,w9 x (vM I vJ)⟩
    .rw[ak q];have C:c≠b:=λz=>by subst z;have r:=aa3 g.nd o p;subst r;rw[f]at h;cases h;exact q J
     exact⟨M,by rw[vb C];exact u,w,w3,x⟩
theorem L'.fresh(g:L' G F H0 H a ks dss bs)(t:k∉ks)(q:H p=O)(C:H0 p=O)(hB:F.B p=O)(N:df G H0 d v):
  L' G F H0 (eg (eg (eg H p (.b4 [])) a (.dK ((ks++[k]).zip ((bs++[p]).map V.ref)))) p (.b4 [v])) a (B5 ks dss k d).1 (B5 ks dss k d).2 (bs++[p]):=by
 have E:=λz=>t (Fs.1 z);unfold B5;rw[ak E];have M:a≠p:=λz=>by subst z;rw[g.fi]at q;cases q
 have w:p∉bs:=λz=>by
  obtain⟨i,l,e⟩:=ma z;have b:bs[i]?=Z p:=by rw[bh l,e]
  obtain⟨j,f⟩:∃j,dss[i]?=Z j:=⟨dss[i]'(by rw[<-g.vf];exact l),bh _⟩;obtain⟨A,h,_⟩:=g.each i p j b f;rw[q]at h;cases h
 refine⟨by rw[vb M,uZ],g.n0,g.nB,by simp[g.len],by simp[g.vf],?_,?_,λi c j b f=>?_⟩
 .rw[bM];refine⟨g.nd,by simp,λx r y m=>?_⟩;rw[bj]at m;subst m;exact λz=>w (z▸r)
 .rw[bM];refine⟨g.kd,by simp,λx r y m=>?_⟩;rw[bj]at m;subst m;exact λz=>t (z▸r)
 .by_cases l:i<bs.length
  .rw[fZ l]at b;rw[fZ (by rw[<-g.vf];exact l)]at f;obtain⟨A,h,P,w3,Q⟩:=g.each i c j b f;have u:c≠p:=λz=>w (z▸bL b);have I:c≠a:=λz=>by subst z;rw[g.fi]at h;cases h
   exact⟨A,by rw[vb u,vb I,vb u];exact h,P,w3,Q⟩
  .have o:i=bs.length:=by have:=(bX.1 b).1;rw[aE,di]at this;omega
   subst o;rw[fY (aJ _),rB]at b;rw[g.vf,fY (aJ _),rB]at f;cases b;cases f;exact⟨[v],uZ,C,hB,vM N vJ⟩
def NC(G:Bg)(b:FE):TS:=YE (tBM G.K "list" LR (UB (BU 1) (tF G b) (tLst Kl)) (Ec (BU 2) Kl))
def UF{S:Q'}{l:V}(R:c3 G F σ ρ H0 H)(no:∀s∈ρ,s.fl=δ)(h1:σ[1]?=Z (Z (.ref a)))(W:σ[2]?=Z (Z l))(rd:df G H0 d l)
  (g:L' G F H0 H a ks dss bs) (hk:fk ρ=Z (x,ρ)) (ek:BD x=Z k) (l1:ks.length<1000) (l2:∀i∈dss,i.length<1000)
  (kont:∀C E M,ve H0 C->c3 G F σ ρ C E->L' G F C E a (B5 ks dss k d).1 (B5 ks dss k d).2 M->S.nx σ E):NC G fk S σ H:=by
 refine⟨.ref a,h1,a,J,.inl ⟨_,.inl g.fi⟩,_,_,_,x,ρ,c3.still R no,hk,λv A f s I r=>?_⟩;have Y:=λb o e=>I.keep b o e (by simp);have X:=I.fr;have R2:=R.ff Y s I.sub X;have t:=g.ff Y s X;have u:=df.mono s _ _ rd;refine⟨cp _,λp h=>?_⟩;have np:a≠p:=λz=>by subst z;rw[t.fi]at h;cases h
 have T:c3 G F σ ρ A (eg f p (.b4 [])):=R2.ij h _;have N:L' G F A (eg f p (.b4 [])) a ks dss bs:=t.ff (vm h _) (ve.refl _) λb o e=>.inl e;have lz:(ks.zip (bs.map V.ref)).length<aF:=by rw[iY,ag,<- g.len,i7,bO];omega
 refine⟨_,k,N.fi,B4 r ek,lz,λw B=>?_,λB=>?_⟩
 .obtain⟨j,e1,m⟩:=UD (by rw[ag];exact g.len) B;rw[bx]at m;cases q:bs[j]? with
  |none=>rw[q]at m;cases m
  |some b=>
   rw[q]at m;cases m;obtain⟨i,U⟩:∃i,dss[j]?=Z i:=⟨dss[j]'(by rw[<-g.vf];exact(bX.1 q).1),bh _⟩;obtain⟨Q,P,w2,w3,w4⟩:=N.each j b i q U;have lx:Q.length<aF:=by rw[<-uW w4,bO];have:=l2 i (bL U);omega
   refine⟨.inl ⟨J,Q,fb.of P⟩,l,W,b,Q,l,J,J,P,lx,?_⟩;refine kont A _ bs s (c3.touch T no (λc o e z=>?_) λc o e=>?_) (N.more e1 q P u)
   .have nc:c≠b:=λy=>by
     subst y;rcases z with z|z
     .exact z w2
     .exact z w3
    rw[vb nc];exact e
   .by_cases y:c=b
    .subst y;exact⟨_,uZ⟩
    .rw[vb y];exact⟨o,e⟩
 .have nk:=UE (by rw[ag];exact g.len) B;have h0p:=R2.e4 h;have hBp:=R2.fg h;have ez:j? (ks.zip (bs.map V.ref)) k (.ref p)=(ks++[k]).zip ((bs++[p]).map V.ref):=by rw[Te _ B,bu,mJ (by rw[ag];exact g.len)];rfl
  rw[ez];have q0:eg (eg f p (.b4 [])) a (.dK ((ks++[k]).zip ((bs++[p]).map V.ref))) p=Z (.b4 []):=by rw[vb (λz=>np z.symm),uZ]
  refine⟨.inl ⟨J,[],fb.of q0⟩,l,W,p,[],l,J,J,q0,by rw[bO];decide,?_⟩;refine kont A _ (bs++[p]) s (c3.touch T no (λc o e z=>?_) λc o e=>?_) (t.fresh nk h h0p hBp u)
  .have n1:c≠p:=λy=>by
    subst y;rcases z with z|z
    .exact z h0p
    .exact z hBp
   have n2:c≠a:=λy=>by
    subst y;rcases z with z|z
    .exact z t.n0
    .exact z t.nB
   rw[cg,vb n1,vb n2];exact e
  .by_cases y:c=p
   .subst y;exact⟨_,uZ⟩
   .rw[vb y];by_cases y2:c=a
    .subst y2;exact⟨_,uZ⟩
    .rw[vb y2];exact⟨o,e⟩
end
def Dl(b:D->Option D):aY->List dr->List aY->Option (List dr×List aY)
 |[],a,dss=>Z (a,dss)
 |d::r,a,dss=>match b d with
  |some x=>match BD x with
   |some k=>if (decide (a.length<1000)&&dss.all λc=>decide (c.length<1000))=γ then Dl b r (B5 a dss k d).1 (B5 a dss k d).2 else O
   |none=>O
  |none=>O
def OZ(b:D->Option D):FS:=λc=>match c with
 |[.I (.b4 L),.un,.un]=>match Dl b L [] []with
  |some (a,dss)=>Z (.rt (.Y a (dss.map .b4)) [.I (.b4 L),.un,.un])
  |none=>O
 |_=>O
section
variable{X:Cx}{G:Bg}
theorem Ho:∀(bs:List Addr) (dss:List aY),bs.length=dss.length->(∀(i:Nat) (b:Addr) (a:aY),bs[i]?=Z b->dss[i]?=Z a->∃c,d b=Z (.b4 c)/\b? G d a c)->
  b? G d (dss.map .b4) (bs.map V.ref)
 |[],[],_,_=>vJ
 |[],_::_,h,_=>by cases h
 |_::_,[],h,_=>by cases h
 |b::bs,a::dss,h,k=>by obtain⟨c,j,l⟩:=k 0 b a J J;exact vM (BY j l) (Ho bs dss (by simpa using h) λi b a e f=>k (i+1) b a e f)
theorem XN(R:c3 G F σ [.I (.b4 L),.un,s2] H0 H)(g:L' G F H0 H a ks dss bs)(o:Obj):
  ∃q,ve H0 q/\c3 G F σ [.I (.b4 L),.un,.un] q (eg H a (.lb o (.dK (ks.zip (bs.map V.ref)))))/\df G q (.Y ks (dss.map .b4)) (.ref a):=by
 have r:∀{b:Addr},b∈bs->∃xs,H b=Z (.b4 xs)/\H0 b=O/\F.B b=O:=λ{b} hb=>by obtain⟨i,hi,e⟩:=ma hb;obtain⟨xs,h,m,w3,_⟩:=g.each i b (dss[i]'(by rw[<-g.vf];exact hi)) (by rw[bh hi,e]) (bh _);exact⟨xs,h,m,w3⟩
 have na:a∉bs:=λz=>by obtain⟨xs,h,_⟩:=r z;rw[g.fi]at h;cases h
 have p:ve H0 (λc=>if c=a then Z (.lb o (.dK (ks.zip (bs.map V.ref))))else if c∈bs then H c else H0 c):=λc u e=>by
  have f:c≠a:=λz=>by subst z;rw[g.n0]at e;cases e
  have l:c∉bs:=λz=>by obtain⟨_,_,m,_⟩:=r z;rw[m]at e;cases e
  show (if c=a then _ else if c∈bs then H c else H0 c)=_;rw[ak f,ak l];exact e
 refine⟨_,p,?_,?_⟩
 .exact {
   sub:=λc u e=>by
    have d:(if c=a then Z (HO.lb o (.dK (ks.zip (bs.map V.ref))))else if c∈bs then H c else H0 c)=Z u:=e;by_cases f:c=a
    .subst f;rw[aj J]at d;rw[uZ];exact d
    .rw[ak f]at d;rw[vb f];by_cases l:c∈bs
     .rw[aj l]at d;exact d
     .rw[ak l]at d;exact R.sub _ _ d
   g0:=R.g0.t p
   keep:=λc u e n=>by rw[vb (λz=>by subst z;rw[g.nB]at e;cases e)];exact R.keep c u e n
   fr:=λc u e=>by
    have d:=e;by_cases f:c=a
    .subst f;exact .inr g.nB
    .rw[ak f]at d;by_cases l:c∈bs
     .obtain⟨_,_,_,w3⟩:=r l;exact .inr w3
     .rw[ak l]at d;exact R.fr _ _ d
   am:=λc y=>by
    by_cases f:c=a
    .subst f;exact⟨_,uZ⟩
    .rw[vb f];exact R.am c y
   len:=R.len
   sl:=λi s e=>by
    match i,e with
    |0,e=>cases e;obtain⟨v,h,m⟩:=R.sl 0 _ J;exact⟨v,h,df.mono p _ _ m⟩
    |1,e=>cases e;trivial
    |2,e=>cases e;trivial
    |i+3,e=>cases e
   ap:=λi j s t b _ e _ so=>by
    match i,e with
    |0,e=>cases e;cases so
    |1,e=>cases e;cases so
    |2,e=>cases e;cases so
    |i+3,e=>cases e }
 .unfold df;refine⟨a,o,bs.map V.ref,J,by show (if a=a then _ else _)=_;rw[aj J],by rw[ag];exact g.len,Ho bs dss g.vf λi b ds w x=>?_⟩;obtain⟨xs,h,m,w3,C⟩:=g.each i b ds w x;have hb:=bL w;refine⟨xs,?_,b?.mono p _ _ C⟩;have A:b≠a:=λz=>na (by rw[<-z];exact hb);rw[ak A,aj hb];exact h
def UG{L:aY}{b:Sl}(h:b.fl=δ):∀s∈[Sl.I (.b4 L),.un,b],s.fl=δ:=λs a=>by
 simp only[aM,cw,or_false]at a;rcases a with rfl|rfl|rfl
 .rfl
 .rfl
 .exact h
inductive GI(G:Bg) (F:Fr) (Ha:Hp) (p:Addr) (L:aY) (vk:D->Option D) (KS:List dr) (DSS:List aY) (i:Nat) (σ':St) (H':Hp):Prop
 |mk (Hi:Hp) (ks:List dr) (dss:List aY) (bs:List Addr) (s2:Sl):ve Ha Hi->Sl.fl s2=δ->c3 G F σ' [.I (.b4 L),.un,s2] Hi H'->σ'[1]?=Z (Z (.ref p))->L' G F Hi H' p ks dss bs->Dl vk (L.drop i) ks dss=Z (KS,DSS)->GI G F Ha p L vk KS DSS i σ' H'
set_option tactic.hygienic true
def R9(h1:PS X st1 (EB OB (AR 1)))(h2:PS X st2 (Zz (O' G (iL (cV 0))) (AR 2) (NC G (c1 f (cV 2)))))
  (h3:PS X st3 (tRet (λC H Q=>BU 1 C H λx I=>Q x I\/∃a kvs,I a=Z (.dK kvs)/\∀o,Q x (eg I a (.lb o (.dK kvs)))))):k? X [st1,st2,st3] (iE G (OZ f)):=
 k?.dd (IS h1 (IS h2 (LI h3))) λE C H hh=>by
  obtain⟨F,ρ,H0,o,R,e,k,k2⟩:=hh;unfold OZ at e;split at e
  .rename_i L;cases P:Dl f L [] []with
   |none=>simp only[P]at e;cases e
   |some p=>
    obtain⟨KS,DSS⟩:=p;simp only[P]at e;cases e;intro p hp;have R1:=(R.ij hp (.dK [])).set (i:=1) (v:=.ref p) (s:=.un) trivial (λz=>by cases z);have t:C.length=3:=R.len;have g1:L' G F H0 (eg H p (.dK [])) p [] [] []:=⟨uZ,R.e4 hp,R.fg hp,J,J,j8,j8,λi b ds e1=>by cases e1⟩;have v1:(C.set 1 (Z (V.ref p)))[1]?=Z (Z (.ref p)):=by rw[jG (by rw[t];decide)]
    refine⟨_,_,_,L,_,c3.still R1 (UG J),J,λA' M Hb s A wk=>?_⟩;have hs:=λb o e=>A.keep b o e (by simp);have R2:=R1.ff hs s A.sub A.fr;have g2:=g1.ff hs s A.fr;refine⟨λi m w h=>m=L.length - i/\i<=L.length/\GI G F M p L f KS DSS i w h,
     ⟨_,J,cp _,M,[],[],[],.un,ve.refl _,J,R2,v1,g2,P⟩,?_⟩
    rintro i m d j ⟨rfl,hi,Hi,ks,dss,bs,s2,B,n2,l,vi,U,c⟩;by_cases hlt:i<L.length
    .have ed:=jA hlt;rw[ed]at c;unfold Dl at c;cases T:f L[i]with
     |none=>simp only[T]at c;cases c
     |some x=>
      simp only[T]at c;cases S:BD x with
      |none=>simp only[S]at c;cases c
      |some kk=>
       simp only[S]at c;split at c
       .rename_i W;simp only[aU,bY,aQ]at W;obtain⟨go,yl⟩:=(wk i Hi j B l.sub).1 L[i] (bh hlt);refine .inr ⟨go,GI G F M p L f KS DSS (i+1),
         λw h q=>⟨L.length - (i+1),by omega,J,hlt,q⟩,λu h y=>?_⟩
        obtain⟨H2,t1,t2,t3,t4,t5⟩:=yl u h y;have Y:d.length=3:=l.len;have R3:c3 G F (d.set 2 (Z u)) [.I (.b4 L),.un,.I L[i]] H2 h:=(l.ff t3 t1 t2 t4).setIm 2 t5;have w1:(d.set 2 (Z u))[1]?=Z (Z (.ref p)):=by rw[lZ (by decide)];exact vi
        have w2:(d.set 2 (Z u))[2]?=Z (Z u):=by rw[jG (by rw[Y];decide)]
        refine UF R3 (UG J) w1 w2 t5 (U.ff t3 t1 t4) (by show c1 f (cV 2) _=_;unfold c1 cV;simp only[List.getElem?_cons_succ,List.getElem?_cons_zero,T]) S W.1 (λds hd=>W.2 ds hd) λHc Hd N sc Rc gc=>?_;exact⟨Hc,_,_,N,_,B.t (t1.t sc),J,Rc,w1,gc,c⟩
       .cases c
    .have r:i=L.length:=by omega
     refine .inl ⟨(wk i Hi j B l.sub).2 r,?_⟩;subst r;rw[List.drop_length]at c;cases c;refine⟨.ref p,vi,.inr ⟨p,_,U.fi,λo=>?_⟩⟩;obtain⟨Hq,q1,q2,q3⟩:=XN l U o;exact k _ _ Hq _ (s.t (B.t q1)) q2 q3
  .cases e
end
set_option tactic.hygienic false
section
variable{X:Cx}{G:Bg}
def XO:∀y b,wC "int" y=Z b->cX X.K (y.val G) (.type "int")=Z b:=Jp (by kernel_rfl)
def UH:∀y b,wC "bool" y=Z b->cX X.K (y.val G) (.type "bool")=Z b:=Jp (by kernel_rfl)
def X1:∀y b,wC "tuple" y=Z b->cX X.K (y.val G) (.type "tuple")=Z b:=Jp (by kernel_rfl)
end
end L4
namespace L4
open PySem PySem.Spec PySem.Calls PyProof.Rows PySem.W L2 L3
def Sa{b:Type}(c:Nat->Nat->Bool):KasT b->b
 |.ret a=>a
 |.ask i j k=>Sa c (k (c i j))
def Av{c:Type}(P:Nat->Nat->Prop)(R:c->Prop):KasT c->Prop
 |.ret a=>R a
 |.ask i j k=>P i j/\∀b,Av P R (k b)
theorem Av.run{b:Type}{P:Nat->Nat->Prop}{R:b->Prop}(c:Nat->Nat->Bool):∀(t:KasT b),Av P R t->R (Sa c t)
 |.ret a,h=>h
 |.ask i j k,h=>Av.run c (k (c i j)) (h.2 (c i j))
theorem Av.bind{c e:Type}{P:Nat->Nat->Prop}{R:c->Prop}{S:e->Prop}{f:c->KasT e}(d:∀a,R a->Av P S (f a)):∀{t:KasT c},Av P R t->Av P S (t.bind f)
 |.ret a,h=>d a h
 |.ask i j k,h=>⟨h.1,λb=>Av.bind d (h.2 b)⟩
theorem Qo{b:Type}{cmp:Nat->Nat->(Bool->af->Prop)->af->Prop}{c:Nat->Nat->Bool}{P:Nat->Nat->Prop}{s:af}{Q:b->af->Prop}(d:∀i j C,P i j->C (c i j) s->cmp i j C s):
  ∀{R:b->Prop} {t:KasT b},Av P R t->Q (Sa c t) s->t.kasWp cmp Q s
 |R,.ret a,_,q=>q
 |R,.ask i j k,h,q=>d i j _ h.1 (Qo d (h.2 (c i j)) q)
def xZ(n:Nat)(p:Array Nat):Prop:=p.toList.Perm (bf n)
set_option tactic.hygienic true
theorem xZ.getD(h:xZ n p)(a:0<n)(i:Nat):p.getD i 0<n:=by
 unfold Array.getD;split
 .rename_i b;have:p[i]∈p.toList:=by simp
  exact bN.1 (h.mem_iff.1 this)
 .exact a
set_option tactic.hygienic false
def xZ.rev(h:xZ n p)(i j:Nat):xZ n (kas_rev p i j):=by exact(ox.1 (foldl_swaps_perm _ _ _ _)).t h
def xZ.bub(h:xZ n p)(i j:Nat):xZ n (bubble p i j):=(ox.1 (bubble_perm _ _ _)).t h
abbrev In2(n:Nat):Nat->Nat->Prop:=λi j=>i<n/\j<n
theorem L8(a:0<n)(h:xZ n p):∀f k,Av (In2 n) (λy=>True) (kas_asc p f k)
 |0,k=>trivial
 |f+1,k=>⟨⟨h.getD a _,h.getD a _⟩,λb=>by cases b<;>first|exact trivial|exact L8 a h f (k+1)⟩
theorem Ft(a:0<n):∀f (p:Array Nat) k q,xZ n p->Av (In2 n) (λr=>xZ n r.1) (kas_desc f p k q)
 |0,p,k,q,h=>h
 |f+1,p,k,q,h=>⟨⟨h.getD a _,h.getD a _⟩,λb=>by
   cases b with
   |true=>
    split
    .exact Ft a f _ _ _ (h.rev _ _)
    .exact Ft a f _ _ _ h
   |false=>
    refine⟨⟨h.getD a _,h.getD a _⟩,λd=>?_⟩;cases d with
    |true=>exact h
    |false=>exact Ft a f _ _ _ h⟩
def ND(b:0<n)(h:xZ n p)(k m:Nat):Av (In2 n) (λr=>xZ n r.2) (kas_tail3 k m p):=
 Av.bind (S:=λ(r:Nat×Array Nat)=>xZ n r.2) (f:=λm=>.ret (m,kas_rev p 0 k)) (λa y=>h.rev 0 k) (L8 b (h.rev 0 k) _ _)
def Fu(a:0<n)(h:xZ n p)(k m:Nat):Av (In2 n) (λr=>xZ n r.2) (kas_descPart k m p):=
 Av.bind (λr b=>by
  split
  .exact ND a (b.rev _ _) _ _
  .exact ND a b _ _) (Ft a _ p _ _ h)
def Sb(a:0<n)(h:xZ n p)(m:Nat):Av (In2 n) (λr=>xZ n r.2) (kas_count m p):=
 Av.bind (λk y=>by
  split
  .exact h
  .split
   .refine⟨⟨h.getD a _,h.getD a _⟩,λb=>?_⟩;cases b with
    |true=>exact h
    |false=>exact Fu a (h.rev _ _) _ _
   .exact Fu a h _ _) (L8 a h _ _)
theorem Gy(a:0<n)(h:xZ n p)(k:Nat):∀f l r,Av (In2 n) (λy=>True) (kas_place p k f l r)
 |0,l,r=>trivial
 |f+1,l,r=>by
  unfold kas_place;split
  .trivial
  .refine⟨⟨h.getD a _,h.getD a _⟩,λb=>?_⟩;cases b with
   |true=>exact Gy a h k f _ _
   |false=>exact Gy a h k f _ _
theorem Qp(a:0<n):∀f (p:Array Nat) k,xZ n p->Av (In2 n) (xZ n) (kas_bin f p k)
 |0,p,k,h=>h
 |f+1,p,k,h=>Av.bind (λl y=>Qp a f _ _ (h.bub _ _)) (Gy a h k _ _ _)
def Ju(a:0<n):Av (In2 n) (xZ n) (kA n):=
 Av.bind (λr b=>by
  split
  .exact Qp a _ _ _ b
  .exact b) (Sb a (by unfold xZ;exact List.Perm.refl _) n)
def DW(a:Addr)(h c:Heap):Prop:=∀b o,b≠a->h.get? b=Z o->c.get? b=Z o
section
variable{prog:aB}{w:aw}{A:aG}{E:aa->af->Prop}{s:af}
def GA(c:Nat->Nat->Bool)(a:List aa):List aa:=(Sa c (kA a.length)).toList.map λi=>a.getD i Value.none
def UI(c:Nat->Nat->Bool)(a:List aa)(h:0<a.length):(GA c a).length=a.length:=by unfold GA;rw[ag];have:=(Ju h).run c _;rw[this.length_eq,bS]
def UJ(c:Nat->Nat->Bool)(v:aa):GA c [v]=[v]:=rfl
def UK{vs:List aa}(F:s.heap.get? a=Z (seqObj "list" vs.toArray n))(h1:0<vs.length)(u:vs.length<64)
  (S:∀(h':Heap) (C:SortKind->af->Prop),DW a s.heap h'->C M { s with heap:=h' }->ah (model prog w) A (keyKind' vs.toArray) C (λ_ _=>False) { s with heap:=h' })
  (R:∀(h':Heap) (i j:Nat) (C:Bool->af->Prop),DW a s.heap h'->i<vs.length/\j<vs.length->C (c i j) { s with heap:=h' }->kB prog w A M vs i j C { s with heap:=h' })
  (h:∀h' e,DW a s.heap h'->h'.get? a=Z (seqObj "list" (GA c vs).toArray e)->P (.done (.ret .none)) { s with heap:=h' }):
  ah (model prog w) A (cP.«list.sort» ⟨[.ref a],[]⟩) P E s:=by
 obtain⟨t,I⟩:∃t,(s.heap.update a (c9 λ_=>(#[]:Array aa))).get? a=Z (seqObj "list" #[] t):=⟨_,qz F λ_=>#[]⟩;generalize hw:((s.heap.update a (c9 λ_=>(#[]:Array aa))).push (seqObj "tuple" vs.toArray 0)).push (seqObj "list" #[] 0)=h3;have H:DW a s.heap h3:=λb o hb q=>by rw[<-hw];exact aA _ (aA _ ((gH s.heap _ (dB hb)).t q))
 have m:h3.get? a=Z (seqObj "list" #[] t):=by rw[<-hw];exact aA _ (aA _ I)
 rw[list_sort_plain];refine ae (listItems_at F J (ae (mW F J ?_ (by rw[bb,bO];omega) (cp _))));refine ae (nE I J (ae (mR ?_ (by show vs.length<=_;rw[bO];omega))));refine ae (mX (bK ?_) (cp _));rw[hw];obtain⟨c2,B⟩:∃c2,(h3.update a (c9 λ_=>(GA c vs).toArray)).get? a=Z (seqObj "list" (GA c vs).toArray c2):=⟨_,qz m λ_=>(GA c vs).toArray⟩;have fin:=h _ c2 (λb o hb q=>(gH h3 _ (dB hb)).t (H b o hb q)) B;have szo:(GA c vs).toArray.size<=aF+1:=by rw[bb,UI c vs h1,bO];omega
 by_cases h2:2<=vs.length
 .have l:¬vs.toArray.size<2:=by rw[bb];omega
  rw[ak l,ak l];refine ae (cq (S h3 (λk f=>k=M/\f={ s with heap:=h3 }) H ⟨J,J⟩) ?_ λ_ _ x=>x.elim);rintro k f ⟨rfl,rfl⟩;refine ae (cq (kat_run (Q:=λd f=>f={ s with heap:=h3 }/\(arrOf d).map (·.2)=(GA c vs).toArray/\failedOf d=O) (G:=λp f=>p=Sa c (kA vs.length)/\f={ s with heap:=h3 }) J h2 u ?_ ?_) ?_ λ_ _ e=>e)
  .rintro p d f _ har hf ⟨rfl,rfl⟩;exact⟨J,kat_snds J har,hf⟩
  .exact Qo (λi j C q r=>R h3 i j C H q r) (Ju h1) ⟨J,J⟩
  .rintro⟨⟨⟩,d⟩ f ⟨rfl,z,hf⟩;refine ae (nE m J ?_);rw[z,hf];refine ae (mW m J ?_ (cp _) szo);simp only[bne_self_eq_false,eQ,if_false];exact aq fin
 .obtain⟨v,rfl⟩:∃v,vs=[v]:=by
   cases vs with
   |nil=>cases h1
   |cons v r=>
    cases r with
    |nil=>exact⟨v,J⟩
    |cons x y=>exact ar (by simp) h2
  refine ae (aq ?_);refine ae (aq ?_);refine ae (nE m J ?_);have N:rZ (λx=>x.snd) (arrOf ((),SortSt.mk' general' (#[v].zip #[v]) #[] 7 O).snd)=(GA c [v]).toArray:=by rw[UJ];show rZ (λx=>x.snd) (#[v].zip #[v])=#[v];simp
  rw[N];refine ae (mW m J ?_ (cp _) szo);simp only[bne_self_eq_false,eQ,if_false];exact aq fin
def O0{vs:List aa}(hT:T="list" \/ T="tuple")(t:s.heap.get? l=Z o)(hcl:o.cls=.type T)(hd:o.data=.seq vs.toArray n)(h1:0<vs.length)(f:vs.length<64)
  (p:∀(h':Heap) (C:SortKind->af->Prop),(∀b o,s.heap.get? b=Z o->h'.get? b=Z o)->C κ { s with heap:=h' }->ah (model prog w) A.in1.in1 (keyKind' vs.toArray) C (λy y=>False) { s with heap:=h' })
  (m:∀(h':Heap) (i j:Nat) (C:Bool->af->Prop),(∀b o,s.heap.get? b=Z o->h'.get? b=Z o)->i<vs.length/\j<vs.length->C (c i j) { s with heap:=h' }->kB prog w A.in1.in1 κ vs i j C { s with heap:=h' })
  (h:∀(g h':Heap) e,(∀b o,s.heap.get? b=Z o->g.get? b=Z o)->(∀b o,g.get? b=Z o->h'.get? b=Z o)->h'.get? g.objs.size=Z (seqObj "list" (GA c vs).toArray e)->Q (.ref g.objs.size) { s with heap:=h' }):
  ah (model prog w) A (call (.builtin "sorted") [.ref l]) Q E s:=by
 refine ly kind_sorted plain_sorted entry_sorted (args_sorted1 _) ?_;refine ae (aq (ae (wpAny_collect_seq l hT t hcl hd (λg d=>?_) (by rw[bO];simp;omega))));refine ae (mX ?_ (by rw[bO];simp;omega));have on:(g.push (seqObj "list" vs.toArray 0)).get? g.objs.size=Z (seqObj "list" vs.toArray 0):=aX _ J;have all:∀h',DW g.objs.size (g.push (seqObj "list" vs.toArray 0)) h'->∀b o,g.get? b=Z o->h'.get? b=Z o:=λh' a b o q=>a b o (aT (aL q)) (aA _ q)
 refine ae (bK (dt qP ⟨_,on,J⟩ qA ?_ (qQ _)));refine UK on h1 f (λh' C a q=>p h' C (λb o z=>all h' a b o (d b o z)) q) (λh' i j C a q r=>m h' i j C (λb o z=>all h' a b o (d b o z)) q r) λh' e a q=>?_;exact⟨_,J,aq ⟨_,J,h g h' e d (all h' a) q⟩⟩
end
def ltS(a b:Str):Bool:=decide (a.cps.toList<b.cps.toList)
def Kv:aC->aC->Bool
 |[],[]=>δ
 |[],_::_=>γ
 |_::_,[]=>δ
 |x::a,y::b=>if x=y then Kv a b else ltS x y
inductive AS:List aa->aC->Prop
 |nil:AS [] []
 |cons (x:Str) (t:Tok) {vs:List aa} {xs:aC} (h:AS vs xs):AS (.str x t::vs) (x::xs)
def O1(c:Nat->Nat->Bool)(n:Nat):List Nat:=(Sa c (kA n)).toList
def GB(c:Nat->Nat->Bool)(h:0<n):(O1 c n).Perm (bf n):=(Ju h).run c _
def L9(c:Nat->Nat->Bool)(h:0<n):∀i∈O1 c n,i<n:=λi a=>bN.1 ((GB c h).mem_iff.1 a)
theorem K4(r:de a c):∀(is:List Nat),(∀i∈is,i<a.length)->de (is.map λi=>a.getD i V.J) (is.map λi=>c.getD i Value.none)
 |[],_=>.nil
 |i::is,h=>by have b:=h i (.head _);obtain⟨u,e,f⟩:=r.get (bh b);refine .cons ?_ (K4 r is λj d=>h j (.tail _ d));show dg (a.getD i V.J) (c.getD i Value.none);rw[cZ,cZ,e,bh b];exact f
section
variable{X:Cx}{G:Bg}{pins:cE}{σ:St}{H:Hp}{s:af}
def seq_val(I:cb X pins σ H s)(c:fb X.K H a h\/e? X.K H a h):∃b,de h b/\∃T o n,(T="list" \/ T="tuple")/\s.heap.get? a=Z o/\o.cls=.type T/\o.data=.seq b.toArray n:=by
 rcases c with c|c
 .obtain⟨b,f,pl,_⟩:=I.list c;obtain⟨o,a1,d,n,e⟩:=pl.isList;exact⟨b,f,_,o,n,.inl J,a1,d,e⟩
 .obtain⟨b,f,⟨o,a1,d,n,e⟩,_⟩:=I.tuple c;exact⟨b,f,_,o,n,.inr J,a1,d,e⟩
def Hr:aY->Option aC
 |[]=>Z []
 |.str x::a=>match Hr a with
  |some b=>Z (x::b)
  |none=>O
 |_=>O
theorem Jv:∀{a:aY} {b:bA} {l:aC},b? G H a b->Hr a=Z l->b=l.map V.str
 |[],b,l,r,e=>by cases e;unfold b? at r;exact r
 |d::a,b,l,r,e=>by
  cases d with
  |str x=>
   unfold Hr at e;cases c:Hr a with
   |none=>rw[c]at e;cases e
   |some i=>rw[c]at e;cases e;unfold b? at r;obtain⟨v,j,rfl,f,h⟩:=r;unfold df at f;subst f;rw[Jv h c,aI]
  |_=>cases e
theorem K5(r:b? G H a c):∀(is:List Nat),(∀i∈is,i<a.length)->b? G H (is.map λi=>a.getD i .J) (is.map λi=>c.getD i V.J)
 |[],_=>vJ
 |i::is,h=>by have b:=h i (.head _);obtain⟨v,e,f⟩:=yi r (bh b);refine vM ?_ (K5 r is λj d=>h j (.tail _ d));show df G H (a.getD i .J) (c.getD i V.J);rw[cZ,cZ,e,bh b];exact f
end
end L4
namespace L4
open PySem PySem.Spec PyProof.Rows L2 L3
section
variable{X:Cx}{G:Bg}
set_option tactic.hygienic true
def XQ:g? G (λx y H Q=>∃z n,x=.str z/\y=.int n/\MulOk z n/\Q (.str (nU z n)) H) K0:=λx y z o H v u Q e s d f k=>by
 unfold K0 at e;split at e
 .rename_i a n;split at e
  .rename_i m;obtain⟨p,r,h⟩:=m;cases e;unfold df at d f;refine⟨a,n,d,f,⟨?_,λi j l=>?_,λi j=>?_⟩,k _ λw w=>zB _⟩
   .rw[l6];exact⟨bq (by omega),bq (by omega)⟩
   .have c:(0:Int)<n:=by omega
    have q:(9223372036854775807:Int) / n >= 9223372036854775:=by have:=Int.le_ediv_of_mul_le (a:=9223372036854775) (b:=9223372036854775807) c (by omega);exact this
    have:((2:Int) ^ 63 - 1)=9223372036854775807:=by decide
    rw[this]at l;omega
   .have c:n.toNat<=1000:=by omega
    have:a.length * n.toNat<=100 * 1000:=Nat.mul_le_mul h c;refine bq ?_;rw[bO];omega
  .cases e
 .cases e
end
set_option tactic.hygienic false
def Qq:List String:=["NoneType", "bool", "int", "str", "tuple", "list", "dict"]
def yR(n c:Nat):Ty->Option Bool:=λy=>match y with
 |.b x=>if Qq.contains x=γ then Z δ else O
 |.c k=>if k<n then Z (k==c)else O
def xc(K:av)(cs:List Addr)(C:Addr)(c:Nat):Bool:=
 Qq.all (λx=>cX K (.type x) (.ref C)==Z δ)&&(bf cs.length).all λk=>cX K (.ref (cs.getD k 0)) (.ref C)==Z (k==c)
set_option tactic.hygienic true
def wD{B:Bg}(h:xc B.K cs (B.ca c) c=γ)(i:cs.length=n)(d:∀k,k<n->cs.getD k 0=B.ca k)(hI:∀k,k<n->Nr B.K (B.ca k)):Js B c (yR n c):=by
 unfold xc at h;rw[aU,aQ,aQ]at h;refine⟨λy b e=>?_,λj b e=>?_⟩
 .cases y with
  |b x=>
   unfold yR at e;simp only at e;split at e
   .rename_i f;cases e;exact fR (h.1 x (lX.1 f))
   .cases e
  |c k=>
   unfold yR at e;simp only at e;split at e
   .rename_i a;cases e;have:=fR (h.2 k (bN.2 (by omega)));rw[d k a]at this;exact this
   .cases e
 .unfold yR at e;simp only at e;split at e
  .rename_i a;exact hI j a
  .cases e
set_option tactic.hygienic false
def aa5{l:List Addr}(h:l.Nodup)(a:j<l.length)(b:k<l.length)(e:l.getD j 0=l.getD k 0):j=k:=by
 rw[cZ,cZ,bh a,bh b]at e;have c:=List.pairwise_iff_getElem.1 h;rcases Nat.lt_trichotomy j k with y|y|y
 .exact ar e (c j k a b y)
 .exact y
 .exact ar e.symm (c k j b a y)
section
variable{B:Bg}{K:av}{mg:Str->Option aa}{h:Heap}
def W'(X:K.In h)(a:h.Ns aZ mg)(e:ip K aZ x=Z (Z (.int i t))):AX B mg x (.int i):=
 ⟨.int i,_,ji X a e,⟨_,J⟩,λy=>xa _⟩
inductive B6:List aa->aC->Prop
 |nil:B6 [] []
 |cons {v:aa} {x:Str} {t:Tok} {vs:List aa} {xs:aC} (e:v=.str x t) (h:B6 vs xs):B6 (v::vs) (x::xs)
def B6.vals(h:B6 b c):de (c.map V.str) b:=by
 induction h with
 |nil=>exact .nil
 |cons e h a=>exact .cons ⟨_,e⟩ a
theorem Jw:∀a:aC,b? B H (a.map D.str) (a.map V.str)
 |[]=>vJ
 |x::a=>vM (zB x) (Jw a)
def O2(c:aC)(X:B.K.In h)(d:h.Ns aZ mg)(e:ip B.K aZ x=Z (Z (.ref a)))(l:B.K.lookup a=Z o)(f:o.cls=.type "tuple")(hd:o.data=.seq b n)(i:b.size<=1000)
  (r:B6 b.toList c):AX B mg x (.c4 (c.map D.str)):=
 ⟨.ref a,_,ji X d e,J,λH=>DT (.inr ⟨o,b,n,l,f,hd,by rw[bO];omega,r.vals⟩) (Jw c)⟩
end
section
variable{f g' h:FS}{c:FT}{e e' e2:FE}{a a':FA}{ρ ρ' ρ1 ρ2 ρ3:aP}{d x y z:D}{ds xs ys:aY}{k:Nat}{d6:List Nat}{g:FG}{ft:FT}{fe:FE}
theorem Jx{i:Type}(j:i->D)(p:i->Bool)(h:i->D):∀l:List i,
  (∀a∈l,∃ρ1 ρ2,g (j a) (Fh k d6 ρ)=Z ρ1/\ft ρ1=Z (p a,ρ2)/\(p a=γ->∃ρ3,fe ρ2=Z (h a,ρ3)/\ym d6 (ρ3.drop k) ρ=Z ρ)/\(p a=δ->ym d6 (ρ2.drop k) ρ=Z ρ))->
  AV k d6 g ft fe (l.map j) ρ=Z ((l.filter p).map h,ρ)
 |[],_=>rfl
 |a::l,st=>by
  obtain⟨ρ1,ρ2,o,q,r,t⟩:=st a ba;have m:=Jx j p h l λa' A=>st a' (bc _ A);rw[aI];unfold AV;rw[o];simp only[q];cases b:p a with
  |true=>obtain⟨ρ3,u,w⟩:=r b;simp only[u,w,m,gU,b,if_true,aI]
  |false=>simp only[t b,m,gU,b];rfl
def XR{i:Type}(b:i->D)(h:i->D)(l:List i)(st:∀a∈l,∃ρ1 ρ3,g (b a) (Fh k d6 ρ)=Z ρ1/\fe ρ1=Z (h a,ρ3)/\ym d6 (ρ3.drop k) ρ=Z ρ):AV k d6 g vX fe (l.map b) ρ=Z (l.map h,ρ):=by have:=Jx (ft:=vX) b (λy=>γ) h l λa p=>let ⟨ρ1,ρ3,j,m,o⟩:=st a p;⟨ρ1,ρ1,j,J,λy=>⟨ρ3,m,o⟩,λz=>by cases z⟩;rw[this,pe.2 λy y=>J]
def wX(neg:Bool)(a b:Str):en neg (.str a) (.str b)=Z (.U (if neg then !decide (a=b)else decide (a=b))):=by
 have e:Jn neg (.str a) (.str b)=Z (.U (if neg then !decide (V.str a=V.str b)else decide (V.str a=V.str b))):=rfl;have e2:decide (V.str a=V.str b)=decide (a=b):=by
  by_cases h:a=b
  .subst h;simp
  .rw[bq h,bq (λz=>h (by injection z))]
 unfold en;rw[e,e2]
def UM(a:Str)(l:aC):inV (V.str a) (l.map V.str)=decide (a∈l):=by
 unfold inV;rw[du,dH,bY];constructor
 .rintro⟨v,o,i⟩;obtain⟨b,m,rfl⟩:=au.1 o;have:=by unfold eqV at i;simpa using i
  rw[<-this];exact m
 .intro j;refine⟨.str a,bQ j,?_⟩;unfold eqV;simp
def Sd(l:aC):(l.map D.str).all xU=γ:=by rw[rD,aQ];intro x _;rfl
def XS(l:aC):(l.map D.str).map vD=l.map V.str:=by rw[aW];rfl
def wU(neg:Bool)(a:Str)(l:aC):mn neg (.str a) (.b4 (l.map D.str))=Z (.U (if neg then !decide (a∈l)else decide (a∈l))):=by show (if xU (.str a)&&(l.map D.str).all xU then Z (D.U (if neg then !inV (vD (.str a)) ((l.map D.str).map vD)else inV (vD (.str a)) ((l.map D.str).map vD)))else O)=_;rw[Sd,XS];show Z (D.U (if neg then !inV (V.str a) (l.map V.str)else inV (V.str a) (l.map V.str)))=_;rw[UM]
def UN(neg:Bool)(a:Str)(l:aC):mn neg (.str a) (.c4 (l.map D.str))=Z (.U (if neg then !decide (a∈l)else decide (a∈l))):=wU neg a l
theorem Ma:∀bs:List Bool,Kt (bs.map D.U)=Z bs
 |[]=>rfl
 |b::bs=>by rw[aI];unfold Kt;rw[Ma bs];rfl
def UO(bs:List Bool):zM (.b4 (bs.map D.U))=Z (.U (bs.all id)):=by unfold zM;simp only[Ma];rfl
def UP(bs:List Bool):Iu (.b4 (bs.map D.U))=Z (.U (bs.any id)):=by unfold Iu;simp only[Ma];rfl
def Qr{b:Type}(l:List b)(p:b->Bool):zM (.b4 (l.map λa=>D.U (p a)))=Z (.U (l.all p)):=by rw[show (l.map λa=>D.U (p a))=(l.map p).map D.U by rw[aW];rfl,UO,rD];rfl
def Qs{b:Type}(l:List b)(p:b->Bool):Iu (.b4 (l.map λa=>D.U (p a)))=Z (.U (l.any p)):=by rw[show (l.map λa=>D.U (p a))=(l.map p).map D.U by rw[aW];rfl,UP,List.any_map];rfl
theorem Jy:∀l:aC,Eg (l.map D.str)=Z (l.map Sum.inr)
 |[]=>rfl
 |x::l=>by rw[aI];unfold Eg;rw[Jy l];rfl
theorem UQ:∀(l acc:List dr),(acc++l).Nodup->l.foldl ξ acc=acc++l
 |[],acc,_=>by rw[bT];rfl
 |k::l,acc,h=>by
  have i:acc.any (λz=>decide (z=k))=δ:=by rw[jS];intro z;obtain⟨y,j,b⟩:=dH.1 z;rw[bM]at h;exact h.2.2 y j k ba (bp b)
  rw[iX,show ξ acc k=acc++[k] by unfold ξ;rw[i];rfl,UQ l (acc++[k]) (by simpa using h)];simp
def zt{l:aC}(h:l.Nodup):(l.map (Sum.inr:Str->dr)).Nodup:=by unfold List.Nodup at h ⊢;rw[iR];exact h.imp λhne z=>hne (hU z)
def NF{l:aC}(h:l.Nodup)(b:l.length<=1000):xQ (l.map D.str)=Z (.int l.length):=by unfold xQ;rw[Jy];simp only[ag,b,if_true];unfold AQ;rw[UQ _ [] (by simpa using zt h)];simp
def zC(neg:Bool)(a b:Int):en neg (.int a) (.int b)=Z (.U (if neg then !decide (a=b)else decide (a=b))):=by
 have e:Jn neg (.int a) (.int b)=Z (.U (if neg then !decide (V.int a=V.int b)else decide (V.int a=V.int b))):=rfl;have e2:decide (V.int a=V.int b)=decide (a=b):=by
  by_cases h:a=b
  .subst h;simp
  .rw[bq h,bq (λz=>h (by injection z))]
 unfold en;rw[e,e2]
def vd(b:e ρ=Z (.U γ,ρ1)):v3 e e' ρ=e' ρ1:=by unfold v3;rw[b]
def vz{g:Nat->Option (aY->Option D)}{m:Str}{c:Nat}{b:aC}{i:aY->Option D}(j:e ρ=Z (.obj c b xs,ρ1))(l:g c=Z i)(o:b.contains m=δ)(p:a ρ1=Z (ys,ρ2))(q:i (.obj c b xs::ys)=Z d):vh g m e a ρ=Z (d,ρ2):=by unfold vh;rw[j];simp only[l,o,p,q];rfl
def Qt{c:Nat}{g:aY->Option (aC×aY)}{b:aC}(i:a ρ=Z (ds,ρ1))(j:g ds=Z (b,xs)):vC c g a ρ=Z (.obj c b xs,ρ1):=by unfold vC;rw[i];simp only[j]
def Bi(i:ds.length=j)(h:b (L4.A? n ds)=Z (.nx ρ)):eb j n b ds=Z .J:=by unfold eb;rw[aj i,h]
def EF(i:ds.length=j)(h:b (L4.A? n ds)=Z (.rn xs ρ)):eb j n b ds=Z (.b4 xs):=by unfold eb;rw[aj i,h]
theorem zN:∀{b:List dr} {ds:aY} {k:dr} {d:D},b.Nodup->(k,d)∈b.zip ds->wG b ds k=Z d
 |[],_,k,d,_,h=>by simp at h
 |j::b,[],k,d,_,h=>by simp at h
 |j::b,l::ds,k,d,i,h=>by
  unfold wG;rw[fF]at h;rcases aM.1 h with e|h
  .cases e;rw[aj J]
  .rw[dv]at i;rw[ak (λz=>i.1 (by subst z;exact(jY h).1))];exact zN i.2 h
theorem GE:∀{b:List dr} {ds:aY} {k:dr},k∉b->wG b ds k=O
 |[],ds,k,_=>by unfold wG;rfl
 |i::b,[],k,_=>by unfold wG;rfl
 |i::b,j::ds,k,h=>by unfold wG;rw[ak (λz=>h (by subst z;exact ba))];exact GE λz=>h (bc _ z)
end
end L4
namespace L4
open PySem PySem.Spec PyProof.Rows L2 L3
open PySem.W (nsIn findIn keepIn isFn makesIn fnOf)
def O3{b:Type}:Nat->(List b->Prop)->Prop
 |0,P=>P []
 |n+1,P=>∀a,O3 n λl=>P (a::l)
theorem IJ{b:Type}:∀{n:Nat} {P:List b->Prop},O3 n P->∀l,l.length=n->P l
 |0,P,h,[],_=>h
 |n+1,P,h,a::l,e=>IJ (h a) l (i8 e)
structure CF(K:av)(C:Addr)(xs:aC):Prop where
 ci:Nr K C
 mks:makesIn K C=γ
 kp:keepIn K (.ref C)=γ
 na:(xs.all λx=>match findIn K (.ref C) x with|some O=>γ|_=>δ)=γ
set_option tactic.hygienic true
theorem CF.at{K:av}(c:CF K C xs)(i:Nat)(h:xs[i]?=Z x):Q? K C/\Bf K C x:=⟨c.ci.cl,by
 have e:=aQ.1 c.na x (bL h);split at e
 .rename_i a;exact a
 .cases e⟩
set_option tactic.hygienic false
def ya{Q:Nat->Prop}{i:Nat}(h:Q i):∀c,(c==i)=γ->Q c:=λc e=>by rw[beq_iff_eq]at e;subst e;exact h
def τ{Q:Nat->Prop}{p:Nat->Bool}{i:Nat}(h:∀c,p c=γ->Q c)(a:Q i):∀c,(p c||c==i)=γ->Q c:=λc e=>by
 rw[jZ]at e;rcases e with e|e
 .exact h c e
 .exact ya a c e
structure Yw(P:aB)(w:aw)(mg:Str->Option aa)(b1:Heap)(G:Bg):Prop where
 m:∃h:Heap,G.K.In h/\h.Ns aZ mg
section
variable{P:aB}{w:aw}{mg:Str->Option aa}{b1:Heap}{G:Bg}{x m qual:Str}{st:Stmt}{N ps:aC}{k c:Nat}{K:av}
def Yw.g(y:Yw P w mg b1 G)(e:nsIn G.K aZ x=Z (Z v)):mg x=Z v:=by obtain⟨h,X,a⟩:=y.m;exact ji X a e
set_option tactic.hygienic true
def Yw.n(y:Yw P w mg b1 G){xs:aC}(h:(xs.all λx=>match nsIn G.K aZ x with|some O=>γ|_=>δ)=γ)(i:Nat)(d:xs[i]?=Z x):mg x=O:=by
 obtain⟨f,X,a⟩:=y.m;have e:=aQ.1 h x (bL d);split at e
 .rename_i b;exact W.mg_none_of X a b
 .cases e
set_option tactic.hygienic false
def GC(K:av)(x:Str)(i:Int):Prop:=∃t:Tok,nsIn K aZ x=Z (Z (.int i t))
def Yw.ci(y:Yw P w mg b1 G)(q:GC G.K x i):AX G mg x (.int i):=by obtain⟨h,X,a⟩:=y.m;obtain⟨t,e⟩:=q;exact W' X a e
def GS(K:av)(x:Str)(d:aC):Prop:=∃(a:Addr) (o:Obj) (b:Array aa) (n:Nat),nsIn K aZ x=Z (Z (.ref a))/\K.lookup a=Z o/\o.cls=.type "tuple" /\ o.data=.seq b n/\b.size<=1000/\B6 b.toList d
def Yw.cs(y:Yw P w mg b1 G)(q:GS G.K x b):AX G mg x (.c4 (b.map D.str)):=by obtain⟨h,X,d⟩:=y.m;obtain⟨a,o,r,n,e,l,f,i,j,p⟩:=q;exact O2 b X d e l f i j p
def GD(K:av)(x:Str)(st:Stmt):Prop:=∃(f:Addr) (a:bU),nsIn K aZ x=Z (Z (.ref f))/\T? K x x st f a
def GM(K:av)(C:Addr)(m qual:Str)(st:Stmt):Prop:=∃(f:Addr) (a:bU),findIn K (.ref C) m=Z (Z (.ref f))/\isFn K (.ref f)=γ/\T? K m qual st f a
def GJ(K:av)(C:Addr)(qual:Str)(st:Stmt)(b:bA):Prop:=∃(f:Addr) (a:bU) (T:Addr) (o:Obj) (dl:List aa) (n:Nat),findIn K (.ref C) "__init__" = Z (Z (.ref f))/\isFn K (.ref f)=γ/\RF K "__init__" qual st f a T/\K.lookup T=Z o/\o.data=.seq dl.toArray n/\de b dl
abbrev Bdy(P:aB)(w:aw)(K:av)(mg:Str->Option aa)(b1:Heap)(N:aC)(qual:Str)(st:Stmt)(k:Nat)(t:TS):Prop:=∀(f:Addr) (cdv:aa) (A:aG) (cf:List Env) (s:af) (H:Hp) (E:XK),xj k (A.deeper (envOfC qual (vn st) s.heap.objs.size f cdv))->k? (Fn P w K mg b1 N qual st f cdv A cf s H E) (vQ st) t
abbrev J?(x qual:Str)(st:Stmt)(ps:aC):Prop:=O3 ps.length λa=>∀(kV doc e:aa) (b:Option Addr) (cdv d:aa),bindArgs (fnOf x qual (yM st) (vQ st) (vn st) .none kV doc e b cdv d) ⟨a,[]⟩=pure (ps.zip a)
theorem J?.ok(b:J? x qual st ps)(F:T? K x qual st f e):jj K e ps []:=F.oe λkV doc i a cdv d j h=>IJ b j h kV doc i a cdv d
theorem gD(y:Yw P w mg b1 G)(q:GD G.K x st)(d:J? x x st ps)(ok:∀f b,T? G.K x x st f b->zi P w G.K mg b1 ze k f b ps e):Dh P w G.K mg b1 k x ps e:=by obtain⟨f,b,a,F⟩:=q;exact⟨f,b,y.g a,F.kp,d.ok F,ok f b F⟩
def gF(d:g=eb h n b)(y:Yw P w mg b1 G)(q:GD G.K x st)(S:xl N ps (vn st))(body:Bdy P w G.K mg b1 N x st k (iE G b))(e:ps.length=h:=by rfl)(hN:N.length=n:=by rfl)(a:J? x x st ps:=by (repeat intro _);rfl):Dh P w G.K mg b1 (k+1) x ps (et G g):=
 gD y q a λf i F=>Qe d e hN F S (body f)
def gN'(d:g=sh h n b)(y:Yw P w mg b1 G)(q:GD G.K x st)(S:xl N ps (vn st))(body:Bdy P w G.K mg b1 N x st k (iE G b))(e:ps.length=h:=by rfl)(hN:N.length=n:=by rfl)(a:J? x x st ps:=by (repeat intro _);rfl):Dh P w G.K mg b1 (k+1) x ps (q? G g):=
 gD y q a λf i F=>aee d e hN F S (body f)
def gM(d:g=qx h n b)(y:Yw P w mg b1 G)(q:GD G.K x st)(S:xl N (p::ps) (vn st))(body:Bdy P w G.K mg b1 N x st k (iE G b))(e:ps.length=h:=by rfl)(hN:N.length=n:=by rfl)(a:J? x x st (p::ps):=by (repeat intro _);rfl):Dh P w G.K mg b1 (k+1) x (p::ps) (rh G g):=
 gD y q a λf i F=>aef d e hN F S (body f)
def gI(h:g=ro c o n b)(y:Yw P w mg b1 G)(C:CF G.K (G.ca c) r)(a:nsIn G.K aZ x=Z (Z (.ref (G.ca c))))(q:GM G.K (G.ca c) "__init__" qual st)(S:xl N (p::ps) (vn st))(body:Bdy P w G.K mg b1 N qual st k (iE G b))(j:ps.length=o:=by rfl)(hN:N.length=n:=by rfl)(d:J? "__init__" qual st (p::ps):=by (repeat intro _);rfl):L1 G P w mg b1 (k+1) x c (p::ps) [] g:=by obtain⟨f,e,i,l,F⟩:=q;exact⟨f,e,[],⟨C.mks,i,l,C.kp⟩,y.g a,d.ok F,.nil,aeg h j hN F S (body f)⟩
def NG(h:de d b):b.length=d.length:=by
 induction h with
 |nil=>rfl
 |cons _ _ a=>rw[aN,aN,a]
def Se(h:de f e):∀j,de (f.drop j) (e.drop j):=by
 induction h with
 |nil=>intro j;rw[q9,q9];exact .nil
 |cons a b d=>
  intro j;cases j with
  |zero=>exact .cons a b
  |succ j=>exact d j
theorem gJ(E:g=ro c Q n b)(y:Yw P w mg b1 G)(C:CF G.K (G.ca c) R)(a:nsIn G.K aZ x=Z (Z (.ref (G.ca c))))(q:GJ G.K (G.ca c) qual st z)(S:xl N (p::ps) (vn st))(body:Bdy P w G.K mg b1 N qual st k (iE G b))(j:Nat)(I:ps.length=Q:=by rfl)(hN:N.length=n:=by rfl)
  (A:O3 z.length λdl=>O3 ((p::ps).length - (z.drop j).length) λd=>∀(T:Addr) (kV doc u:aa) (h:Option Addr) (cdv t:aa),∃k,bindArgs (fnOf "__init__" qual (yM st) (vQ st) (vn st) (.ref T) kV doc u h cdv t) ⟨d,[]⟩=seqItems? (.ref T)>>=k/\k (Z dl.toArray)=pure ((p::ps).zip (d++dl.drop j)):=by (repeat intro _);exact⟨_,J,J⟩):L1 G P w mg b1 (k+1) x c (p::ps) (z.drop j) g:=by
 obtain⟨f,B,T,o,dl,n,i,M,F,l,e,r⟩:=q;refine⟨f,B,dl.drop j,⟨C.mks,i,M,C.kp⟩,y.g a,F.oe l e λkV doc u h cdv t d H=>?_,Se r j,aaO E I hN F S (body f)⟩;exact IJ (IJ A dl (NG r)) d (by rw[H,fI,fI,NG r]) T kV doc u h cdv t
end
end L4
namespace L4
open PySem PySem.Spec PyProof.Rows L2 L3
def D'(a b:Str):Bool:=decide (a.cps.toList<=b.cps.toList)
def Dm(a:aC):aC:=a.mergeSort D'
def Jz(a b c:Str)(h:D' a b=γ)(d:D' b c=γ):D' a c=γ:=bg (List.le_trans (bp h) (bp d))
def IK(a b:Str):(D' a b||D' b a)=γ:=by
 rw[jZ];rcases List.le_total a.cps.toList b.cps.toList with h|h
 .exact .inl (bg h)
 .exact .inr (bg h)
def JA(a b:Str)(h:D' a b=γ)(c:D' b a=γ):a=b:=by have e:=List.le_antisymm (bp h) (bp c);cases a with|mk a=>cases b with|mk b=>cases a;cases b;simp only at e;rw[e]
theorem GF:∀(r:aC) (x:Str),risingS x r=γ->(∀y∈r,D' x y=γ)/\r.Pairwise λa b=>D' a b=γ
 |[],x,_=>⟨λy h=>(cw h).elim,.nil⟩
 |z::r,x,h=>by
  unfold risingS at h;rw[aU,fH,ltCps_eq]at h;obtain⟨j,l⟩:=h;obtain⟨d,i⟩:=GF r z l;have f:D' x z=γ:=bg (of_decide_eq_false j);refine⟨λy c=>?_,.cons d i⟩;rcases aM.1 c with e|c
  .rw[e];exact f
  .exact Jz _ _ _ f (d y c)
def O4:∀l:aC,sortedS l=γ->l.Pairwise λa b=>D' a b=γ
 |[],_=>.nil
 |x::r,h=>.cons (GF r x h).1 (GF r x h).2
def O5{l:aC}(p:l.Perm c)(h:sortedS l=γ):l=Dm c:=
 lD (λa b y y=>JA a b) (O4 l h) (jF Jz IK c) (p.t (iH c D').symm)
theorem YX:∀{a:List aa} {b:aC},l8 a b->de (b.map V.str) a
 |_,_,.nil=>.nil
 |_,_,.cons x t h=>.cons ⟨t,J⟩ (YX h)
section
variable{X:Cx}{G:Bg}{pins:cE}{σ:St}{H:Hp}{s:af}
theorem JB:∀a:aC,b? G H (a.map D.str) (a.map V.str)
 |[]=>vJ
 |x::a=>vM (zB x) (JB a)
end
section
variable{P:aB}{w:aw}{mg:Str->Option aa}{b1:Heap}{G:Bg}{x m qual:Str}{st:Stmt}{N ps:aC}{k c:Nat}
abbrev Bdi(P:aB)(w:aw)(K:av)(mg:Str->Option aa)(b1:Heap)(N:aC)(qual:Str)(st:Stmt)(k:Nat)(t:TS):Prop:=∀{f:Addr} {cdv:aa} {A:aG} {cf:List Env} {s:af} {H:Hp} {E:XK},xj k (A.deeper (envOfC qual (vn st) s.heap.objs.size f cdv))->k? (Fn P w K mg b1 N qual st f cdv A cf s H E) (vQ st) t
end
end L4
namespace L4
open PySem PySem.Spec PySem.Calls PyProof.Rows PySem.W L2 L3
structure Sto(c:Nat->Nat->Bool)(n:Nat):Prop where
 tr:∀i j k,i<n->j<n->k<n->c i j=γ->c j k=γ->c i k=γ
 tot:∀i j,i<n->j<n->i≠j->c i j=δ->c j i=γ
end L4
namespace L4
open PySem PySem.Spec PyProof.Rows L2 L3
section
variable{prog:aB}{w:aw}{A:aG}{E:aa->af->Prop}{s:af}
def O6(a:s.heap.IsTupleIter j t i)(c:s.heap.IsTuple t xs)(d:xs[i]?=Z x)
  (q:∀g,g.IsTupleIter j t (i+1)->dA j s.heap g->Q x { s with heap:=g }):ah (model prog w) A (iy (.ref j)) Q E s:=by
 obtain⟨ob,h0,b,hd⟩:=id a;obtain⟨ot,e,_,nt,f⟩:=c;refine ae (f6 a.typeIs jy (dt jy a.typeIs om ?_ (oj _)));show ah _ _ (field (.ref j) 0>>=_) _ _ _;refine ae (cM h0 hd J ?_);show ah _ _ (if (Value.ref t==Value.none)=γ then _ else _) _ _ _;rw[ak (show ¬((Value.ref t==.none)=γ) from br)];refine ae (cM h0 hd J ?_);refine ae (dJ e f ?_);simp only[gj,d];refine ae (fL h0 hd (by simp) (aq ⟨x,J,aq (q _ ?_ (c6 ..))⟩));exact⟨_,eK _ h0 (iC (dU hd _)),(jT ..).t b,by rw[dU hd];simp[rawInt]⟩
def Sf(b:A.handled=O)(a:s.heap.IsTupleIter j t i)(c:s.heap.IsTuple t xs)(d:xs[i]?=O)
  (q:∀g e,nF j s.heap g->(∃o,g.get? e=Z o/\o.cls=.type "StopIteration")->E (.ref e) { s with heap:=g }):ah (model prog w) A (iy (.ref j)) Q E s:=by
 obtain⟨ob,h0,l,hd⟩:=id a;obtain⟨ot,f,_,nt,h⟩:=c;refine ae (f6 a.typeIs jy (dt jy a.typeIs om ?_ (oj _)));show ah _ _ (field (.ref j) 0>>=_) _ _ _;refine ae (cM h0 hd J ?_);show ah _ _ (if (Value.ref t==Value.none)=γ then _ else _) _ _ _;rw[ak (show ¬((Value.ref t==.none)=γ) from br)];refine ae (cM h0 hd J ?_);refine ae (dJ f h ?_);simp only[gj,d];refine ae (eA (ae (fL h0 hd (by simp) ?_)));show ah _ _ (newExc (.type "StopIteration") []>>=_) _ _ _;refine ae ?_;simp only[newExc,newTuple];refine ae (dj ?_ (by size_fits));refine ae (nD (by first|rfl|(simp only[firstArgMember];rfl)) ?_);refine dj ?_ (by size_fits);simp only[raiseNew];refine ae (ra ?_)
 first|rw[show A.in1.handled=O from b]|rw[b]
 refine ae (aq (wpAny_throw ?_));exact q _ _ (((c6 ..).extBut.push _).push _) ⟨_,aX _ J,J⟩
def O7{z TI TO i1 i2 t l:Addr}{k:Nat}{xs W:Array aa}{x y a b:aa}{Q:aa->af->Prop}(D:ik z TI TO i1 i2 t l)(j:dc s.heap z TI TO .none)(hTI:cH s.heap TI (.ref i1) (.ref i2))(hTO:cH s.heap TO a b)(h1:s.heap.IsTupleIter i1 t k)(h2:s.heap.IsListIter i2 l k)(ht:s.heap.IsTuple t xs)(hl:s.heap.IsList l W)(hx:xs[k]?=Z x)(hy:W[k]?=Z y)
  (q:∀g,dc g z TI TO (rawInt s.heap.objs.size)->cH g TO x y->g.IsTupleIter i1 t (k+1)->g.IsListIter i2 l (k+1)->cH g s.heap.objs.size x y->g.objs.size=s.heap.objs.size+1->(∀c o,c≠z->c≠TO->c≠i1->c≠i2->s.heap.get? c=Z o->g.get? c=Z o)->Q (.ref s.heap.objs.size) { s with heap:=g }):
  ah (model prog w) A (cP.«zip.__next__» ⟨[.ref z],[]⟩) (λfin s'=>∃v,fin=.done (.ret v)/\Q v s') E s:=by
 show ah _ _ (field (.ref z) 2>>=_) _ _ s;refine ae (cM j J J ?_);show ah _ _ (field (.ref z) 3>>=_) _ _ s;refine ae (cM j J J (ae (dJ hTI J ?_)));show ah _ _ (jw (.ref z)>>=_) _ _ s;refine ae ?_;unfold jw;refine ae (cM j J J (aq ?_));simp only[if_true];refine ae (eA (ae (cM j J J (ae (iK j (by simp) λN I f=>?_)))));replace I:dc N z TI TO .ellipsis:=I;refine ae ?_;simp only[qh,qB,mI,qR];refine ae (ae (mY ?_));show ah _ _ (iy (.ref i1)>>=_) _ _ { s with heap:=N };refine ae (O6 (h1.extBut f.extBut D.i1z) (ht.extBut f.extBut D.l1z) hx λgb jb h=>aq ?_);have S:=h.extBut _ _ D.TOi1 (f.extBut _ _ D.TOz hTO);refine ae (dJ S J (ae (oX S λP H i=>?_)));replace H:cH P TO x b:=H;refine ae (nG (aq (ae (ae (mY ?_)))));show ah _ _ (iy (.ref i2)>>=_) _ _ { s with heap:=P };refine ae (wpAny_nextOf_list_item (((h2.extBut f.extBut D.i2z).extBut h.extBut D.i12.symm).extBut i.extBut D.TOi2.symm) (((hl.extBut f.extBut D.l2z).extBut h.extBut D.l2i1).extBut i.extBut D.l2TO) hy λgd jd kd=>aq ?_);have T:=kd.extBut _ _ D.TOi2 H;refine ae (dJ T J (ae (oX T λd r m=>?_)));replace r:cH d TO x y:=r;refine ae (nG (aq (aq (ae (dJ r J (ae (mR ?_)))))));have sz:d.objs.size=s.heap.objs.size:=by rw[m.1,kd.1,i.1,h.1,f.1]
 have X:=m.extBut _ _ D.TOz.symm (kd.extBut _ _ D.i2z.symm (i.extBut _ _ D.TOz.symm (h.extBut _ _ D.i1z.symm I)));have kk:∀c o,c≠z->c≠TO->c≠i1->c≠i2->s.heap.get? c=Z o->d.get? c=Z o:=λc o c1 c2 B C e=>m.extBut _ _ c2 (kd.extBut _ _ C (i.extBut _ _ c2 (h.extBut _ _ B (f.extBut _ _ c1 e))));have j1:=((jb.extBut i.extBut D.TOi1.symm).extBut kd.extBut D.i12).extBut m.extBut D.TOi1.symm;have j2:=jd.extBut m.extBut D.TOi2.symm;have Y:=aL X;refine ae ?_;unfold sM;have zf:dc (d.push { cls:=.type "tuple", data:=.seq #[x,y] }) z TI TO .ellipsis:=aA _ X;refine ae (iK zf (by simp) λgg M F=>?_);replace M:dc gg z TI TO (rawInt d.objs.size):=M;refine iK M (by simp) λp u G=>?_;replace u:dc p z TI TO (rawInt d.objs.size):=u;have up:∀c o,c≠z->d.get? c=Z o->p.get? c=Z o:=λc o c1 e=>G.extBut _ _ c1 (F.extBut _ _ c1 (aA _ e));have U:=G.extBut _ _ (dM Y) (F.extBut _ _ (dM Y) (aX _ J));have R:p.objs.size=d.objs.size+1:=by rw[G.1,F.1,cy]
 rw[sz]at u U R;refine aq ⟨_,J,?_⟩;rw[sz];obtain⟨o1,e1,r1⟩:=j1;exact q p u (up _ _ D.TOz r) ⟨o1,up _ _ D.i1z e1,r1⟩ (j2.at λo e=>up _ o D.i2z e) U R λc o c1 c2 B C e=>up c o c1 (kk c o c1 c2 B C e)
def Sg{TI TO:Addr}(y:A.handled=O)(D:ik z TI TO i1 i2 t l)(d:dc s.heap z TI TO .none)(hTI:cH s.heap TI (.ref i1) (.ref i2))(h1:s.heap.IsTupleIter i1 t k)(B:s.heap.IsTuple t xs)(C:xs[k]?=O)
  (q:∀g e,(∀c o,c≠z->c≠i1->s.heap.get? c=Z o->g.get? c=Z o)->(∃o,g.get? e=Z o/\o.cls=.type "StopIteration")->E (.ref e) { s with heap:=g }):ah (model prog w) A (cP.«zip.__next__» ⟨[.ref z],[]⟩) Q E s:=by
 show ah _ _ (field (.ref z) 2>>=_) _ _ s;refine ae (cM d J J ?_);show ah _ _ (field (.ref z) 3>>=_) _ _ s;refine ae (cM d J J (ae (dJ hTI J ?_)));show ah _ _ (jw (.ref z)>>=_) _ _ s;refine ae ?_;unfold jw;refine ae (cM d J J (aq ?_));simp only[if_true];refine ae (eA (ae (cM d J J (ae (iK d (by simp) λi h f=>?_)))));replace h:dc i z TI TO .ellipsis:=h;refine ae ?_;simp only[qh,qB,mI,qR];refine ae (ae (mY ?_));show ah _ _ (iy (.ref i1)>>=_) _ _ { s with heap:=i };refine ae (Sf y (h1.extBut f.extBut D.i1z) (B.extBut f.extBut D.l1z) C λgb e j x=>?_);obtain⟨F,a,b⟩:=x;have p:=j _ _ D.i1z.symm h;have ne:e≠z:=λw=>by subst w;rw[p]at a;cases a;simp at b
 exact iK p (by simp) λu v m=>q u e (λc o c1 r w=>m.extBut _ _ c1 (j _ _ r (f.extBut _ _ c1 w))) ⟨F,m.extBut _ _ ne a,b⟩
def O8{TI TO:Addr}(D:ik z TI TO i1 i2 t l)(d:dc s.heap z TI TO .none)(hTI:cH s.heap TI (.ref i1) (.ref i2))(hTO:cH s.heap TO a b)(h1:s.heap.IsTupleIter i1 t k)(h2:s.heap.IsListIter i2 l k)(f:s.heap.IsTuple t xs)(e:s.heap.IsList l j)(h:xs[k]?=Z x)(i:j[k]?=Z y)
  (q:∀g,dc g z TI TO (rawInt s.heap.objs.size)->cH g TO x y->g.IsTupleIter i1 t (k+1)->g.IsListIter i2 l (k+1)->cH g s.heap.objs.size x y->g.objs.size=s.heap.objs.size+1->(∀c o,c≠z->c≠TO->c≠i1->c≠i2->s.heap.get? c=Z o->g.get? c=Z o)->Q (Z (.ref s.heap.objs.size)) { s with heap:=g }):
  ah (model prog w) A (pyNext (.ref z)) Q E s:=by
 have T:s.TypeIs (.ref z) "zip" := ⟨_,d,J⟩;exact ae (mZ (f6 T j5 (dt j5 T qj (O7 D d hTI hTO h1 h2 f e h i λg a1 a2 a3 a4 a5 a6 a7=>aq (q g a1 a2 a3 a4 a5 a6 a7)) (pO _))))
def Sh{TI TO:Addr}(h:A.handled=O)(D:ik z TI TO i1 i2 t l)(a:dc s.heap z TI TO .none)(hTI:cH s.heap TI (.ref i1) (.ref i2))(h1:s.heap.IsTupleIter i1 t k)(i:s.heap.IsTuple t xs)(j:xs[k]?=O)
  (q:∀g,(∀c o,c≠z->c≠i1->s.heap.get? c=Z o->g.get? c=Z o)->Q O { s with heap:=g }):ah (model prog w) A (pyNext (.ref z)) Q E s:=by
 have T:s.TypeIs (.ref z) "zip" := ⟨_,a,J⟩;refine ae (mZ (f6 T j5 (dt j5 T qj (Sg h D a hTI h1 i j λg e m f=>?_) (pO _))));obtain⟨o,b,d⟩:=f;exact ae (mC ⟨o,b,d⟩ qS (aq (q _ m)))
end
abbrev zq1(h:Heap)(t:Addr):Heap:=h.push { cls:=.type "tuple_iterator", data:=.fields #[.ref t,.int 0 0] }
abbrev zq2(h:Heap)(t l:Addr):Heap:=(zq1 h t).push { cls:=.type "list_iterator", data:=.fields #[.ref l,.int 0 0] }
abbrev zq3(h:Heap)(t l:Addr):Heap:=(zq2 h t l).push { cls:=.type "tuple", data:=.seq #[.ref h.objs.size,.ref (zq1 h t).objs.size] }
abbrev zq4(h:Heap)(t l:Addr):Heap:=(zq3 h t l).push { cls:=.type "tuple", data:=.seq #[.none,.none] }
abbrev zq5(h:Heap)(t l:Addr):Heap:=(zq4 h t l).push { cls:=.type "zip", data:=.fields #[.none,.bool δ,.bool δ,.ref (zq2 h t l).objs.size,.ref (zq3 h t l).objs.size] }
def Si(t l:Addr)(xs a:Array aa):Meets (cP.«zip.__new__» ⟨[.type "zip", .ref t,.ref l],[]⟩) (λy R s=>s.heap.IsTuple t xs/\s.heap.IsList l a/\R (.ok (.ret (.ref (zq4 s.heap t l).objs.size))) { s with heap:=zq5 s.heap t l }):=
 .of_wp λprog w A R s h=>by
  obtain⟨c,g,d,tk,os⟩:=s;obtain⟨e,b,h⟩:=h;have hs:=sub_zip;have H1:=e;have H2:Heap.IsList (Shared.heap ⟨c.push { cls:=.type "tuple_iterator", data:=.fields #[.ref t,.int 0 0] },g,d,tk,os⟩) l a:=uN b _
  wp_walk using jM H1,fG H2
  exact⟨_,J,h⟩
section
variable{prog:aB}{w:aw}{A:aG}{E:aa->af->Prop}{s:af}
theorem O9(p:s.heap.IsTuple t xs)(m:s.heap.IsList l u)
  (q:∀g,dc g (s.heap.objs.size+4) (s.heap.objs.size+2) (s.heap.objs.size+3) .none->cH g (s.heap.objs.size+2) (.ref s.heap.objs.size) (.ref (s.heap.objs.size+1))->cH g (s.heap.objs.size+3) .none .none->g.IsTupleIter s.heap.objs.size t 0->g.IsListIter (s.heap.objs.size+1) l 0->(∀c o,s.heap.get? c=Z o->g.get? c=Z o)->Q (.ref (s.heap.objs.size+4)) { s with heap:=g }):
  ah (model prog w) A (call (.type "zip") [.ref t,.ref l]) Q E s:=by
 refine callType_new F.called_zip (by decide) (F.typeCall_zip_2 _ _) (F.newCall_zip_2 _ _) (λobj=>F.args_object_init_3 obj _ _) F.entry_zip_new (Si t l xs u) ⟨p,m,?_⟩;have a:(zq1 s.heap t).objs.size=s.heap.objs.size+1:=cy ..;have s2:(zq2 s.heap t l).objs.size=s.heap.objs.size+2:=by rw[cy,a]
 have b:(zq3 s.heap t l).objs.size=s.heap.objs.size+3:=by rw[cy,s2]
 have f:(zq4 s.heap t l).objs.size=s.heap.objs.size+4:=by rw[cy,b]
 have d:(zq5 s.heap t l).get? (zq4 s.heap t l).objs.size=Z _:=aX _ J;have j:(zq5 s.heap t l).get? (zq3 s.heap t l).objs.size=Z _:=aA _ (aX _ J);have i:(zq5 s.heap t l).get? (zq2 s.heap t l).objs.size=Z _:=aA _ (aA _ (aX _ J));have h:(zq5 s.heap t l).get? (zq1 s.heap t).objs.size=Z _:=aA _ (aA _ (aA _ (aX _ J)));have r:(zq5 s.heap t l).get? s.heap.objs.size=Z _:=aA _ (aA _ (aA _ (aA _ (aX _ J))));rw[s2,b,f]at d;rw[a,s2]at i;rw[b]at j;rw[a]at h;rw[f];exact⟨⟨_,d,J⟩,q _ d i j ⟨_,r,J,J⟩ ⟨_,h,J,J⟩ λc o e=>aA _ (aA _ (aA _ (aA _ (aA _ e))))⟩
end
def ItzT(K:av)(t l:Addr)(a b:bA):It:=
 ⟨λi H=>∃x y,e? K H t a/\H l=Z (.b4 b)/\a[i]?=Z x/\b[i]?=Z y,
  λi H v c=>∃p x y,H p=O/\v=.ref p/\c=eg H p (.c4 [x,y])/\a[i]?=Z x/\b[i]?=Z y,
  λi H=>e? K H t a/\H l=Z (.b4 b)/\a.length<=i⟩
def zTt(z TI TO c d t l:Addr)(i:Nat)(h:Heap):Prop:=dc h z TI TO .none/\cH h TI (.ref c) (.ref d)/\(∃a b,cH h TO a b)/\h.IsTupleIter c t i/\h.IsListIter d l i
def Sj{P:aB}{w:aw}{K:av}{elts:List Expr}{x1}{pos:Pos}{z TI TO i1 i2 t l:Addr}{xs T:bA}(D:ik z TI TO i1 i2 t l):O? P w K (.Tuple elts x1 pos) (ItzT K t l xs T) [z,TI,TO,i1,i2] z (zTt z TI TO i1 i2 t l) where
 mem:=by simp
 obj:=λi h st b hb=>by
  obtain⟨j,h1,⟨a,c,h2⟩,⟨A,h3,_,d3⟩,⟨o4,h4,_,d4⟩⟩:=st;simp only[aM,cw,or_false]at hb;rcases hb with rfl|rfl|rfl|rfl|rfl
  .exact⟨_,j,λv y=>nomatch y⟩
  .exact⟨_,h1,λv y=>nomatch y⟩
  .exact⟨_,h2,λv y=>nomatch y⟩
  .exact⟨A,h3,λv y=>by rw[d3]at y;cases y⟩
  .exact⟨o4,h4,λv y=>by rw[d4]at y;cases y⟩
 keep:=λi h h' st k=>by obtain⟨j,h1,⟨a,c,h2⟩,⟨A,h3,r3⟩,h4⟩:=st;exact⟨k z (by simp) _ j,k TI (by simp) _ h1,⟨a,c,k TO (by simp) _ h2⟩,⟨A,k i1 (by simp) A h3,r3⟩,h4.at λo e=>k i2 (by simp) o e⟩
 item:=by
  intro X hP hw hK d i pins s σ H E I hf st hg;subst hP hw hK;obtain⟨x,y,Q,W,Y,qy⟩:=hg;obtain⟨j,hTI,⟨a,b,hTO⟩,h1,h2⟩:=st;obtain⟨M,r1,N,_⟩:=I.tuple Q;obtain⟨jts,r2,p2,_⟩:=I.list (fb.of W);obtain⟨u1,C,R⟩:=r1.get Y;obtain⟨u2,F,S⟩:=r2.get qy;have lt:∀{c:Addr} {o:Obj},s.heap.get? c=Z o->s.heap.objs.size≠c:=λe w=>ar (aL e) (by rw[w];exact d8 _);refine O8 D j hTI hTO h1 h2 N p2.isList (by simpa using C) (by simpa using F) λh' a1 a2 a3 a4 a5 a6 r=>?_;refine⟨_,J,wpAny_letOwnedTupleGo_zip a1 λB G p=>?_⟩;have Tz:=lt j;have U:=p.extBut _ _ Tz a5;have f:∀b∈[z,TO,i1,i2],b∈[z,TI,TO,i1,i2]:=λb hb=>by simp at hb ⊢;rcases hb with rfl|rfl|rfl|rfl<;>simp
  have ok:ef X.prog X.w (eg H s.heap.objs.size (.c4 [x,y])) B s.heap.objs.size (.c4 [x,y]):=⟨by rw[bO];show 2<=16777216;decide,[u1,u2],.cons R (.cons S .nil),⟨_,U,J,_,J⟩,λo e=>by rw[show _=Z _ from U]at e;cases e;rfl⟩;have I1:=cb.P0 (t':=s.toks) I (λb hb=>hf b (f b hb))
   (λb o hb e=>p.extBut _ _ (λw=>hb (by simp[w])) (r b o (λw=>hb (by simp[w])) (λw=>hb (by simp[w])) (λw=>hb (by simp[w])) (λw=>hb (by simp[w])) e)) (aJ _) ok
  refine⟨.ref s.heap.objs.size,_,I1,J,⟨_,x,y,I.er.fresh (aJ _),J,J,Y,qy⟩,⟨G,p.extBut _ _ D.TIz (r _ _ D.TIz D.TITO D.TIi1 D.TIi2 hTI),⟨_,_,p.extBut _ _ D.TOz a2⟩,a3.extBut p.extBut D.i1z,a4.extBut p.extBut D.i2z⟩,λb hb=>?_⟩;rw[vb (λw=>?_)]
  .exact(hf b hb).1
  .simp only[aM,cw,or_false]at hb;rcases hb with hb|hb|hb|hb|hb
   .exact lt j (w.symm.t hb)
   .exact lt hTI (w.symm.t hb)
   .exact lt hTO (w.symm.t hb)
   .obtain⟨o,e,_⟩:=h1;exact lt e (w.symm.t hb)
   .obtain⟨o,e,_⟩:=h2;exact lt e (w.symm.t hb)
 done:=by
  intro X hP hw hK d i pins s σ H E I hf st hg;subst hP hw hK;obtain⟨Q,W,hend⟩:=hg;obtain⟨j,hTI,⟨a,b,hTO⟩,h1,h2⟩:=st;obtain⟨M,r1,N,_⟩:=I.tuple Q;have e1:=r1.length;refine Sh (I.ok.hd d) D j hTI h1 N (by simp;omega) λh' r=>⟨J,?_⟩;have f:∀b∈[z,i1],b∈[z,TI,TO,i1,i2]:=λb hb=>by simp at hb ⊢;rcases hb with rfl|rfl<;>simp
  have nch:∀{b:Addr} {u:HO},H b=Z u->b∉[z,i1]:=λe w=>by have:=(hf _ (f _ w)).1;rw[e]at this;cases this
  have k:∀b o,b∉[z,i1]->s.heap.get? b=Z o->h'.get? b=Z o:=λb o hb e=>r b o (λw=>hb (by simp[w])) (λw=>hb (by simp[w])) e;refine I.step (λb hb=>?_) (λb o _ _ d e _=>k b o d e) (λb o _ _ d e _=>⟨o.slots,k b o d e⟩) (λb o _ e n=>n) (λb o d e=>⟨o,k b o d e⟩)
   (λb T e=>e) (λb o u e=>e) (λb ps e=>⟨#[],by rw[e];simp⟩) (λm hm=>?_) (λb u e=>?_) I.gi
  .obtain⟨f0,f1,f2,f3,f4,f5⟩:=hf b (f b hb);exact⟨f3,f1,f4,f5⟩
  .exact hm.at' λo e=>k _ o (λw=>(hf _ (f _ w)).2.1 J) e
  .refine(I.er b u e).H4 (λc v d q=>k c v ?_ q) (λc q=>q) λc T q=>q;rcases d with rfl|d
   .exact nch e
   .exact nch d
 self:=λ_ _ _ _ _ st h=>qk st.1 h
section
variable{X:Cx}{G:Bg}{elts:List Expr}{x1:Nat}{tpos:Pos}
def YY(K:av)(f:TA):TI:=λi H R=>f i H λh c=>∃a b d e,h=[.ref a,.ref b]/\e? K c a d/\c b=Z (.b4 e)/\R (ItzT K a b d e) c
def XT(K:av){a b:Expr}{E:TA}{p pos:Pos}(hg:Gl X "zip")(hm:X.mg "zip" = O)(ha:PA X [a,b] E)(hK:X.K=K:=by rfl)(hs:az [a,b] X.b3=[(δ,eval a X.b3),(δ,eval b X.b3)]:=by rfl)(w:az [b] X.b3=[(δ,eval b X.b3)]:=by rfl):
  PI X (.Tuple elts x1 tpos) (.Call (.Name "zip" p) [a,b] [] pos) (YY K E):=by
 subst hK;intro pins s σ H R I h;refine Call_ (Be I hg hm boot_zip (callWith_type1 (e0 (ha pos pins s σ H _ I h) λus l zz=>?_) (by rw[hs,w]) (by rw[w];rfl)));obtain⟨vs,H1,r,r1,T⟩:=zz;obtain⟨z,A,xs,ys,rfl,N,P,q⟩:=T;obtain⟨u,v,rfl,U,W⟩:=za r1;cases U;cases W;obtain⟨Q,_,C,_⟩:=r.tuple N;obtain⟨jts,_,p2,_⟩:=r.list (fb.of P);refine O9 C p2.isList λh' F Y z3 z4 z5 S=>?_;refine qk F ?_;have M:cb X pins σ H1 { l with heap:=h' }:=r.fc S;have m:=aa1 l.heap.objs.size;have x:z<l.heap.objs.size:=by obtain⟨o,e,_⟩:=C;exact aL e
 have y:A<l.heap.objs.size:=by obtain⟨o,e,_⟩:=p2.isList;exact aL e
 have ne:∀{c:Addr} (n:Nat),c<l.heap.objs.size->c≠l.heap.objs.size+n:=λn h=>aT (ck h (dW _ _));have D:ik (l.heap.objs.size+4) (l.heap.objs.size+2) (l.heap.objs.size+3) l.heap.objs.size (l.heap.objs.size+1) z A:=⟨m.a,m.b,m.c,m.d,m.e,m.f,m.g,m.h,m.i,m.j,ne 4 x,ne 3 x,ne 0 x,ne 1 x,ne 4 y,ne 3 y,ne 0 y,ne 1 y⟩;refine⟨_,_,_,_,H1,J,M,Sj D,⟨F,Y,⟨_,_,z3⟩,z4,z5⟩,λc B=>?_,q⟩;have t:l.heap.objs.size<=c:=by simp only[aM,cw,or_false]at B;rcases B with rfl|rfl|rfl|rfl|rfl<;>first|exact dW _ _|exact aJ _
 exact r.K3 t (r.er.fresh t)
def iZT(f:FA):FA:=λd=>match f d with
 |some ([.c4 b,.b4 c],a)=>if b.length<=c.length then Z (OX b c,a)else O
 |_=>O
set_option tactic.hygienic true
def UR{tg e:Expr}{f:FA}(h:PI X tg e (YY G.K (o? G f))):PI X tg e (O' G (iZT f)):=PI.dd h λσ H R hh=>by
 obtain⟨F,ρ,H0,ds,ρ',R,e,k⟩:=hh;unfold iZT at e;split at e
 .rename_i E I ρ1 e1;split at e
  .rename_i hle;cases e;refine⟨F,ρ,H0,_,_,R,e1,λvs H1 H1' s C rs=>?_⟩;obtain⟨v1,r1,rfl,h1,rs⟩:=rs;obtain⟨v2,r2,rfl,h2,rs⟩:=rs;subst rs;obtain⟨a,xs,rfl,a1,S⟩:=h1;obtain⟨b,ys,rfl,T,b2⟩:=h2;refine⟨a,b,xs,ys,J,e?.mono C.sub a1,C.sub _ _ T,k _ _ _ s C λi B H2' t A=>?_⟩;have U:=e?.mono A (e?.mono t a1);have W:=A _ _ (t _ _ T);refine⟨λd c=>?_,λhl=>⟨U,W,?_⟩⟩
   .unfold OX at c;rw[oP]at c;cases z:E[i]? with
    |none=>rw[z]at c;cases c
    |some dx=>
     cases M:I[i]? with
     |none=>rw[z,M]at c;cases c
     |some dy=>
      rw[z,M]at c;cases c;obtain⟨P,u,x2⟩:=yi S z;obtain⟨Q,w,y2⟩:=yi b2 M;refine⟨⟨P,Q,U,W,u,w⟩,λx H3 y=>?_⟩;obtain⟨p,x',y',N,rfl,rfl,j,l⟩:=y;rw[u]at j;rw[w]at l;cases j;cases l;have Y:B p=O:=by
       cases q:B p with
       |none=>rfl
       |some o=>have:=A _ _ q;rw[N]at this;cases this
      refine⟨eg B p (.c4 [P,Q]),vm Y _,λb o e=>?_,vm N _,λb o e=>?_,DT (e?.of uZ) ?_⟩
      .by_cases r:b=p
       .subst r;rw[uZ]at e ⊢;exact e
       .rw[vb r]at e ⊢;exact A _ _ e
      .by_cases r:b=p
       .subst r;exact .inr N
       .rw[vb r]at e;exact .inl e
      .have m:=t.t (vm Y (.c4 [P,Q]));exact vM (df.mono m _ _ x2) (vM (df.mono m _ _ y2) vJ)
   .have:=uW S;rw[UA]at hl;omega
  .cases e
 .cases e
end
set_option tactic.hygienic false
end L4
namespace L4
open PySem PySem.Spec PySem.Calls PyProof.Rows PySem.W L2 L3
section
variable{X:Cx}{G:Bg}{pins:cE}{σ:St}{H:Hp}{s:af}
def Kw(K:av)(H:Hp)(y:V)(k:aC):Prop:=∃a p q,y=.ref a/\k=[p,q]/\e? K H a [.str p,.str q]
def US(I:cb X pins σ H s)(h:Kw X.K H y k)(r:dg y u):∃a p q t v,u=.ref a/\k=[p,q]/\eD s.heap a #[.str p t,.str q v]:=by
 obtain⟨a,p,q,rfl,rfl,b⟩:=h;cases r;obtain⟨c,i,j,_⟩:=I.tuple b;cases i with
 |cons d e=>
  obtain⟨t,rfl⟩:=d;cases e with
  |cons q3 f=>obtain⟨v,rfl⟩:=q3;cases f;exact⟨a,p,q,t,v,J,J,j⟩
end
section
variable{prog:aB}{w:aw}{A:aG}{s:af}
def It2(h:Heap)(b:List aa)(c:List aC):Prop:=∀i,i<b.length->∃a p q t v,b.getD i Value.none=.ref a/\c.getD i []=[p,q]/\eD h a #[.str p t,.str q v]/\b[i]?=Z (.ref a)
def Sk(item:It2 s.heap b H)(G:0<b.length)(hC:C (tuples' γ) s):ah (model prog w) A (keyKind' b.toArray) C (λ_ _=>False) s:=by
 have tz:∀(l:List aa),(∀v∈l,∃i,i<b.length/\b[i]?=Z v)->∃fs,KatTups s.heap l fs/\fs.length=l.length/\∀f∈fs,∃(x:Str) (t:Tok),f=.str x t:=λl=>by
  induction l with
  |nil=>exact λ_=>⟨[],KatTups.nil,J,λf hf=>by cases hf⟩
  |cons v l z=>
   intro c;obtain⟨fs,h,m,j⟩:=z λw y=>c w (.tail _ y);obtain⟨i,d,u⟩:=c v (.head _);obtain⟨a,p,q,t,w,_,_,⟨o,B,E,n,F⟩,r⟩:=item i d;rw[u]at r;cases r;refine⟨.str p t::fs,KatTups.cons B E F (by simp) h,by rw[aN,aN,m],λf hf=>?_⟩;rcases aM.1 hf with rfl|hf
   .exact⟨p,t,J⟩
   .exact j f hf
 obtain⟨fs,h,m,j⟩:=tz b λv c=>by obtain⟨i,d,e⟩:=l5.1 c;exact⟨i,d,by rw[bh d,e]⟩
 refine kat_kind (T:=.type "str") h (by omega) (λv c=>?_) (by decide) ?_
 .obtain⟨x,t,rfl⟩:=j v c;exact .now
 .rw[show (Value.type "str" != Value.type "tuple")=γ by decide];exact hC
def UT(item:It2 s.heap a e)(hij:i<a.length/\j<a.length)(hC:C (Kv (e.getD i []) (e.getD j [])) s):kB prog w A (tuples' γ) a i j C s:=by
 obtain⟨a1,b,c,f,l,q,x,⟨F,t,c1,B,o⟩,_⟩:=item i hij.1;obtain⟨z,p2,d,h,m,r,y,⟨G,u,c2,E,p⟩,_⟩:=item j hij.2;unfold kB;rw[q,r];rw[x,y]at hC;refine kat_lt t o u p ?_;show KatLex _ _ _ _ _ _ [(Value.str b f,Value.str p2 h),(Value.str c l,Value.str d m)] 0 _;refine kat_cons (mf b f p2 h _ _ _ _ ?_);unfold Kv at hC;by_cases hpp:b=p2
 .subst hpp;rw[aj J]at hC;rw[beq_self_eq_true];refine kat_yes (kat_cons (mf c l d m _ _ _ _ ?_));unfold Kv at hC;by_cases hqq:c=d
  .subst hqq;rw[aj J]at hC;rw[beq_self_eq_true];exact kat_yes (kat_nil hC)
  .rw[ak hqq]at hC;rw[beq_false_of_ne hqq];exact kat_no (kat_one _ _ (uC hC))
 .rw[ak hpp]at hC;rw[beq_false_of_ne hpp];exact kat_no (oneLt_str hC)
end
section
variable{X:Cx}{G:Bg}{pins:cE}{σ:St}{H:Hp}{s:af}
def Mb(hu:X.A.units+64<cLine):wM X (.builtin "sorted") (λxs H Q=>∃(a:Addr) (d:bA) (ks:List aC),xs=[.ref a]/\fb X.K H a d/\0<d.length/\d.length<64/\ks.length=d.length/\(∀(i:Nat) (y:V) (k:aC),d[i]?=Z y->ks[i]?=Z k->Kw X.K H y k)/\
  ∀p,H p=O->Q (.ref p) (eg H p (.b4 ((O1 (λi j=>Kv (ks.getD i []) (ks.getD j [])) d.length).map λi=>d.getD i V.J)))):=by
 intro pins s σ H xs us Q I r h;obtain⟨a,d,ks,rfl,Y,h1,R,hkl,W,q⟩:=h;obtain⟨u,rfl,w⟩:=gk r;cases w;obtain⟨f,m,T,ob,nn,hT,F,M,N⟩:=seq_val I (.inl Y);have S:d.length=f.length:=m.length;have item:∀{h':Heap},(∀b o,s.heap.get? b=Z o->h'.get? b=Z o)->It2 h' f ks:=λ{h'} l i hi=>by
  have E:cb X pins σ H { s with heap:=h',toks:=s.toks }:=I.fc l;have B:i<d.length:=by omega
  have z:i<ks.length:=by omega
  obtain⟨u,e,w⟩:=m.get (bh B);obtain⟨a,p,q,t,v,rfl,P,ti⟩:=US E (W i _ _ (bh B) (bh z)) w;refine⟨a,p,q,t,v,?_,?_,ti,e⟩
  .rw[cZ,e];rfl
  .rw[cZ,bh z];exact P
 refine O0 (κ:=tuples' γ) (c:=λi j=>Kv (ks.getD i []) (ks.getD j [])) hT F M N (by omega) (by omega) (λh' C l hC=>Sk (s:={ s with heap:=h' }) (item l) (by omega) hC) (λh' i j C l hij hC=>UT (s:={ s with heap:=h' }) (item l) hij hC) λg h' e k1 k2 U=>?_
 .have x:cb X pins σ H { s with heap:=g,toks:=s.toks }:=I.fc k1;refine⟨.ref g.objs.size,_,x.laid (t':=s.toks) k2 (aJ _) ?_,J,q _ (x.er.fresh (aJ _))⟩;have hn:0<d.length:=h1;refine⟨?_,GA _ f,e,?_,U⟩
  .rw[ag,(GB _ hn).length_eq,bS,bO];omega
  .unfold GA;rw[<-S];exact K4 m _ λi hi=>L9 _ hn i hi
end
def Sm:D->Option aC
 |.c4 [.str p,.str q]=>Z [p,q]
 |_=>O
def zp:aY->Option (List aC)
 |[]=>Z []
 |d::a=>match Sm d,zp a with
  |some k,Z b=>Z (k::b)
  |_,_=>O
def B7(a:aY):Option aY:=match zp a with
 |some b=>if 0<a.length/\a.length<64 then Z ((O1 (λi j=>Kv (b.getD i []) (b.getD j [])) a.length).map λi=>a.getD i .J)else O
 |none=>O
def Dn(f:FE):FA:=λd=>match f d with
 |some (.b4 b,a)=>match B7 b with
  |some c=>Z (c,a)
  |none=>O
 |_=>O
section
variable{X:Cx}{G:Bg}{H:Hp}
set_option tactic.hygienic true
def NH(r:df G H d v)(e:Sm d=Z k):Kw G.K H v k:=by
 unfold Sm at e;split at e
 .rename_i p q;cases e;unfold df at r;obtain⟨a,t,rfl,i,b⟩:=r;unfold b? at b;obtain⟨m,j,rfl,c,f⟩:=b;unfold b? at f;obtain⟨o,l,rfl,q3,h⟩:=f;unfold b? at h;unfold df at c q3;subst h c q3;exact⟨a,p,q,J,J,i⟩
 .cases e
set_option tactic.hygienic false
theorem K6:∀{a:aY} {b:List aC},zp a=Z b->b.length=a.length
 |[],b,e=>by cases e;rfl
 |d::a,b,e=>by
  unfold zp at e;cases c:Sm d with
  |none=>rw[c]at e;cases e
  |some k=>
   cases f:zp a with
   |none=>rw[c,f]at e;cases e
   |some h=>rw[c,f]at e;cases e;rw[aN,aN,K6 f]
theorem K7:∀{a:aY} {f:List aC} {h:bA},b? G H a h->zp a=Z f->∀(i:Nat) (y:V) (k:aC),h[i]?=Z y->f[i]?=Z k->Kw G.K H y k
 |[],f,h,r,e,i,y,k,l,c=>by cases e;cases c
 |d::a,f,h,r,e,i,y,k,l,c=>by
  unfold zp at e;cases b:Sm d with
  |none=>rw[b]at e;cases e
  |some q=>
   cases j:zp a with
   |none=>rw[b,j]at e;cases e
   |some m=>
    rw[b,j]at e;cases e;unfold b? at r;obtain⟨v,t,rfl,o,p⟩:=r;cases i with
    |zero=>cases l;cases c;exact NH o b
    |succ i=>exact K7 p j i y k l c
theorem Kw.mono{K:av}(s:ve b c)(h:Kw K b y k):Kw K c y k:=by obtain⟨a,p,q,d,e,f⟩:=h;exact⟨a,p,q,d,e,e?.mono s f⟩
set_option tactic.hygienic true
def NI(h:PE X e (Z' (λu H Q=>∃(a:Addr) (c:bA) (l:List aC),u=[.ref a]/\fb G.K H a c/\0<c.length/\c.length<64/\l.length=c.length/\(∀(i:Nat) (y:V) (k:aC),c[i]?=Z y->l[i]?=Z k->Kw G.K H y k)/\
  ∀p,H p=O->Q (.ref p) (eg H p (.b4 ((O1 (λi j=>Kv (l.getD i []) (l.getD j [])) c.length).map λi=>c.getD i V.J)))) (o? G (ax f vA)))):PE X e (ub G (Dn f)):=PE.dd h λσ H Q t=>by
 obtain⟨F,W,A,es,Y,R,e,k⟩:=t;unfold Dn at e;split at e
 .rename_i q ρ1 C;cases b:B7 q with
  |none=>simp only[b]at e;cases e
  |some E=>
   simp only[b]at e;cases e;unfold B7 at b;cases m:zp q with
   |none=>simp only[m]at b;cases b
   |some l=>
    simp only[m]at b;split at b
    .rename_i t;obtain⟨P,M⟩:=t;cases b;refine⟨F,W,A,[.b4 q],_,R,by unfold ax;rw[C];rfl,λc H1 B s d rs=>?_⟩;unfold b? at rs;obtain⟨v,r0,rfl,z,x⟩:=rs;unfold b? at x;subst x;unfold df at z;obtain⟨a,u,rfl,I,r⟩:=z;have w:=uW r;refine⟨a,u,l,J,fb.of (d.sub _ _ I),by omega,by omega,by rw[K6 m,w],λi y S T U=>Kw.mono d.sub (K7 r m i y S T U),λp o=>?_⟩;refine k p _ _ _ s (d.ij o _) uZ (d.e4 o) (d.fg o) (d.apart o) ?_;rw[<-w];exact K5 r _ λi N=>L9 _ P i N
    .cases b
 .cases e
set_option tactic.hygienic false
def Kz(d:X.A.units+64<cLine)(hK:X.K=G.K:=by rfl):wM X (.builtin "sorted") (λe H Q=>∃(a:Addr) (b:bA) (c:List aC),e=[.ref a]/\fb G.K H a b/\0<b.length/\b.length<64/\c.length=b.length/\(∀(i:Nat) (y:V) (k:aC),b[i]?=Z y->c[i]?=Z k->Kw G.K H y k)/\
  ∀p,H p=O->Q (.ref p) (eg H p (.b4 ((O1 (λi j=>Kv (c.getD i []) (c.getD j [])) b.length).map λi=>b.getD i V.J)))):=by rw[<-hK];exact Mb d
end
end L4
namespace L4
open PySem PySem.Spec PyProof.Rows L2 L3
def GDa(K:av)(x a:Str)(st:Stmt):Prop:=∃(f:Addr) (b:bU),ip K aZ x=Z (Z (.ref f))/\T? K a a st f b
theorem gFa{st:Stmt}(j:g=eb o n b)(y:Yw P w e b1 G)(q:GDa G.K x c st)(S:xl N d (vn st))(body:Bdi P w G.K e b1 N c st k (iE G b))(l:d.length=o:=by rfl)(hN:N.length=n:=by rfl)(h:J? c c st d:=by (repeat intro _);rfl):Dh P w G.K e b1 (k+1) x d (et G g):=by obtain⟨f,i,a,F⟩:=q;exact⟨f,i,y.g a,F.kp,h.ok F,Qe j l hN F S λv v v v v v m=>body m⟩
structure Bz where
 P:aB
 w:aw
 mg:Str->Option aa
 b1:Heap
 G:Bg
structure ZE(X:Cx)(B:Bz)(e:Expr)(f:FE):Prop where p:PE X e (tF B.G f)
structure ZN(X:Cx)(B:Bz)(e:Expr)(f:FA):Prop where p:PE X e (ub B.G f)
structure ZT(X:Cx)(B:Bz)(e:Expr)(f:FT):Prop where p:PT X e (kg B.G f)
structure ZW(X:Cx)(B:Bz)(e:Expr)(f:FT):Prop where p:PW X e (kg B.G f)
structure ZF(X:Cx)(B:Bz)(e:List Expr)(f:FT):Prop where p:PIf X e (kg B.G f)
structure ZA(X:Cx)(B:Bz)(e:List Expr)(f:FA):Prop where p:PA X e (o? B.G f)
structure ZS(X:Cx)(B:Bz)(e:Stmt)(f:FS):Prop where p:PS X e (iE B.G f)
structure ZB(X:Cx)(B:Bz)(e:List Stmt)(f:FS):Prop where p:k? X e (iE B.G f)
structure ZI(X:Cx)(B:Bz)(tg e:Expr)(f:FA):Prop where p:PI X tg e (O' B.G f)
structure ZO(X:Cx)(B:Bz)(e:Option Expr)(f:FO):Prop where p:PO X e (tFO B.G f)
structure ZG(X:Cx)(B:Bz)(e:Expr)(n:Nat)(f:FG):Prop where p:PG X e (ι B.G n f)
structure ZH(X:Cx)(B:Bz)(e:List Expr)(n:Nat)(f:aY->aP->Option aP):Prop where p:I' X e (RH B.G n f)
structure ZK(X:Cx)(e:Option Expr)(i:Option Int):Prop where p:PO X e (tO i)
structure ZV(X:Cx)(e:Expr)(i:Nat):Prop where p:PE X e (BU i)
abbrev Gz(X:Cx)(x:Str):Prop:=X.b3.kindOf x=Z .globalImplicit
abbrev Dz(x:Str):Prop:=(x==("__debug__" : Str))=δ
abbrev Nz(x:Str):Prop:=(decide (x≠"__name__")&&!(x==("__debug__" : Str)))=γ
abbrev Sz(X:Cx)(e:Expr)(a:List Expr):Prop:=az (e::a) X.b3=(δ,eval e X.b3)::az a X.b3
abbrev S1(X:Cx)(e:Expr):Prop:=az [e] X.b3=[(δ,eval e X.b3)]
abbrev Lz(X:Cx)(pos:Pos)(a:List Expr):Prop:=(bG pos (az a X.b3)).any (·.1)=δ
abbrev Wz(X:Cx)(e o:Expr)(pos:Pos):Prop:=dO e (Z o) pos.line X.b3=pure δ
abbrev Az(X:Cx)(o:Expr)(m:Str):Prop:=fN o m X.b3 (eval o X.b3)=eval o X.b3
abbrev Ez(p pos:Pos):Prop:=(p.endLine==pos.line)=γ
abbrev Iz(e:Expr):Prop:=(λo i=>subscripted e δ o i)=λo i=>operate [o,i] (getItem o i)
abbrev Fz(X:Cx)(e:Expr):Prop:=(λx=>iN e X.b3 x)=λx=>pure x
class Cz(X:Cx)(B:outParam Bz)(k:outParam Nat):Prop where
 P:X.prog=B.P
 w:X.w=B.w
 K:X.K=B.G.K
 mg:X.mg=B.mg
 b:X.b1=B.b1
 c:X.j0=γ
 r:xj k X.A
class Yb(B:Bz):Prop where y:Yw B.P B.w B.mg B.b1 B.G
class Df(B:Bz)(j:outParam Nat)(x:Str)(sp:Sp):Prop where p:∃ps,Dh B.P B.w B.G.K B.mg B.b1 j x ps sp
class Kf(B:Bz)(j:outParam Nat)(x:Str)(c:Nat)(g:aY->Option (aC×aY))(dds:aY):Prop where
 p:∃ps,L1 B.G B.P B.w B.mg B.b1 j x c ps (dds.map vD) g
 f:dds.all xU=γ
class Mf(B:Bz)(j:outParam Nat)(m:Str)(g:Nat->Option (aY->Option D)):Prop where p:∀c h,g c=Z h->B3 B.G B.P B.w B.mg B.b1 j m c h
class Ff(B:Bz)(ok:Nat->Bool)(f:Str):Prop where p:∀c,ok c=γ->Q? B.G.K (B.G.ca c)/\Bf B.G.K (B.G.ca c) f
class Af(B:Bz)(c:Nat)(xs:outParam aC):Prop where p:CF B.G.K (B.G.ca c) xs
class Nb(B:Bz)(x:Str):Prop where p:B.mg x=O
class Co(B:Bz)(x:Str)(d:D):Prop where p:AX B.G B.mg x d
class Ic(B:Bz)(x:Str)(t:Ty->Option Bool):Prop where p:∃c,Js B.G c t/\B.mg x=Z (.ref (B.G.ca c))
class Ij(B:Bz)(n:Nat):Prop where p:∀j k,j<n->k<n->B.G.ca j=B.G.ca k->j=k
class OpC(op:Operator)(g:D->D->Option D):Prop where p:∀(X:Cx) (G:Bg),∃r,fu X (cO op) r/\g? G r g
instance in1:OpC .Mod zm:=⟨λy y=>⟨_,ZP,aaz⟩⟩
instance in2:OpC .FloorDiv Ee:=⟨λy y=>⟨_,Wq,aaA⟩⟩
instance in3:OpC .Mult zL:=⟨λy y=>⟨_,ZM,aay⟩⟩
instance in4:OpC .Sub Nl:=⟨λy y=>⟨_,ZL,aax⟩⟩
instance in5:OpC .Pow TZ:=⟨λy y=>⟨_,ZQ,aaB⟩⟩
instance in6:OpC .Add xV:=⟨λy y=>⟨_,ZJ,aaw⟩⟩
instance in7:OpC .Add Fk:=⟨λy y=>⟨_,Oq,Xo⟩⟩
instance in8:OpC .Mult K0:=⟨λy y=>⟨_,OF,XQ⟩⟩
class zb(op:CmpOp)(g:D->D->Option D):Prop where p:∀(X:Cx) (G:Bg),X.K=G.K->X.A.units+64<cLine->∃r,fu X (bz op) r/\g? G r g
instance in9:zb .Eq (en δ):=⟨λy y h u=>⟨_,aaG u h,aea⟩⟩
instance in10:zb .NotEq (en γ):=⟨λy y h u=>⟨_,aaH u h,aeb⟩⟩
instance in11:zb .In (mn δ):=⟨λy y h y=>⟨_,aaI h,YT⟩⟩
instance in12:zb .NotIn (mn γ):=⟨λy y h y=>⟨_,RQ h,YT⟩⟩
instance in13:zb .Is zk:=⟨λy y y y=>⟨_,ZR,aaD⟩⟩
instance in14:zb .IsNot xu:=⟨λy y y y=>⟨_,Wr,Xp⟩⟩
instance in15:zb .IsNot IH:=⟨λy y y y=>⟨_,M4,RP⟩⟩
instance in16:zb .Lt L0:=⟨λy y y y=>⟨_,adw,ad6⟩⟩
instance in17:zb .LtE zj:=⟨λy y y y=>⟨_,adx,ad7⟩⟩
instance in18:zb .Gt Np:=⟨λy y y y=>⟨_,ady,ad8⟩⟩
instance in19:zb .GtE dGeI:=⟨λy y y y=>⟨_,adz,ad9⟩⟩
instance in20:zb .LtE T2:=⟨λy y y y=>⟨_,RE,aaC⟩⟩
class B1(x:Str)(g:D->Option D):Prop where p:∀(X:Cx) (G:Bg),X.K=G.K->X.j0=γ->∃(id:String) (r:bA->Hp->VK->Prop),wM X (.builtin id) r/\He G r g/\d9 x=Z (.builtin id)
instance in21:B1 "len" xM:=⟨λy y h y=>⟨_,_,RS h,aaJ,mQ⟩⟩
instance in22:B1 "all" zM:=⟨λy y h c=>⟨_,_,RT c h,aaL,boot_all⟩⟩
instance in23:B1 "any" Iu:=⟨λy y h c=>⟨_,_,RZ c h,aaR,boot_any⟩⟩
class KtC(x:Str)(T:outParam String):Prop where p:(∀(X:Cx) (G:Bg) y b,wC T y=Z b->cX X.K (y.val G) (.type T)=Z b)/\d9 x=Z (.type T)
instance in24:KtC "str" "str" := ⟨λy y=>Xv,Pv.boot_str⟩
instance in25:KtC "int" "int" := ⟨λy y=>XO,rV⟩
instance in26:KtC "bool" "bool" := ⟨λy y=>UH,Pv.boot_bool⟩
instance in27:KtC "list" "list" := ⟨λy y=>Ug,rE⟩
instance in28:KtC "tuple" "tuple" := ⟨λy y=>X1,rb⟩
theorem YZ:∀{dds:aY},dds.all xU=γ->b? G H dds (dds.map vD)
 |[],_=>vJ
 |d::a,h=>by rw[gZ,aU]at h;exact vM (Fj h.1 H) (YZ h.2)
def rz(X:Cx)(i:Nat)(x:Str):Bool:=decide (X.N[i]?=Z x)&&(match X.b3.scope.names.lookup x with|some .local=>γ|some .cell=>γ|some .free=>γ|_=>δ)&&!(x==("__debug__" : Str))&&!(x==("__classdict__" : Str))
def tf(X:Cx)(i:Nat)(x:Str):Bool:=decide X.N.Nodup&&decide (X.N[i]?=Z x)&&(match X.b3.scope.names.lookup x with|some .local=>γ|some .cell=>X.fn x|_=>δ)
section
variable{X:Cx}{B:Bz}{k j i n c0:Nat}{x m:Str}{e e' o tg it:Expr}{es:List Expr}{p p2 p3 pos apos:Pos}{f f' f2:FE}{a:FA}{g:D->D->Option D}
set_option tactic.hygienic true
def Kx(h:rz X i x=γ):PE X (.Name x p) (BU i):=by
 unfold rz at h;simp only[aU,bY,fH]at h;obtain⟨⟨⟨c,b⟩,d⟩,l⟩:=h;refine pv i c ?_ d l;split at b
 .rename_i e;exact .inl e
 .rename_i e;exact .inr (.inl e)
 .rename_i e;exact .inr (.inr e)
 .cases b
set_option tactic.hygienic false
def aen(h:rz X i x=γ):ZE X B (.Name x p) (cV i):=⟨OG (Kx h)⟩
def aa6(h:rz X i x=γ):ZE X B (.Name x p) (vl i):=⟨ad2 (Kx h)⟩
def XU(h:rz X i x=γ):ZN X B (.Name x p) (Kr i):=⟨Xh (Kx h)⟩
set_option tactic.hygienic true
def Mc(h:tf X i x=γ):X.N.Nodup/\X.N[i]?=Z x/\L2.Loc X.b3.scope x/\(X.fn x=γ\/X.b3.scope.names.lookup x=Z .local):=by
 unfold tf at h;simp only[aU,bY]at h;obtain⟨⟨c,d⟩,b⟩:=h;split at b
 .rename_i e;exact⟨c,d,.inl e,.inr e⟩
 .rename_i e;exact⟨c,d,.inr e,.inl b⟩
 .cases b
set_option tactic.hygienic false
def pgI(h:tf X i x=γ):PG X (.Name x p) (AR i):=by obtain⟨b,c,d,l⟩:=Mc h;exact PD b c d l
def aa7(h:tf X i x=γ)(b:Nat.blt i n=γ):ZG X B (.Name x p) n (gN i):=⟨TL n (pgI h) (Nat.blt_eq.mp b)⟩
def stW(h:tf X i x=γ)(q:PE X e t)(r:Wz X e (.Name x p) pos):PS X (.Assign [.Name x p] e pos) (EB t (AR i)):=by obtain⟨b,c,d,l⟩:=Mc h;exact Zw b c d q r l
def aa8(h:tf X i x=γ)(b:ZE X B e f)(c:Wz X e (.Name x p) pos):ZS X B (.Assign [.Name x p] e pos) (vp i f):=⟨P6 (stW h b.p c)⟩
def aa9(h:tf X i x=γ)(b:ZN X B e a)(c:Wz X e (.Name x p) pos):ZS X B (.Assign [.Name x p] e pos) (yj i a):=⟨Nc (stW h b.p c)⟩
def aba(h:tf X i x=γ)(b:Wz X (.Dict [] [] p2) (.Name x p) pos):ZS X B (.Assign [.Name x p] (.Dict [] [] p2) pos) (Hg i):=⟨Uo (stW h MY b)⟩
def abb [b:OpC q g](h:ZE X B e f)(l:ZE X B e' f'):ZE X B (.BinOp e q e' pos) (c2 g f f'):=by obtain⟨r,c,d⟩:=b.p X B.G;exact⟨adP c d h.p l.p⟩
def abc [C:Cz X B k](b:ZE X B e f)(c:ZE X B e' f')(d:Iz e'):ZE X B (.Subscript e e' pos) (c2 e8 f f'):=⟨adQ (ix_X C.K) aec b.p c.p λo i=>congrFun (congrFun d o) i⟩
def XW [C:Cz X B k](h:rz X i x=γ)(b:ZE X B e' f')(c:Iz e'):ZE X B (.Subscript (.Name x p) e' pos) (OI i f'):=⟨aat (YK (Tu B.G.K C.K) (Kx h) b.p λo i=>congrFun (congrFun c o) i)⟩
def abd [C:Cz X B k](b:ZE X B e f)(c:ZE X B e' f')(d:Iz e'):ZE X B (.Subscript e e' pos) (c2 Ef f f'):=⟨Xz (MZ C.r) b.p c.p λo i=>congrFun (congrFun d o) i⟩
section
variable{op op':CmpOp}{g':D->D->Option D}
def abe [b:zb op g][C:Cz X B k](h:ZE X B e f)(l:ZE X B e' f')(q:gr op e'=δ):ZE X B (.Compare e [op] [e'] pos) (c2 g f f'):=by obtain⟨r,c,d⟩:=b.p X B.G C.K C.r.units;exact⟨aak c d h.p l.p q⟩
def abf [b:zb op g][C:Cz X B k](h:ZE X B e f)(l:ZE X B e' f')(q:gr op e'=δ):ZT X B (.Compare e [op] [e'] pos) (cT (c2 g f f')):=by obtain⟨r,c,d⟩:=b.p X B.G C.K C.r.units;exact⟨WT c d h.p l.p q⟩
def abg [b:zb op g][c:zb op' g'][C:Cz X B k](t:ZE X B e f)(u:ZE X B e' f')(w:ZE X B o f2)(y:lastMarks [op,op'] [e',o]=δ):ZE X B (.Compare e [op,op'] [e',o] pos) (xW g g' f f' f2):=by obtain⟨r,d,h⟩:=b.p X B.G C.K C.r.units;obtain⟨z,l,q⟩:=c.p X B.G C.K C.r.units;exact⟨Ua d l h q t.p u.p w.p y⟩
def abh [b:zb op g][c:zb op' g'][C:Cz X B k](t:ZE X B e f)(u:ZE X B e' f')(w:ZE X B o f2)(y:lastMarks [op,op'] [e',o]=δ):ZT X B (.Compare e [op,op'] [e',o] pos) (cT (xW g g' f f' f2)):=by obtain⟨r,d,h⟩:=b.p X B.G C.K C.r.units;obtain⟨z,l,q⟩:=c.p X B.G C.K C.r.units;exact⟨RV d l h q t.p u.p w.p y⟩
end
def abi(h:ZE X B e f)(b:(λwhole=>isTrue e X.b3 whole)=λwhole=>(do let v<-whole;standAt e.pos;holding [v] (truthy v))):ZT X B e (cT f):=⟨WU h.p λw=>congrFun b w⟩
def abj(d:ZT X B e b)(h:ZW X B (.BoolOp .Or (e'::es) pos) c):ZT X B (.BoolOp .Or (e::e'::es) pos) (xk b c):=⟨PW.pt (TB d.p h.p)⟩
def abk(d:ZT X B e b)(h:ZW X B (.BoolOp .And (e'::es) pos) c):ZT X B (.BoolOp .And (e::e'::es) pos) (zJ b c):=⟨PW.pt (WX d.p h.p)⟩
def abl [C:Cz X B k][Q:Co B x d](b:Gz X x)(hd:Dz x):ZE X B (.Name x pos) (cC d):=⟨Uc (C.mg▸Q.p) b hd⟩
def abm [C:Cz X B k][Q:Ff B ok m](c:ZE X B e f)(b:Az X e m):ZE X B (.Attribute e m pos) (c1 (uV ok m) f):=⟨TQ c.p (C.K▸Q.p) b⟩
section
variable(hg:Gz X x)(hd:Dz x)(hs:Sz X e es)(hl:Lz X pos es)
include hg hd
theorem dz [C:Cz X B k][Q:Df B j x d]:∃c,Dh X.prog X.w X.K X.mg X.b1 j x c d:=by rw[C.P,C.w,C.K,C.mg,C.b];exact Q.p
theorem abn{g:aY->Option aY}[C:Cz X B k][Q:Df B j x (q? B.G g)](b:fz j k=γ):ZN X B (.Call (.Name x p) [] [] pos) (vN g vA):=by obtain⟨c,q⟩:=dz hg hd (Q:=Q);exact⟨Ub q (C.r.mono (fj.mp b)) hg hd⟩
include hs hl
theorem abo{g:aY->Option D}[C:Cz X B k][Q:Df B j x (et B.G g)](b:ZA X B (e::es) a)(c:fz j k=γ):ZE X B (.Call (.Name x p) (e::es) [] pos) (uQ g a):=by obtain⟨d,q⟩:=dz hg hd (Q:=Q);exact⟨aaN q (C.r.mono (fj.mp c)) b.p hg hd hs hl⟩
theorem abp{g:aY->Option aY}[C:Cz X B k][Q:Df B j x (q? B.G g)](b:ZA X B (e::es) a)(c:fz j k=γ):ZN X B (.Call (.Name x p) (e::es) [] pos) (vN g a):=by obtain⟨d,q⟩:=dz hg hd (Q:=Q);exact⟨Xs q (C.r.mono (fj.mp c)) b.p hg hd hs hl⟩
theorem abq{g:aY->aY->Option (D×aY)}[C:Cz X B k][Q:Df B j x (rh B.G g)](d:ZV X e i)(b:ZA X B es a)(c:fz j k=γ):ZE X B (.Call (.Name x p) (e::es) [] pos) (vY g i a):=by obtain⟨h,q⟩:=dz hg hd (Q:=Q);exact⟨Xt q (C.r.mono (fj.mp c)) d.p b.p hg hd hs hl⟩
theorem abr{g:aY->Option (aC×aY)}{dds:aY}[C:Cz X B k][Q:Kf B j x c0 g dds](d:ZA X B (e::es) a)(h:fz (j+1) k=γ):ZE X B (.Call (.Name x p) (e::es) [] pos) (vC c0 (λc=>g (c++dds)) a):=by obtain⟨l,q⟩:=Q.p;exact⟨Xu (by rw[C.P,C.w,C.mg,C.b];exact q) (λH=>YZ Q.f) (C.r.mono (fj.mp h)) d.p C.K hg hd hs hl⟩
end
def mz{g:Nat->Option (aY->Option D)}[C:Cz X B k][Q:Mf B j m g]:∀c h,g c=Z h->B3 B.G X.prog X.w X.mg X.b1 j m c h:=by rw[C.P,C.w,C.mg,C.b];exact Q.p
def abt{g:Nat->Option (aY->Option D)}{pl:Sem Bool}[C:Cz X B k][Q:Mf B j m g](d:ZE X B o f)(c:fz j k=γ)
  (h:eval (.Call (.Attribute o m apos) [] [] pos) X.b3=(do
   let b<-eval o X.b3
   standAt apos.atName
   let (f,first)<-holding [b] (getMethod b m pl)
   callWith pos f first (bG pos (az [] X.b3)) (backToKw pos (eh [] X.b3)))):ZE X B (.Call (.Attribute o m apos) [] [] pos) (vh g m f vA):=⟨OM mz (C.r.mono (fj.mp c)) d.p C.K h⟩
def abu{g:Nat->Option (aY->Option D)}{pl:Sem Bool}[C:Cz X B k][Q:Mf B j m g](l:ZE X B o f)(c:ZA X B (e::es) a)(d:fz j k=γ)(q:Sz X e es)(h:Lz X pos es)
  (t:eval (.Call (.Attribute o m apos) (e::es) [] pos) X.b3=(do
   let b<-eval o X.b3
   standAt apos.atName
   let (f,first)<-holding [b] (getMethod b m pl)
   callWith pos f first (bG pos (az (e::es) X.b3)) (backToKw pos (eh [] X.b3)))):ZE X B (.Call (.Attribute o m apos) (e::es) [] pos) (vh g m f a):=⟨RW mz (C.r.mono (fj.mp d)) l.p c.p C.K q h t⟩
section
variable(hg:Gz X x)(hd:Nz x)(hs:S1 X e)
include hg hd hs
theorem cbI{id:String}[C:Cz X B k][N:Nb B x](c:wM X (.builtin id) r)(d:d9 x=Z (.builtin id))(b:PA X [e] t):PE X (.Call (.Name x p) [e] [] pos) (Z' r t):=by simp only[aU,bY,fH]at hd;exact Bw c hg (C.mg▸N.p) d b hd.1 hd.2 hs J
theorem ctI [C:Cz X B k][N:Nb B x](c:wM X (.type T) r)(d:d9 x=Z (.type T))(b:PA X [e] t):PE X (.Call (.Name x p) [e] [] pos) (Z' r t):=by simp only[aU,bY,fH]at hd;exact Ru c hg (C.mg▸N.p) d b hd.1 hd.2 hs J
theorem abv{g:D->Option D}[Q:B1 x g][C:Cz X B k][N:Nb B x](l:ZE X B e f):ZE X B (.Call (.Name x p) [e] [] pos) (c1 g f):=by obtain⟨id,r,b,d,h⟩:=Q.p X B.G C.K C.c;exact⟨Qc d (cbI hg hd hs b h (wI l.p xO hs))⟩
end
section
variable(hs:S1 X e)
include hs
theorem abw [C:Cz X B k][N:Nb B "list"](c:Gz X "list")(b:ZE X B e f):ZN X B (.Call (.Name "list" p) [e] [] pos) (AW f):=⟨T7 (ctI c (by decide) hs (OL C.K) rE (wI b.p xO hs))⟩
theorem abx [C:Cz X B k][N:Nb B "tuple"](c:Gz X "tuple")(b:ZE X B e f):ZE X B (.Call (.Name "tuple" p) [e] [] pos) (Fm f):=⟨T8 (ctI c (by decide) hs (RU C.K) rb (wI b.p xO hs))⟩
theorem aby [C:Cz X B k][N:Nb B "sorted"](c:Gz X "sorted")(b:ZE X B e f):ZN X B (.Call (.Name "sorted" p) [e] [] pos) (Dn f):=⟨NI (cbI c (by decide) hs (Kz C.r.units C.K) boot_sorted (wI b.p xO hs))⟩
theorem abz [C:Cz X B k][N:Nb B "range"](c:Gz X "range")(b:ZE X B e f):ZI X B tg (.Call (.Name "range" p) [e] [] pos) (K' f):=⟨OJ (Rf c (C.mg▸N.p) (wI b.p xO hs) hs)⟩
end
section
variable(hi:Gz X "isinstance")(hg:Gz X x)(hs:az [e,.Name x p2] X.b3=[(δ,eval e X.b3),(δ,eval (.Name x p2) X.b3)])(hs':S1 X (.Name x p2))
include hi hg hs hs'
theorem abA [Q:KtC x T][C:Cz X B k][N:Nb B "isinstance"][c:Nb B x](d:ZE X B e f)(hd:Nz x):ZE X B (.Call (.Name "isinstance" p) [e,.Name x p2] [] pos) (c1 (vZ (wC T)) f):=by
 simp only[aU,bY,fH]at hd;refine⟨Qd (Bw (KZ (.b T) (Q.p.1 X B.G) Ue C.K) hi (C.mg▸N.p) mM (w6 d.p (w6 (Wj hg (C.mg▸c.p) Q.p.2 J hd.1 hd.2) z6 ?_) ?_) (by decide) (by decide) ?_ ?_)⟩
 .exact hs'
 .rw[hs,hs']
 .rw[hs,hs']
 .rw[hs'];rfl
theorem abB [Q:Ic B x t][C:Cz X B k][N:Nb B "isinstance"](b:ZE X B e f)(hd:Dz x):ZE X B (.Call (.Name "isinstance" p) [e,.Name x p2] [] pos) (c1 (vZ t) f):=by
 obtain⟨c,d,h⟩:=Q.p;refine⟨Qd (Bw (OQ d C.K) hi (C.mg▸N.p) mM (w6 b.p (w6 (IE hg (C.mg▸h) J hd) z6 ?_) ?_) (by decide) (by decide) ?_ ?_)⟩
 .exact hs'
 .rw[hs,hs']
 .rw[hs,hs']
 .rw[hs'];rfl
end
section
variable(hb:Az X o m)(hl:Ez apos pos)(hs:S1 X e)
include hb hl hs
theorem bmI{id:String}[C:Cz X B k](h:nL T)(slot:Slot T m id)(hty:typeOf (.builtin id)=pure (.type "method_descriptor"))(c:MtR X id r)(d:PE X o to)(b:PA X [e] t):PE X (.Call (.Attribute o m apos) [e] [] pos) (tBM B.G.K T r to t):=
 Tv B.G.K h slot hty c d b hb (by rw[hs];rfl) hl hs J C.K
end
section
variable(h:rz X i x=γ)(hb:Az X (.Name x p) m)(hl:Ez apos pos)(hs:S1 X e)
include h hb hl hs
theorem abC [C:Cz X B k](c:m="append")(b:ZE X B e f):ZE X B (.Call (.Attribute (.Name x p) m apos) [e] [] pos) (CZ i f):=by subst c;exact⟨RM (bmI hb hl hs jU mh pE Gq (Kx h) (wI b.p xO hs))⟩
theorem abD [C:Cz X B k](c:m="extend")(b:ZE X B e f):ZE X B (.Call (.Attribute (.Name x p) m apos) [e] [] pos) (Dk i f):=by subst c;exact⟨OS (bmI hb hl hs jU jN pF (C.K▸OR) (Kx h) (w6 b.p z6 hs))⟩
end
def abE [C:Cz X B k](h:ZE X B e f)(l:ZE X B e' f')(c:Az X e "get")(d:Ez apos pos)(b:S1 X e'):ZE X B (.Call (.Attribute e "get" apos) [e'] [] pos) (c2 Dj f f'):=⟨Um (MZ C.r) h.p l.p ⟨c,by rw[b];rfl,d,by rw[b];rfl⟩⟩
def abF [C:Cz X B k][Q:Af B c0 l](d:l.contains m=γ)(h:rz X i x=γ)(c:ZE X B e f)(b:Wz X e (.Attribute (.Name x p) m apos) pos):ZS X B (.Assign [.Attribute (.Name x p) m apos] e pos) (vV c0 i m f):=⟨Xg (ZZ (Kx h) c.p b) (by obtain⟨i,_,e⟩:=ma (lX.1 d);exact C.K▸Q.p.at i (bX.2 ⟨_,e⟩))⟩
def abG [C:Cz X B k](h:rz X i x=γ)(b:ZE X B e' f')(d:ZE X B e f)(c:Wz X e (.Subscript (.Name x p) e' apos) pos):ZS X B (.Assign [.Subscript (.Name x p) e' apos] e pos) (yQ i f' f):=⟨Uq (WJ (MZ C.r) (Kx h) b.p d.p c)⟩
def abH [Q:Ij B n](h:ZE X B e f):ZE X B e (Eh n f):=⟨XM Q.p h.p⟩
def abI{lo:Option Expr}{b:FO}[C:Cz X B k](d:ZE X B e f)(q:ZO X B lo b)(h:ZO X B l c):ZN X B (.Subscript e (.Slice lo l O p) pos) (Iv f b c):=⟨OP (MV (sl_X C.K) d.p q.p h.p)⟩
def abJ:ZK X (Z (.Constant (.int y) j pos)) (Z y):=⟨T9⟩
def abK:ZK X O O:=⟨aed⟩
def abL [C:Cz X B k](h:ZE X B e f):ZI X B tg e (iL f):=⟨Ni (M5 B.G.K h.p C.K)⟩
def abM [C:Cz X B k](h:ZE X B e f):ZI X B tg e (iT f):=⟨Xl (WO B.G.K h.p C.K)⟩
def abN(h:ZE X B e f):ZI X B tg e (iD f):=⟨Uz (XI h.p)⟩
def abO(h:ZE X B e f):ZI X B tg e (iS f):=⟨XA (aae h.p)⟩
section
variable(hg:Gz X "zip")(hs:az [e,e'] X.b3=[(δ,eval e X.b3),(δ,eval e' X.b3)])(hs2:S1 X e')
include hg hs hs2
theorem abP [C:Cz X B k][N:Nb B "zip"](b:ZA X B [e,e'] a):ZI X B (.Tuple es i p2) (.Call (.Name "zip" p) [e,e'] [] pos) (iZT a):=⟨UR (XT B.G.K hg (C.mg▸N.p) b.p C.K hs hs2)⟩
end
section
variable{gg:FG}{gs:aY->aP->Option aP}
def XX:ZH X B [] n G9:=⟨W4 Wm⟩
def XY(b:ZG X B e n gg)(c:ZH X B es n gs)(d:(cu (e::es) X.b3).map (·.2)=assign e X.b3::(cu es X.b3).map (·.2)):ZH X B (e::es) n (xA gg gs):=⟨TM (SO b.p c.p d)⟩
def XZ [C:Cz X B k](h:ZH X B es n gs)(b:(cu es X.b3).length=l)(d:(cu es X.b3).findIdx? (·.1)=O):ZG X B (.Tuple es q pos) n (gT gs l):=⟨W5 (WQ B.G.K C.c h.p b d C.K)⟩
end
def tgN:Expr->aC
 |.Name x _=>[x]
 |.Tuple es _ _=>es.filterMap λe=>match e with|.Name x _=>Z x|_=>O
 |_=>[]
def cpN(X:Cx)(tg:Expr)(d6:List Nat):aC:=tgN tg++d6.map λj=>X.N.getD j ""
instance inCz [C:Cz X B k]{d:aC}{q:cQ}{h:List (Str×Addr)}{A:Addr}{l:List Addr}{s:af}{H:Hp}:Cz (wZ X d q h A l s H) B k:=⟨C.P,C.w,C.K,C.mg,C.b,C.c,C.r⟩
def cpOk(X:Cx)(b:aC)(sc:cQ)(n:Nat)(d6:List Nat):Bool:=decide d6.Nodup&&decide (sc.kind=.function)&&(sc.names.all λy=>y.2 != .cell)&&(sc.names.all λy=>y.2 != .local||sc.names.lookup y.1==Z .local)&&(sc.names.all λy=>y.2 != .free||(X.b3.kindOf y.1==Z .cell||X.b3.kindOf y.1==Z .free))&&decide (b.length=n+d6.length)&&decide ((b.drop n).map Z=d6.map λj=>X.N[j]?)&&((b.drop n).all λx=>sc.names.lookup x==Z .free)
section
variable{sc:cQ}{d6:List Nat}{ifs:List Expr}{gg:FG}{ft:FT}{s:FA}
 (h0:cpOk X (cpN X tg d6) sc n d6=γ) (hs:Fz X it) (hi:ZI X B tg it s)
 (h1:∀(cl:List (Str×Addr)) (A:Addr) (fp:List Addr) (s:af) (H:Hp),ZG (wZ X (cpN X tg d6) sc cl A fp s H) B tg n gg)
 (h2:∀(cl:List (Str×Addr)) (A:Addr) (fp:List Addr) (s:af) (H:Hp),ZF (wZ X (cpN X tg d6) sc cl A fp s H) B ifs ft)
 (h3:∀(cl:List (Str×Addr)) (A:Addr) (fp:List Addr) (s:af) (H:Hp),ZE (wZ X (cpN X tg d6) sc cl A fp s H) B e f)
include h0 hs hi h1 h2 h3
theorem abR [C:Cz X B k]:ZN X B (.ListComp e [⟨tg,it,ifs,0⟩] sc pos) (u7 n d6 s gg ft f):=by unfold cpOk at h0;simp only[aU,bY]at h0;obtain⟨⟨⟨⟨⟨⟨⟨a1,b⟩,d⟩,h⟩,l⟩,q⟩,r⟩,t⟩:=h0;exact⟨TX a1 (WN C.c hi.p (λcl A fp s H=>⟨(h1 cl A fp s H).p,(h2 cl A fp s H).p,(h3 cl A fp s H).p⟩) b d h l q r t λx=>congrFun hs x)⟩
theorem cpW [C:Cz X B k](h:tf X i x=γ)(F:dO (.ListComp e [⟨tg,it,ifs,0⟩] sc pos) (Z (.Name x p)) apos.line X.b3=pure γ):PS X (.Assign [.Name x p] (.ListComp e [⟨tg,it,ifs,0⟩] sc pos) apos) (EB (G8 (O' B.G s) (ι B.G n gg) (kg B.G ft) (tF B.G f) n d6) (AR i))/\d6.Nodup:=by unfold cpOk at h0;simp only[aU,bY]at h0;obtain⟨⟨⟨⟨⟨⟨⟨a1,b⟩,d⟩,l⟩,q⟩,r⟩,t⟩,u⟩:=h0;obtain⟨w,y,z,E⟩:=Mc h;exact⟨Xw C.c w y z hi.p (λcl A fp s H=>⟨(h1 cl A fp s H).p,(h2 cl A fp s H).p,(h3 cl A fp s H).p⟩) b d l q r t u (λx=>congrFun hs x) F E,a1⟩
theorem abS [C:Cz X B k](h:tf X i x=γ)(b:dO (.ListComp e [⟨tg,it,ifs,0⟩] sc pos) (Z (.Name x p)) apos.line X.b3=pure γ):ZS X B (.Assign [.Name x p] (.ListComp e [⟨tg,it,ifs,0⟩] sc pos) apos) (vp i (cL (u7 n d6 s gg ft f))):=by have z:=cpW h0 hs hi h1 h2 h3 h b;exact⟨Uh z.2 z.1⟩
theorem abT [C:Cz X B k](h:tf X i x=γ)(b:dO (.ListComp e [⟨tg,it,ifs,0⟩] sc pos) (Z (.Name x p)) apos.line X.b3=pure γ):ZS X B (.Assign [.Name x p] (.ListComp e [⟨tg,it,ifs,0⟩] sc pos) apos) (yj i (u7 n d6 s gg ft f)):=by have z:=cpW h0 hs hi h1 h2 h3 h b;exact⟨RY z.2 z.1⟩
end
section
variable{st:Stmt}{sts:List Stmt}{fs fs':FS}{ft:FT}{a':FA}{z1:Nat}
def aeo(b:ZE X B e f)(c:ZA X B es a)(d:Sz X e es):ZA X B (e::es) (ax f a):=⟨wI b.p c.p d⟩
def aep:ZA X B [] vA:=⟨xO⟩
def abU(h:rz X i x=γ):ZV X (.Name x p) i:=⟨Kx h⟩
def abV(h:ZN X B e a):ZE X B e (cL a):=⟨aaq h.p⟩
def aeq:ZE X B (.Constant (.str y) j pos) (cC (.str y)):=⟨aai⟩
def aer:ZE X B (.Constant (.int y) j pos) (cC (.int y)):=⟨aah⟩
def aes:ZE X B (.Constant (.bool y) j pos) (cC (.U y)):=⟨adO⟩
def aet:ZE X B (.Constant .none j pos) (cC .J):=⟨aaj⟩
def Qu(b:ZS X B st fs)(c:ZB X B sts fs'):ZB X B (st::sts) (bt fs fs'):=⟨TF b.p c.p⟩
def aeu(b:ZS X B st fs):ZB X B [st] fs:=⟨W1 b.p⟩
def aev:ZB X B [] u0:=⟨W0⟩
def abW(h:ZE X B e f):ZS X B (.Return (Z e) pos) (uU f):=⟨W3 h.p⟩
def abX(h:ZN X B e a):ZS X B (.Return (Z e) pos) (wy a):=⟨TH h.p⟩
def abY(h:ZE X B e f)(b:dO e O pos.line X.b3=pure δ):ZS X B (.Expr e pos) (vH f):=⟨TJ h.p b⟩
def abZ(h:ZT X B e ft)(b:ZB X B sts fs)(c:ZB X B sts' fs'):ZS X B (.If e sts sts' pos) (ew ft fs fs'):=⟨aas h.p b.p c.p⟩
def ab0(h:ZA X B es a):ZN X B (.List es pos) (vF a):=⟨WY h.p⟩
def ab1(h:ZA X B es a):ZE X B (.Tuple es z1 pos) (vI a):=⟨aap h.p⟩
def ab2(b:ZE X B e f)(c:ZE X B e' f'):ZN X B (.BinOp e .Add e' pos) (xB f f'):=⟨Xq b.p c.p⟩
def ab3 [C:Cz X B k](b:ZE X B e f)(c:ZE X B e' f'):ZE X B (.BinOp e .Add e' pos) (Hh f f'):=⟨XB b.p c.p C.K⟩
def ab4(b:ZE X B e f)(c:ZE X B (.BoolOp .And (e'::es) pos) f'):ZE X B (.BoolOp .And (e::e'::es) pos) (v3 f f'):=⟨aan b.p c.p⟩
def ab5(b:ZE X B e f)(c:ZE X B (.BoolOp .Or (e'::es) pos) f'):ZE X B (.BoolOp .Or (e::e'::es) pos) (J' f f'):=⟨adS b.p c.p⟩
def ab6{c}(b:ZE X B e f):ZE X B (.BoolOp c [e] pos) f:=⟨aam b.p⟩
def ab7(b:ZE X B e f):ZE X B (.UnaryOp .Not e pos) (Gu f):=⟨aao b.p⟩
def ab8(b:ZT X B e ft):ZT X B (.UnaryOp .Not e pos) (wq ft):=⟨WV b.p⟩
def ab9(h:ZT X B o ft)(b:ZE X B e f)(c:ZE X B e' f'):ZE X B (.IfExp o e e' pos) (rr ft f f'):=⟨adT h.p b.p c.p⟩
def aew(h:ZT X B e ft):ZF X B [e] ft:=⟨WM h.p⟩
def aex:ZF X B [] vX:=⟨TY⟩
def aca(h:ZE X B e f):ZE X B e (CU f):=⟨aaM h.p⟩
def acb(h:ZT X B e ft):ZT X B e (Dg ft):=⟨Xr h.p⟩
def acd(h:ZE X B e f):ZO X B (Z e) (μ f):=⟨aaT h.p⟩
def ace:ZO X B O oNo:=⟨aaS⟩
def acf(c:ZT X B e ft)(d:ZW X B (.BoolOp .Or (e'::es) pos) b):ZW X B (.BoolOp .Or (e::e'::es) pos) (xk ft b):=⟨TB c.p d.p⟩
def acg(h:ZT X B e ft):ZW X B (.BoolOp .Or [e] pos) ft:=⟨WW h.p⟩
def ach(h:ZT X B e ft):ZW X B (.BoolOp .And [e] pos) ft:=⟨Tx h.p⟩
end
def aci [C:Cz X B k](r:ky (model X.prog X.w) X.A X.b3 X.xe)(u:X.N.length=n)(q:ZI X B tg it s)(l:ZG X B tg n d)(h:ZB X B body b)(t:Fz X it):ZS X B (.For tg it body [] pos) (x9 s d b):=⟨Xm (SW r C.c q.p l.p h.p λx=>congrFun t x)⟩
def acj(l:ky (model X.prog X.w) X.A X.b3 X.xe)(h:ZT X B e c)(d:ZB X B body b):ZS X B (.While e body [] pos) (whL c b n):=⟨RO n (SU l h.p d.p)⟩
end
end L4
namespace L4
open PySem PySem.Spec PyProof.Rows L2 L3
open PySem.W (fnOf)
def Dw(st:Stmt):aC:=(vn st).names.filterMap λy=>match y.2 with|.local=>Z y.1|.cell=>Z y.1|_=>O
def S2(st:Stmt):aC:=(yM st).args.map (·.arg)
def okO(N a:aC)(st:Stmt)(b n:Nat):Bool:=decide ((vn st).kind=.function)&&(vn st).isCoroutine==δ&&(vn st).isGenerator==δ&&decide N.Nodup&&decide (N.take a.length=a)&&(a.all λx=>match (vn st).names.lookup x with|some .local=>γ|some .cell=>γ|_=>δ)&&((vn st).names.all λy=>y.2 != .free)&&decide (a.length=b)&&decide (N.length=n)
set_option tactic.hygienic true
def oz{st:Stmt}(h:okO N ps st np n=γ):xl N ps (vn st)/\ps.length=np/\N.length=n:=by
 unfold okO at h;simp only[aU,bY,beq_iff_eq]at h;obtain⟨⟨⟨⟨⟨⟨⟨⟨a,b⟩,c⟩,d⟩,f⟩,i⟩,j⟩,l⟩,m⟩:=h;refine⟨⟨a,b,c,d,f,λx o=>?_,λy p e=>?_⟩,l,m⟩
 .have z:=aQ.1 i x o;split at z
  .rename_i e;exact .inl e
  .rename_i e;exact .inr e
  .cases z
 .have z:=aQ.1 j y p;rw[e]at z;exact ar z (by decide)
section
variable{B:Bz}[Y:Yb B]{x m qual:Str}{st s0:Stmt}{l:List Stmt}{k c np n:Nat}{b:FS}{p:Str}{ps xs:aC}{N:aC}
set_option tactic.hygienic false
abbrev S?(B:Bz)(N:aC)(qual:Str)(st:Stmt)(l:List Stmt)(k:Nat)(b:FS):Prop:=∀{f:Addr} {cdv:aa} {A:aG} {cf:List Env} {s:af} {H:Hp} {E:XK} [Cz (Fn B.P B.w B.G.K B.mg B.b1 N qual st f cdv A cf s H E) B k],ZB (Fn B.P B.w B.G.K B.mg B.b1 N qual st f cdv A cf s H E) B l b
omit Y in
def S?.ok(h:S? B N qual st l k b)(a:vQ st=l):Bdy B.P B.w B.G.K B.mg B.b1 N qual st k (iE B.G b):=λf cdv A cf s H E d=>by subst a;exact(@h f cdv A cf s H E ⟨J,J,J,J,J,J,d⟩).p
def e7(d:g=eb np n b)(q:GD B.G.K x st)(e:vQ st=s0::l)(body:S? B (Dw st) x st (s0::l) k b)(S:okO (Dw st) (S2 st) st np n=γ:=by kernel_rfl)(a:J? x x st (S2 st):=by (repeat intro _);rfl):Df B (k+1) x (et B.G g):=
 ⟨_,gF d Y.y q (oz S).1 (body.ok e) (oz S).2.1 (oz S).2.2 a⟩
def gF5(N:aC)(d:g=eb np n b)(q:GD B.G.K x st)(e:vQ st=s0::l)(body:S? B N x st (s0::l) k b)(S:okO N (S2 st) st np n=γ:=by kernel_rfl)(a:J? x x st (S2 st):=by (repeat intro _);rfl):Df B (k+1) x (et B.G g):=
 ⟨_,gF d Y.y q (oz S).1 (body.ok e) (oz S).2.1 (oz S).2.2 a⟩
def gA4(e:g=eb np n b)(q:GDa B.G.K x a st)(h:vQ st=s0::l)(body:S? B (Dw st) a st (s0::l) k b)(S:okO (Dw st) (S2 st) st np n=γ:=by kernel_rfl)(d:J? a a st (S2 st):=by (repeat intro _);rfl):Df B (k+1) x (et B.G g):=
 ⟨_,gFa e Y.y q (oz S).1 (λ{f cdv A cf s H E} i=>body.ok h f cdv A cf s H E i) (oz S).2.1 (oz S).2.2 d⟩
def P'(d:g=sh np n b)(q:GD B.G.K x st)(e:vQ st=s0::l)(body:S? B (Dw st) x st (s0::l) k b)(S:okO (Dw st) (S2 st) st np n=γ:=by kernel_rfl)(a:J? x x st (S2 st):=by (repeat intro _);rfl):Df B (k+1) x (q? B.G g):=
 ⟨_,gN' d Y.y q (oz S).1 (body.ok e) (oz S).2.1 (oz S).2.2 a⟩
def η(d:g=qx np n b)(q:GD B.G.K x st)(e:vQ st=s0::l)(f:S2 st=p::ps)(body:S? B (Dw st) x st (s0::l) k b)(S:okO (Dw st) (p::ps) st (np+1) n=γ:=by kernel_rfl)(a:J? x x st (p::ps):=by (repeat intro _);rfl):Df B (k+1) x (rh B.G g):=
 ⟨_,gM d Y.y q (oz S).1 (body.ok e) (i8 (oz S).2.1) (oz S).2.2 a⟩
theorem n3(C:CF B.G.K (B.G.ca c) xs)(h:g=eb np n b)(q:GM B.G.K (B.G.ca c) m qual st)(j:vQ st=s0::l)(body:S? B (Dw st) qual st (s0::l) k b)(S:okO (Dw st) (S2 st) st np n=γ:=by kernel_rfl)(d:J? m qual st (S2 st):=by (repeat intro _);rfl):B3 B.G B.P B.w B.mg B.b1 (k+1) m c g:=by obtain⟨f,e,a,i,F⟩:=q;exact⟨f,e,_,C.ci.cl,⟨a,i,F.kp⟩,d.ok F,Qe h (oz S).2.1 (oz S).2.2 F (oz S).1 (body.ok j f)⟩
def υ(C:CF B.G.K (B.G.ca c) xs)(a:ip B.G.K aZ x=Z (Z (.ref (B.G.ca c))))(e:g=ro c np n b)(q:GM B.G.K (B.G.ca c) "__init__" qual st)(f:vQ st=s0::l)(h:S2 st=p::ps)(body:S? B (Dw st) qual st (s0::l) k b)(S:okO (Dw st) (p::ps) st (np+1) n=γ:=by kernel_rfl)(d:J? "__init__" qual st (p::ps):=by (repeat intro _);rfl):Kf B (k+1) x c g []:=
 ⟨⟨_,gI e Y.y C a q (oz S).1 (body.ok f) (i8 (oz S).2.1) (oz S).2.2 d⟩,J⟩
def gJ4{dds:aY}(C:CF B.G.K (B.G.ca c) xs)(a:ip B.G.K aZ x=Z (Z (.ref (B.G.ca c))))(t:g=ro c np n b)(q:GJ B.G.K (B.G.ca c) qual st (dds.map vD))(u:vQ st=s0::l)(z:S2 st=p::ps)(body:S? B (Dw st) qual st (s0::l) k b)(j:Nat)(S:okO (Dw st) (p::ps) st (np+1) n=γ:=by kernel_rfl)(e:dds.all xU=γ:=by rfl)
  (o:O3 (dds.map vD).length λdl=>O3 ((p::ps).length - ((dds.map vD).drop j).length) λf=>∀(T:Addr) (kV doc w:aa) (i:Option Addr) (cdv r:aa),∃k,bindArgs (fnOf "__init__" qual (yM st) (vQ st) (vn st) (.ref T) kV doc w i cdv r) ⟨f,[]⟩=seqItems? (.ref T)>>=k/\k (Z dl.toArray)=pure ((p::ps).zip (f++dl.drop j)):=by (repeat intro _);exact⟨_,J,J⟩):Kf B (k+1) x c g (dds.drop j):=
 ⟨⟨_,by rw[m5];exact gJ t Y.y C a q (oz S).1 (body.ok u) j (i8 (oz S).2.1) (oz S).2.2 o⟩,by
  rw[aQ]at e ⊢;exact λd h=>e d (oY h)⟩
def Do(n:Nat)(a:Nat->Addr):∀k,k<n->((bf n).map a).getD k 0=a k:=λk h=>by rw[cZ,bx,l9 h];rfl
def injR{n:Nat}{a:Nat->Addr}(h:decide ((bf n).map a).Nodup=γ):∀j k,j<n->k<n->a j=a k->j=k:=λj k d f e=>by rw[<-Do n a j d,<- Do n a k f]at e;exact aa5 (bp h) (by simpa using d) (by simpa using f) e
def B8:Nat->(Nat->Prop)->Prop
 |0,_=>True
 |n+1,Q=>Q 0/\B8 n λk=>Q (k+1)
theorem B8.at:∀{n:Nat} {Q:Nat->Prop},B8 n Q->∀k,k<n->Q k
 |_+1,_,h,0,_=>h.1
 |_+1,_,h,k+1,a=>B8.at h.2 k (Nat.lt_of_succ_lt_succ a)
end
section
variable{X:Cx}{B:Bz}{k j i n:Nat}{x y:Str}{e e' tg:Expr}{es:List Expr}{p p2 p3 pos apos:Pos}{f f':FE}{a:FA}{st:Stmt}{sts:List Stmt}{fs fs':FS}{ft:FT}
def ack [C:Cz X B k](m:ZE X B e f)(o:ZE X B e' f')(q:ZE X B b d)(h:Az X e "get")(l:Ez apos pos)(c:az [e',b] X.b3=[(δ,eval e' X.b3),(δ,eval b X.b3)]):ZE X B (.Call (.Attribute e "get" apos) [e',b] [] pos) (Hk f f' d):=⟨Ur (MZ C.r) m.p o.p q.p ⟨h,by rw[c];rfl,l,by rw[c];rfl⟩⟩
def acm(o:X.N.length=n)(d:ZE X B e f)(h:ZG X B tg n b)(l:swapsWithSole [tg] e pos.line X.b3=pure δ)(m:swappedStores [tg] e X.b3=pure O)(c:(cu [tg] X.b3).map (·.2)=[assign tg X.b3]):ZS X B (.Assign [tg] e pos) (LY f b):=⟨W6 (SQ d.p h.p l m c)⟩
def acn [C:Cz X B k][N:Nb B "int"](d:Gz X "int")(b:S1 X e)(c:ZE X B e f):ZE X B (.Call (.Name "int" p) [e] [] pos) (c1 OK f):=⟨Qc aaK (ctI d (by decide) b Ro rV (wI c.p xO b))⟩
end
end L4
namespace L4
open PySem PySem.Spec PyProof.Rows L2 L3
def X0(f:FE)(lo c:Option Int):FE:=λd=>match f d with
 |some (.c4 a,b)=>if HT.fm a.length 0 lo=0/\HT.fm a.length a.length c=a.length then O else Z (.c4 (mq a lo c),b)
 |_=>O
section
variable{X:Cx}{G:Bg}
set_option tactic.hygienic true
def Sn{lo:Option Int}(h:PE X e (tSl (Z1 G.K) (tF G f) (tO lo) (tO t))):PE X e (tF G (X0 f lo t)):=PE.dd h λC H Q q=>by
 obtain⟨F,w,j,A,x,R,e,k⟩:=q;unfold X0 at e;split at e
 .rename_i B y m;split at e
  .cases e
  .rename_i i;cases e;refine⟨F,w,j,_,_,R,m,λv z l s b r=>?_⟩;unfold df at r;obtain⟨a,u,rfl,o,d⟩:=r;rw[uW d]at i;exact⟨a,u,J,e?.mono b.sub o,i,λp c=>k _ _ _ (s.t (vm (b.e4 c) _)) (b.yr c _) (DT (e?.of uZ) (b?.mono (vm (b.e4 c) _) _ _ (Nt d)))⟩
 .cases e
set_option tactic.hygienic false
def sl_T(hK:X.K=G.K:=by rfl):SlR X (Z1 G.K):=by rw[<-hK];exact Z2
end
section
variable{X:Cx}{B:Bz}{k:Nat}{e:Expr}{f:FE}{p pos:Pos}
def aco{lo:Option Expr}[C:Cz X B k](a:ZE X B e f)(d:ZK X lo l)(b:ZK X c h):ZE X B (.Subscript e (.Slice lo c O p) pos) (X0 f l h):=⟨Sn (MV (sl_T C.K) a.p d.p b.p)⟩
end
theorem NJ{f:Type}[DecidableEq f]:∀{l L:List f},l.Nodup->(∀x∈l,x∈L)->l.length<=L.length
 |[],L,_,_=>cp _
 |a::l,L,i,h=>by have c:=h a ba;have b:=dv.1 i;have:=NJ b.2 λx d=>(oZ (λe:x=a=>b.1 (by rw[<-e];exact d))).2 (h x (bc _ d));rw[oE c]at this;have:=jH c;rw[aN];omega
structure Tb(t:bF)(m n:Nat):Prop where
 mask:t.mask=m
 dm:t.dummies=#[]
 pl:t.place.size=n
section
variable{t:bF}{m n:Nat}
theorem Tb.slot(T:Tb t m n)(j:Nat):(∃i,t.slot j=.live i/\t.place[i]?=Z j)\/t.slot j=.empty:=by
 unfold SetTable.slot;by_cases h:(t.place[dZ t.place j]?==Z j)=γ
 .left;simp only[h,if_true];exact⟨_,J,fR h⟩
 .right;rw[ql]at h;rw[T.dm];simp[h,rF]
def Tb.free(T:Tb t m n)(h:n<=m):∃r,r<=m/\t.slot r=.empty:=by
 apply lA;intro no;have:(bf (m+1)).length<=t.place.toList.length:=NJ qm λr a=>by
  rcases T.slot r with ⟨i,_,e⟩|e
  .rw[<-iA]at e;exact bL e
  .exact ar ⟨r,by have:=bN.1 a;omega,e⟩ no
 rw[bS,bJ,T.pl]at this;omega
def oy(t:bF):Nat->fM->Prop
 |0,_=>False
 |f+1,p=>t.slot p.j=.empty\/oy t f (t.advance p)
theorem oy.mono:∀{f a:Nat} {p:fM},oy t f p->f<=a->oy t a p
 |0,_,_,h,_=>h.elim
 |f+1,0,_,_,h=>ar h (by omega)
 |f+1,a+1,p,h,b=>h.imp id λh=>h.mono (by omega)
def rs(m i q:Nat):fM:=⟨i,fK m i - i,i,q,O⟩
def acp(m i:Nat):fK m i - i<=9:=by unfold fK;split<;>omega
theorem oy.run(T:Tb t m n)(h:oy t f (rs m ((i * 5+1+q / 32) % (m+1)) (q / 32))):∀(k j:Nat),oy t (f+k+1) ⟨j,k,i,q,O⟩
 |0,j=>.inr (by
   have e:t.advance ⟨j,0,i,q,O⟩=rs m ((i * 5+1+q / 32) % (m+1)) (q / 32):=by unfold mE SetTable.leap;rw[T.mask];rfl
   rw[e];exact h)
 |k+1,j=>.inr (by
   have e:t.advance ⟨j,k+1,i,q,O⟩=⟨j+1,k,i,q,O⟩:=by unfold mE;rw[aj (nu k)];rfl
   rw[e];exact oy.run T h k (j+1))
def oy.leap(T:Tb t m n)(h:oy t f (rs m ((i * 5+1+q / 32) % (m+1)) (q / 32))):oy t (f+10) (rs m i q):=
 (oy.run T h (fK m i - i) i).mono (by have:=acp m i;omega)
def orb(m:Nat):Nat->Nat->List Nat
 |0,_=>[]
 |k+1,i=>i::orb m k ((i * 5+1) % (m+1))
theorem oy.orb(T:Tb t m n)(a:t.slot r=.empty):∀(k i:Nat),r∈orb m k i->oy t (10 * k) (rs m i 0)
 |0,i,h=>by cases h
 |k+1,i,h=>by
  rcases aM.1 h with e|h
  .exact oy.mono (f:=1) (.inl (by rw[e]at a;exact a)) (by omega)
  .have:=oy.leap T (q:=0) (oy.orb T a k _ h);exact this.mono (by omega)
def Qv(a:m=7\/m=31)(b:i<=m)(c:r<=m):r∈orb m (m+1) i:=by
 have h:∀m∈[7,31],((bf (m+1)).all λi=>(bf (m+1)).all λr=>(orb m (m+1) i).contains r)=γ:=by decide +kernel
 have:=aQ.1 (aQ.1 (h m (by rcases a with rfl|rfl<;>simp)) i (bN.2 (by omega))) r (bN.2 (by omega));exact lX.1 this
theorem oy.all(T:Tb t m n)(c:m=7\/m=31)(d:n<=m):∀(k i q:Nat),i<=m->q<32 ^ k->oy t (10 * (k+(m+1))) (rs m i q)
 |0,i,q,b,a=>by
  obtain⟨r,f,e⟩:=T.free d;have h:=by simpa using a
  rw[h,i5];exact oy.orb T e _ _ (Qv c b f)
 |k+1,i,q,b,a=>by have:=oy.leap T (oy.all T c d k ((i * 5+1+q / 32) % (m+1)) (q / 32) (pQ (gy _ (nu m))) (by rw[rG]at a;omega));exact this.mono (by omega)
def oy.start(T:Tb t m n)(b:m=7\/m=31)(c:n<=m)(h:Int):oy t (10 * (m+14)) (t.probeStart h):=by
 have a:cR h<32 ^ 13:=by unfold cR;omega
 have:=oy.all T b c 13 (cR h % (m+1)) (cR h) (pQ (gy _ (nu m))) a;have e:t.probeStart h=rs m (cR h % (m+1)) (cR h):=by unfold SetTable.probeStart;rw[T.mask];rfl
 rw[e];exact this.mono (by omega)
def UU{p:fM}(h:p.dummy=O):(t.advance p).dummy=O:=by unfold mE;split<;>exact h
theorem UV(T:Tb t m n)(F:Nat->Int)(h:Int):∀(f:Nat) (p:fM),p.dummy=O->oy t f p->∀g,f<=g->(∃j,t.slot j=.empty/\iU t F h g p=Z (.empty j O))\/
  ∃j i next c,c<f/\t.slot j=.live i/\t.place[i]?=Z j/\F i=h/\iU t F h g p=Z (.candidate j i next)/\next.dummy=O/\oy t c next
 |0,p,_,a,g,_=>a.elim
 |f+1,p,hd,a,0,o=>ar o (by omega)
 |f+1,p,hd,a,g+1,o=>by
  unfold iU;rcases T.slot p.j with ⟨i,b,q⟩|b
  .have a:=a.resolve_left λe=>by rw[b]at e;cases e
   rw[b];dsimp only;by_cases d:F i=h
   .right;exact⟨p.j,i,t.advance p,f,dG f,b,q,d,by rw[aj (by rw[d];simp)],UU hd,a⟩
   .rw[ak (by simpa using d)];rcases UV T F h f (t.advance p) (UU hd) a g (by omega)with l|⟨j,w,x,c,l,r,u⟩
    .exact .inl l
    .exact .inr ⟨j,w,x,c,by omega,r,u⟩
  .left;rw[b];exact⟨p.j,b,by rw[hd]⟩
end
def acq(e:∀i,F i=F' i)(g:Nat)(p:fM):iU t F h g p=iU t F' h g p:=by obtain rfl:F=F':=funext e;rfl
section
variable{prog:aB}{w:aw}{A:aG}{E:aa->af->Prop}{s:af}
def JC(b:∀v∈l,∃k a,v=.ref a/\TK prog w s.heap k a)(f:TK prog w s.heap j i)(h:Q δ s):ah (model prog w) A (searchCouldBeSeen (.ref i) l) Q E s:=by
 refine ae ?_;refine mx _ (λey r d=>r=(O,())/\d=s/\∀v∈ey,∃k a,v=.ref a/\TK prog w s.heap k a) _ ?_ ?_ _ _ ⟨J,J,b⟩
 .rintro v ey r d ⟨rfl,rfl,hall⟩;obtain⟨k,a1,rfl,b⟩:=hall v ba;have e:=λu c=>hall u (bc _ c);dsimp only;split
  .exact aq ⟨J,J,e⟩
  .refine ae (oQ f ?_);refine ae (oQ b ?_);refine ae (Qk f ?_);refine ae (Qk b ?_);exact aq ⟨J,J,e⟩
 .rintro r d ⟨rfl,rfl,_⟩;exact aq h
structure Els(prog:aB)(w:aw)(h:Heap)(L:List (List dr×Addr))(es:Array (Int×aa)):Prop where
 tk:∀q∈L,TK prog w h q.1 q.2
 p:(es.toList.map bD).Perm (L.map λq=>Value.ref q.2)
variable{L:List (List dr×Addr)}{es:Array (Int×aa)}{t:bF}{m n ep:Nat}{S a2:Addr}{k2:List dr}{o:Obj}{h:Int}
theorem NK(G:A.units<cLine)(T:Tb t m n)(F:m=7\/m=31)(c:t.fits es.size=γ)(l:Els prog w s.heap L es)(B:TK prog w s.heap k2 a2)(H:k2∉L.map cF)
  (z:s.heap.get? S=Z o) (hd:o.data=.set es ep t) (hQ:∀j,t.slot j=.empty->Q (.free j δ) s):∀(fuel f:Nat) (st:Option fM),f<fuel->f<=10 * gX m->(st.getD (t.probeStart h)).dummy=O->oy t f (st.getD (t.probeStart h))->
   ah (model prog w) A (setSearchFrom S (.ref a2) h γ fuel st) Q E s
 |0,f,st,C,_,_,_=>ar C (by omega)
 |fuel+1,f,st,C,Y,hdm,b=>by
  have sz:=by unfold i3 at c;rw[aU,beq_iff_eq,T.pl]at c;exact c.1.symm
  refine ae (dq z hd c ?_);dsimp only;rw[ak (by unfold SetTable.gaveWay;rw[T.mask];rcases F with rfl|rfl<;>decide)];unfold SetTable.probe;rw[acq (F':=λi=>(es[i]?.map (·.1)).getD 0),T.mask]
  rotate_left
  .intro i;rfl
  rcases UV T (λi=>(es[i]?.map (·.1)).getD 0) h f _ hdm b (10 * gX m) Y with ⟨j,I,u⟩|⟨j,i,nx,M,h1,P,R,h4,U,W,X⟩
  .rw[u];exact aq (hQ j I)
  .rw[U];dsimp only;have hi:i<es.size:=by rw[sz,<- T.pl];exact(ou.1 R).1
   obtain⟨⟨N,y⟩,d⟩:∃e,es[i]?=Z e:=⟨es[i],jB hi⟩;have my:y∈es.toList.map bD:=au.2 ⟨(N,y),by rw[<-iA]at d;exact bL d,J⟩;obtain⟨q,r,rfl⟩:=au.1 (l.p.mem_iff.1 my);have t1:=l.tk q r;have nk:=λe=>H (au.2 ⟨q,r,e⟩);have si:t.sameMemory t.moves m=Z γ:=by unfold SetTable.sameMemory;simp
   have ey:=NK G T F c l B H z hd hQ fuel M (Z nx) (by omega) (by omega) W X;have sb:∀v∈cG (λx:Int×aa=>x.snd) (Array.filter (λx=>x.fst==h) es).toList,∃k a,v=Value.ref a/\TK prog w s.heap k a:=λv hv=>by
    obtain⟨e,b,rfl⟩:=au.1 hv;have b:=by rw[Array.toList_filter]at b;exact(aS.1 b).1
    obtain⟨q,r,u⟩:=au.1 (l.p.mem_iff.1 (au.2 ⟨e,b,J⟩));exact⟨q.1,q.2,u.symm,l.tk q r⟩
   cases hb:t.led;refine ae (JC sb B ?_)
   all_goals
    rw[d];refine ae (bK (wpAny_eqBool_tuple G t1 B ?_));refine ae (dq z hd c ?_);rw[bq nk];rw[ak (by decide),si];dsimp only;rw[aj J,P];dsimp only;rw[d];refine ae (wpAny_isSame_ref_self ?_);refine ae (aq ?_);exact ey
end
def Nn(a:Array (Option Nat))(j:Nat):Prop:=(a.getD j (Z 0)).isNone=γ
section
variable{ow:Array (Option Nat)}
def acr(i:Nat):0<fK 31 i+1 - i:=by unfold fK;split<;>omega
def K8:(∃j,Nn ow j/\eJ 31 ow (f+1) i q=Z j)\/(¬Nn ow i/\eJ 31 ow (f+1) i q=eJ 31 ow f ((i * 5+1+q / 32) % 32) (q / 32)):=by
 have a:eJ 31 ow (f+1) i q=match (bf (fK 31 i+1 - i)).find? λk=>(ow.getD (i+k) (Z 0)).isNone with
  |some k=>Z (i+k)
  |none=>eJ 31 ow f ((i * 5+1+q / 32) % 32) (q / 32):=rfl
 rw[a];cases e:(bf (fK 31 i+1 - i)).find? λk=>(ow.getD (i+k) (Z 0)).isNone with
 |some k=>exact .inl ⟨i+k,qC (p:=λk=>(ow.getD (i+k) (Z 0)).isNone) e,J⟩
 |none=>refine .inr ⟨λh=>?_,J⟩;have:=pG.1 e 0 (bN.2 (acr i));exact this h
theorem NM(c:Nn ow r):∀(k f i:Nat),k<=f->r∈orb 31 k i->∃j,Nn ow j/\eJ 31 ow f i 0=Z j
 |0,f,i,_,h=>by cases h
 |k+1,0,i,b,_=>ar b (by omega)
 |k+1,f+1,i,b,h=>by
  rcases K8 with a|⟨a,d⟩
  .exact a
  .rcases aM.1 h with e|h
   .exact ar (e▸c) a
   .rw[d];exact NM c k f _ (by omega) h
theorem NN(e:Nn ow r)(a:r<=31):∀(k f i q:Nat),k+32<=f->i<=31->q<32 ^ k->∃j,Nn ow j/\eJ 31 ow f i q=Z j
 |0,f,i,q,b,d,c=>by
  have m:=by simpa using c
  rw[m];exact NM e 32 f i (by omega) (Qv (.inr J) d a)
 |k+1,0,i,q,b,_,_=>ar b (by omega)
 |k+1,f+1,i,q,b,d,c=>by
  rcases K8 with h|⟨_,l⟩
  .exact h
  .rw[l];exact NN e a k f _ _ (by omega) (by omega) (by rw[rG]at c;omega)
def lv(ow:Array (Option Nat)):List (Nat×Nat):=(bf 32).filterMap λj=>(ow.getD j O).map (j,·)
def aey(b:ow.size=32)(h:Nn ow j):j<32/\ow.getD j O=O:=by
 unfold Nn at h;by_cases a:j<ow.size
 .refine⟨by omega,?_⟩;rw[gB,jB a]at h ⊢;simpa using h
 .rw[gB,Array.getElem?_eq_none (by omega)]at h;cases h
def acs(q:ow.size=32)(h:Nn ow j):(lv (ow.setIfInBounds j (Z k))).Perm ((j,k)::lv ow):=by
 obtain⟨p,e⟩:=aey q h;have get:∀i,(ow.setIfInBounds j (Z k)).getD i O=if i=j then Z k else ow.getD i O:=λi=>by
  rw[gB,gB,Array.getElem?_setIfInBounds];by_cases c:j=i
  .subst c;rw[aj J,aj (by omega),aj J];rfl
  .rw[ak c,ak (λe=>c e.symm)]
 obtain⟨a,b,o⟩:=List.append_of_mem (bN.2 p);have d:(bf 32).Nodup:=qm;rw[o,bM,dv]at d;unfold lv;rw[o,oR,oR,eL,eL,get j,aj J,e];have f:∀l:List Nat,j∉l->l.filterMap (λi=>((ow.setIfInBounds j (Z k)).getD i O).map (i,·))=l.filterMap λi=>(ow.getD i O).map (i,·):=λl m=>by
  induction l with
  |nil=>rfl
  |cons i l r=>rw[eL,eL,r λz=>m (bc _ z),get i,ak λe=>m (by rw[<-e];exact ba)]
 rw[f a λz=>d.2.2 j z j ba J,f b d.2.1.1];exact List.perm_middle
theorem UW:∀(b:List Int) (ow:Array (Option Nat)) (k:Nat),ow.size=32->((lv ow).map bD).Perm (bf k)->k+b.length<=31->∃a,a.size=32/\((lv a).map bD).Perm (bf (k+b.length))/\
  (b.foldl (λacc h=>do
   let (owner,k)<-acc;let j<-eJ 31 owner (gX 31) (cR h % (31+1)) (cR h)
   pure (owner.setIfInBounds j (Z k),k+1)) (Z (ow,k)))=Z (a,k+b.length)
 |[],ow,k,c,d,_=>⟨ow,c,d,J⟩
 |h::b,ow,k,c,d,o=>by
  rw[aN]at o ⊢;have fr:∃r,r<=31/\Nn ow r:=by
   apply lA;intro no;have len:(lv ow).length=32:=by
    have:∀l:List Nat,(∀j∈l,j<=31)->(l.filterMap λj=>(ow.getD j O).map (j,·)).length=l.length:=λl i=>by
     induction l with
     |nil=>rfl
     |cons j l w=>
      have f:=i j ba;have q:=λe=>no ⟨j,f,e⟩;cases e:ow.getD j O with
      |none=>refine ar ?_ q;unfold Nn;rw[gB,jB (by omega)]at e ⊢;simpa using e
      |some x=>rw[eL,e];show (List.filterMap _ l).length+1=l.length+1;rw[w λz u=>i z (bc _ u)]
    exact(this (bf 32) λj f=>by have:=bN.1 f;omega).t bS
   have:=d.length_eq;rw[ag,bS,len]at this;omega
  obtain⟨r,t,A⟩:=fr;have p:cR h<32 ^ 13:=by unfold cR;omega
  obtain⟨j,y,m⟩:=NN A t 13 (gX 31) (cR h % (31+1)) (cR h) (by decide) (by omega) p;obtain⟨a,B,C,q3⟩:=UW b (ow.setIfInBounds j (Z k)) (k+1) (by rw[Array.size_setIfInBounds];exact c) (by
   refine((acs c y).map bD).t ?_;rw[aI,qD];exact((List.Perm.cons k d).t (lp k _).symm)) (by omega)
  refine⟨a,B,by rw[show k+(b.length+1)=k+1+b.length by omega];exact C,?_⟩;rw[iX,show k+(b.length+1)=k+1+b.length by omega,<- q3];congr 1;show (eJ 31 ow (gX 31) (cR h % (31+1)) (cR h)).bind _=_;rw[m];rfl
def X2(a:Array Int)(i:a.size<=31):∃t order,rg 31 f mv led pl a=Z (t,order)/\Tb t 31 a.size/\t.led=led/\t.plain=pl/\order.toList.Perm (bf a.size):=by
 obtain⟨ow,h,b,c⟩:=UW a.toList (qE 32 O) 0 (by simp) (by
  have:lv (qE 32 O)=[]:=by unfold lv;rw[List.filterMap_eq_nil_iff];intro j d;rw[gB,Array.getElem?_replicate,aj (bN.1 d)];rfl
  rw[this];exact .nil) (by rw[bJ];omega)
 rw[i5,bJ]at b c;have e:pS 31 a=Z ow:=by unfold pS;rw[<-Array.foldl_toList];exact bw (rX cF) c
 refine⟨_,_,by unfold rg;rw[e];rfl,⟨J,J,?_⟩,J,J,?_⟩
 .have:=b.length_eq;rw[ag,bS]at this;show (cG _ (lv ow)).toArray.size=_;rw[bb,ag,this]
 .exact b
end
def Cz2(m n:Nat):Prop:=(m=7/\n<=4)\/(m=31/\n<=18)\/(m=127/\19<=n/\n<=63)
section
variable{prog:aB}{w:aw}{A:aG}{E:aa->af->Prop}{s:af}
theorem UX(d:TK prog w s.heap (Sum.inr x::p) a)(h:Q δ s):ah (model prog w) A (hashByValue 8 (.ref a)) Q E s:=by
 have hT:=d.typeIs;obtain⟨o,items,n,i,_,hd,c⟩:=d;refine ae (gW hT F.slot_tuple_hash.lookup ?_);refine ae (dJ i hd ?_);refine ae ?_;show ah _ _ (forIn items _ _) _ _ s;rw[<-pC];generalize items.toList=l at c ⊢;cases c with
 |@cons _ v _ j f m=>
  obtain⟨t,rfl⟩:∃t,v=.str x t:=Qn f;refine mx _ (λey r b=>b=s/\∃u,ey=.str x t::u) _ ?_ ?_ _ _ ⟨J,j,J⟩
  .rintro v ey r b ⟨rfl,u,e⟩;cases e;refine ae (aq ?_);exact aq (aq h)
  .rintro r b ⟨rfl,u,e⟩;cases e
variable{L:List (List dr×Addr)}{es:Array (Int×aa)}{t:bF}{m n ep:Nat}{S a2:Addr}{k2:List dr}{o:Obj}{h:Int}
def UY(j:t.mask=7)(a:s.heap.get? S=Z o)(hd:o.data=.set es ep t)(hf:t.fits es.size=γ)(h5:es.size=5)
  (hQ:∀h' es' t',dA S s.heap h'->h'.get? S=Z { o with data:=.set es' (ep+1) t' }->Tb t' 31 5->t'.led=t.led->t'.plain=t.plain->es'.toList.Perm es.toList->Q () { s with heap:=h' }):ah (model prog w) A (setRelay S (d7 5)) Q E s:=by
 refine ae (dq a hd hf ?_);dsimp only;rw[ak (by rw[bO];decide)];obtain⟨t',order,d,T,e,f,b⟩:=X2 (es.map (·.1)) (by rw[qT];omega)
 rw[qT]at T b;have c:(order.filterMap (es[·]?)).toList.Perm es.toList:=by rw[Array.toList_filterMap];exact(b.filterMap _).t (by rw[lE])
 have i:t.relaid (es.map (·.1)) (d7 5)=Z (t',order):=d
 rw[i];have sz:=by have:=c.length_eq;rw[bJ,bJ]at this;exact this
 refine ae ?_;wp_delta;rw[ak (by rw[sz];simp)];refine aq ?_;refine jV a hd ?_ (by show (order.filterMap (es[·]?)).size<=aF;rw[sz,bO];omega)
 exact hQ _ _ _ (c6 ..) (OU a hd) (by rw[h5]at T;exact T) e f c
set_option tactic.hygienic true
def add_n(M:A.units<cLine)(T:Tb t m n)(b:Cz2 m n)(R:n<=8)(hf:t.fits es.size=γ)(l:Els prog w s.heap L es)(y:TK prog w s.heap (Sum.inr x::k2) a2)(ne:(Sum.inr x::k2)∉L.map cF)
  (c:s.heap.get? S=Z o) (hd:o.data=.set es ep t)
  (hQ:∀h' es' t' i u,dA S s.heap h'->h'.get? S=Z { o with data:=.set es' i t' }->Tb t' u (n+1)->Cz2 u (n+1)->t'.led=t.led->t'.plain=δ->(es'.toList.map bD).Perm (.ref a2::es.toList.map bD)->Q γ { s with heap:=h' }):
  ah (model prog w) A (setAddHashed S (.ref a2) h) Q E s:=by
 have b:(m=7/\n<=4)\/(m=31/\n<=9):=by unfold Cz2 at b;omega
 have hm:=b.imp And.left And.left;have sz:=by unfold i3 at hf;rw[aU,beq_iff_eq,T.pl]at hf;exact hf.1.symm
 refine bK (ae (dq c hd hf ?_));dsimp only;rw[ak (by simp[byScan,Value.scannable])];have nm:n<=m:=by rcases b with ⟨rfl,h⟩|⟨rfl,h⟩<;>omega
 refine ae (NK M T hm hf l y ne c hd (λj U=>?_) 100000 (10 * (m+14)) O (by rcases hm with rfl|rfl<;>decide) (by unfold gX;omega) J (oy.start T hm nm h));refine ae (dq c hd hf ?_);have N:=T.mask;have p2:(t.put j).1.dummies=#[]:=by show (if rF t.dummies j then _ else t.dummies)=_;rw[T.dm];rfl
 have p3:=by have:=(oM t.place (dZ t.place j) j).length_eq;rw[bJ,bJ,Array.size_push,T.pl]at this;exact this
 have p:(jW es (t.put j).2 (h,Value.ref a2)).toList.Perm ((h,.ref a2)::es.toList):=by refine(oM es _ _).t ?_;rw[mm];exact lp _ _
 have q:=by have:=p.length_eq;rw[bJ,aN,bJ,sz]at this;exact this
 let d:={ (t.put j).1 with plain:=δ };have a:Tb d m (n+1):=⟨N,p2,p3⟩;have I:d.fits (jW es (t.put j).2 (h,Value.ref a2)).size=γ:=by unfold i3 m6;rw[q,a.pl,a.dm,a.mask,aU];exact⟨by simp,bg (by rcases b with ⟨rfl,h⟩|⟨rfl,h⟩<;>simp<;>omega)⟩
 have fin:∀f:bF,f=d->ah (model prog w) A (do
   storeSet S (jW es (t.put j).2 (h,.ref a2)) f
   if (!δ&&f.tooFull)=γ then do setRelay S (d7 (es.size+1));pure γ else pure γ) Q E s:=λf e=>by
  subst e;refine ae (jV c hd ?_ (by rw[q,bO];omega));have g1:=OU (es':=jW es (t.put j).2 (h,Value.ref a2)) (t':=d) c hd;have P:d.tooFull=decide ((n+1) * 5 >= m * 3):=by unfold SetTable.tooFull m6;rw[a.pl,a.dm,a.mask];rfl
  rw[P];by_cases h5:(n+1) * 5 >= m * 3
  .rw[bg h5,aj (by decide)];obtain⟨rfl,rfl⟩:m=7/\n=4:=by rcases b with ⟨rfl,h⟩|⟨rfl,h⟩<;>omega
   rw[sz];refine ae (UY a.mask g1 J I q λh' es' t' z B C F G H=>?_);refine aq (hQ h' es' t' _ 31 ((c6 ..).t z) B C (.inr (.inl ⟨J,by decide⟩)) F G ?_);exact(H.map _).t (p.map _)
  .rw[bq h5,ak (by decide)];refine aq (hQ _ _ _ _ m (c6 ..) g1 a ?_ J J (p.map _));rcases b with ⟨rfl,h⟩|⟨rfl,h⟩
   .exact .inl ⟨J,by omega⟩
   .exact .inr (.inl ⟨J,by omega⟩)
 split
 .refine ae (UX y ?_);exact fin _ J
 .rename_i r;refine ae (aq (fin _ ?_));rw[ql]at r;rw[aj J];show (t.put j).1={ (t.put j).1 with plain:=δ };rw[<-r]
end
set_option tactic.hygienic false
structure Me(h:Heap)(S:Addr)(L:List (List dr×Addr))(led:Bool)(n:Nat)(o:Obj)(es:Array (Int×aa))(ep:Nat)(t:bF):Prop where
 fi:h.get? S=Z o
 ex:o.ExactSet
 d:o.data=.set es ep t
 c:∃m,Tb t m n/\Cz2 m n
 led:t.led=led
 pl:0<n->t.plain=δ
 p:(es.toList.map bD).Perm (L.map λq=>Value.ref q.2)
def Me.sz{h:Heap}{S:Addr}{L:List (List dr×Addr)}{led:Bool}{n:Nat}{o:Obj}{es:Array (Int×aa)}{ep:Nat}{t:bF}(x:Me h S L led n o es ep t):es.size=L.length:=by have:=x.p.length_eq;rw[ag,ag,bJ]at this;exact this
theorem Me.fits{h:Heap}{S:Addr}{L:List (List dr×Addr)}{led:Bool}{n:Nat}{o:Obj}{a:Array (Int×aa)}{b:Nat}{t:bF}(x:Me h S L led n o a b t)(d:L.length=n):t.fits a.size=γ:=by obtain⟨m,T,c⟩:=x.c;unfold i3 m6;rw[x.sz,d,T.pl,T.dm,T.mask,aU];exact⟨by simp,bg (by unfold Cz2 at c;simp;omega)⟩
section
variable{prog:aB}{w:aw}{A:aG}{R:fT->af->Prop}{I:Addr}{fp wr:List Addr}{GG:Array fq->Array fq->Prop}{n:Nat}{PP:Nat->aa->Prop}{SS:Nat->af->Prop}
def So(W:kE prog w A.in1 I fp wr GG n PP SS){S:Addr}{led:Bool}(hSf:S∉fp)(P:A.in1.units<cLine)(L:List (List dr×Addr))(hn:L.length=n)(h8:n<=8)(nd:(L.map cF).Nodup)(hk:∀q∈L,∃x k,q.1=Sum.inr x::k)(far:∀q∈L,q.2∉S::wr)
  (hval:∀i v,PP i v->∃q,L[i]?=Z q/\v=.ref q.2):∀(k i:Nat) (s:af) (o:Obj) (es:Array (Int×aa)) (ep:Nat) (t:bF),n - i=k->i<=n->SS i s->(∀q∈L,TK prog w s.heap q.1 q.2)->Me s.heap S (L.take i) led i o es ep t->
   (∀f o es ep t,jk (S::wr) GG s f->Me f.heap S L led n o es ep t->R (.ok (.ret .none)) f)->
   cz (model prog w) A (.builtin "set.update.loop" ⟨[.ref S,.ref I],[]⟩) R s:=by
 have hSw:=λz=>hSf ((W).sub _ z);have up:∀b∈wr,b∈S::wr:=λb z=>bc _ z;intro k
 induction k with
 |zero=>
  intro i s o es ep t E hi hst tk x hR;obtain rfl:i=n:=by omega
  refine dw gG ?_;rw[dE dQ _];refine ae (W.done s _ _ hst λf hm=>?_);rw[gO (by omega)]at x;exact aq (hR f o es ep t (hm.mono up) { x with fi:=hm.heap S _ hSw x.fi })
 |succ k ih=>
  intro i s o es ep t E hi hst tk x hR;have hlt:i<n:=by omega
  refine dw gG ?_;rw[dE dQ _];refine ae (W.item i s _ _ hlt hst λv f hP hst' hm=>?_);obtain⟨q,H,rfl⟩:=hval i v hP;have F:=bL H;have a:=λq N=>(tk q N).fc λo=>hm.heap q.2 o λz=>far q N (up _ z);refine ae (bK ?_);unfold setAdd;refine bK ?_;refine ae (wpAny_pyHash_tuple P (a q F) ?_);obtain⟨m,T,c⟩:=x.c;obtain⟨z,kk,M⟩:=hk q F;have tq:TK prog w f.heap (Sum.inr z::kk) q.2:=by rw[<-M];exact a q F
  have split:L.take (i+1)=L.take i++[q]:=by rw[iP,H];rfl
  have ne:=λw'=>by have h1:((L.take (i+1)).map cF).Nodup:=nd.sublist ((iO _ _).map _);rw[split,bu,bM]at h1;exact h1.2.2 _ w' _ (bj.2 M.symm) J
  have sub:∀r∈L.take i,r∈L:=λr hr=>(iO _ _).subset hr;have l:={ x with fi:=hm.heap S _ hSw x.fi };refine add_n P T c (by omega) (l.fits (by rw[bZ];omega)) ⟨λr hr=>a r (sub r hr),l.p⟩ tq ne l.fi l.d λh' es' Q h m' u U X Y b5 b6 b7=>?_;have y:Me h' S (L.take (i+1)) led (i+1) { o with data:=.set es' h Q } es' h Q:=by refine⟨U,x.ex,J,⟨m',X,Y⟩,b5.t x.led,λ_=>b6,b7.t ?_⟩;rw[split,bu];exact(List.Perm.cons _ x.p).t (lp _ _).symm
  refine aq ⟨eX dQ _,ih (i+1) _ _ _ _ _ (by omega) hlt (W.frame _ f h' _ hst' (dW _ _) λb z o e=>?_) (λr hr=>(a r hr).fc λo e=>?_) y λG o2 C B t2 j x2=>?_⟩
  .rw[u.2 b (λy:b=S=>hSf (by rw[<-y];exact z))];exact e
  .rw[u.2 r.2 (λy:r.2=S=>far r hr (by rw[y];exact ba))];exact e
  .refine hR G o2 C B t2 (jc W.gtrans ((hm.mono up).then_heap (dW _ _) λb o z e=>?_) j) x2;rw[u.2 b (λy:b=S=>z (by rw[y];exact ba))];exact e
end
theorem Mg{b:Type}:∀(l:List b) (j:Nat) (x:b),l[j]?=Z x->(x::l.eraseIdx j).Perm l
 |[],j,x,h=>by cases h
 |a::l,0,x,h=>by cases h;exact .refl _
 |a::l,j+1,x,h=>(List.Perm.swap a x _).t (List.Perm.cons a (Mg l j x h))
theorem Qw{b:Type}(a:Nat->Nat):∀(f k:Nat) (l:List b) (out:Array b),l.length=f->(rH a f k l out).toList.Perm (out.toList++l)
 |0,k,l,out,h=>by obtain rfl:=jE.1 h;rw[bT];exact .refl _
 |f+1,k,l,out,h=>by have hlt:a k % l.length<l.length:=gy _ (by omega);have e:l[a k % l.length]?=Z l[a k % l.length]:=bh hlt;unfold rH;rw[e];refine(Qw a f (k+1) _ _ (by rw[o5,aj hlt];omega)).t ?_;rw[mm,cc];exact List.Perm.append_left _ (Mg l _ _ e)
def K9{c:Type}(b:Nat->Nat)(a:Array c):(pickOrder b a).toList.Perm a.toList:=Qw b a.size 0 a.toList #[] bJ
section
variable{prog:aB}{w:aw}{A:aG}{E:aa->af->Prop}{s:af}
def X3(hn:n≠0)(h:∀i d,i<n->Q i { s with drawn:=d }):ah (model prog w) A (choose src n) Q E s:=λΓ p hΓ=>by show Sem.wp _ Γ (.choose src n .pure) _ _ p s;rw[Sem.wp_choose];exact⟨hn,h _ _ (gy _ (Nat.pos_of_ne_zero hn))⟩
theorem Qx{f:Type}:∀(n:Nat) (xs:List f) (s:af) {Q:List f->af->Prop},xs.length=n->(∀c d,c.Perm xs->Q c { s with drawn:=d })->ah (model prog w) A (drawOrder n xs) Q E s
 |0,xs,s,Q,b,h=>by obtain rfl:=jE.1 b;unfold drawOrder;exact aq (h [] s.drawn (.refl _))
 |n+1,[],s,Q,b,h=>by cases b
 |n+1,a::xs,s,Q,b,h=>by unfold drawOrder;refine ae (X3 (by simp) λi d hi=>?_);have e:(a::xs)[i]?=Z (a::xs)[i]:=bh hi;rw[e];refine ae (Qx n _ _ (by rw[o5,aj hi];omega) λc j p=>?_);exact aq (h _ j ((List.Perm.cons _ p).t (Mg _ _ _ e)))
end
def yS:Slot "set_iterator" "__next__" "set_iterator.__next__" :=
 .of (owner:="set_iterator") (n:="__next__") (by rw[j6,jI];kernel_rfl) (by decide +kernel) (by decide +kernel) (by decide +kernel)
  (by first|exact .inl (by decide +kernel)|exact .inr (by decide +kernel)) (by rw[j7];kernel_rfl)
def Fv:Slot "set_iterator" "__iter__" "set_iterator.__iter__" :=
 .of (owner:="set_iterator") (n:="__iter__") (by rw[j6,jI];kernel_rfl) (by decide +kernel) (by decide +kernel) (by decide +kernel)
  (by first|exact .inl (by decide +kernel)|exact .inr (by decide +kernel)) (by rw[j7];kernel_rfl)
def KA:entryFor table "set_iterator.__next__" = Z cP.«set_iterator.__next__»:=qo (by kernel_rfl)
def NO:Manifest.owners.lookup (String.ofList ['r','o','t','a','r','e','t','i','_','t','e','s'].reverse)=Z Manifest.sig_set_iterator:=by kernel_rfl
def Mh(a:aa):argsOk "set_iterator.__next__" ⟨[a],[]⟩:=by unfold argsOk;rw[rj (id:="set_iterator.__next__") (n:=['_','_','t','x','e','n','_','_']) (o:=['r','o','t','a','r','e','t','i','_','t','e','s']) (by kernel_rfl) NO];kernel_rfl
def Mi:entryFor table "set.__iter__" = Z cP.«frozenset.__iter__»:=qU (id':="frozenset.__iter__") (by kernel_rfl) J (by decide +kernel) (by kernel_rfl)
inductive Md(w:aw) (h:Heap) (S TP:Addr) (i:Nat) (gf:List aa) (es:Array (Int×aa)) (ep:Nat) (t:bF):aa->Prop
 |txt {sl:Int} {tk:Tok}:w.params.followText "set-order" = γ->gf=(pickOrder (w.params.setOrder S ep) es).toList.map bD->Md w h S TP i gf es ep t (.int sl tk)
 |drw {ps:List Nat} {vs:Array aa} {ot:Obj} {nt:Nat}:w.params.followText "set-order" = δ->h.get? TP=Z ot->ot.cls=.type "tuple" -> ot.data=.seq vs nt->vs=(ps.map λp:Nat=>rawInt p).toArray->ps.Perm (bf es.size)->gf=ps.filterMap (λp=>es[p]?.map bD)->Md w h S TP i gf es ep t (.ref TP)
 |one {sl:Int}:w.params.followText "set-order" = δ->es.size<=1->t.led=γ->(i=0->sl=0)->(∀j,i=1->t.place=#[j]->sl=(j+1:Nat))->gf=es.toList.map bD->Md w h S TP i gf es ep t (.int sl 0)
structure ItS(w:aw)(I S TP:Addr)(gf:List aa)(o:Obj)(es:Array (Int×aa))(ep:Nat)(t:bF)(i:Nat)(h:Heap):Prop where
 it:∃oi first,h.get? I=Z oi/\oi.cls=.type "set_iterator" /\ oi.data=.fields #[first,.int i 0,.ref S,.int es.size 0,.int ep 0]/\Md w h S TP i gf es ep t first
 fi:h.get? S=Z o
 d:o.data=.set es ep t
 f:t.fits es.size=γ
section
variable{prog:aB}{w:aw}{A:aG}{E:aa->af->Prop}{s:af}{I S TP:Addr}{gf:List aa}{o:Obj}{es:Array (Int×aa)}{ep:Nat}{t:bF}{i:Nat}
def GH(h:Q (w.params.followText "set-order") s):ah (model prog w) A setsByText Q E s:=by exact ae (mB (aq h))
def Pa(x:ItS w I S TP gf o es ep t i s.heap)(N:Md w s.heap S TP i gf es ep t (.int y R))(H:i<=1\/w.params.followText "set-order" = γ)
  (hQ:∀(v:aa) (u:Nat),gf[i]?=Z v->Md w s.heap S TP (i+1) gf es ep t (.int u 0)->Q (Z (v,u)) s) (hN:gf[i]?=O->Q O s):ah (model prog w) A (setNext S y.toNat i ep) Q E s:=by
 refine ae (dq x.fi x.d x.f ?_);refine ae (GH ?_);cases N with
 |txt a b=>
  rw[a,aj J];rw[ak (by simp)];refine ae ?_;refine ae (dq x.fi x.d x.f ?_);refine ae (GH ?_);rw[a,aj J];refine ae (mB ?_);refine aq ?_;refine aq ?_;show Q (rX (λe=>(e.snd,y.toNat)) (pickOrder (w.params.setOrder S ep) es)[i]?) s;have e:gf[i]?=((pickOrder (w.params.setOrder S ep) es)[i]?).map bD:=by rw[b,bx,iA]
  cases r:(pickOrder (w.params.setOrder S ep) es)[i]? with
  |none=>rw[r]at e;exact hN e
  |some q=>rw[r]at e;exact hQ q.2 _ e (.txt a b)
 |one a b p C F h=>
  have fs:=by have:=x.f;unfold i3 at this;rw[aU,beq_iff_eq]at this;exact this.1
  rw[a,ak (by decide)];rw[ak (λG=>by
   have:(!t.plain&&decide (es.size > 1))=γ:=G;simp at this;omega)]
  refine ae ?_;wp_delta;rw[ak (by rw[p];simp)];refine aq ?_;refine aq ?_;have c:es.size=0\/es.size=1:=by omega
  rcases c with c|c
  .have B:=Array.eq_empty_of_size_eq_zero c;subst B;exact hN (by rw[h];rfl)
  .obtain⟨e,rfl⟩:=oT.1 c;obtain⟨j,l⟩:=oT.1 (fs.t c);rw[l];have M:=H.resolve_right λe=>by rw[a]at e;cases e
   have:i=0\/i=1:=by omega
   rcases this with rfl|rfl
   .rw[C J];show Q (match #[e][dZ #[j] 0]?,#[j][dZ #[j] 0]? with|some (_,x),Z j=>Z (x,j+1)|_,_=>O) s;rw[show dZ #[j] 0=0 from by simp[dZ,pT]];exact hQ e.2 (j+1) (by rw[h];rfl) (.one a b p (λz=>by cases z) (λP _ m=>by rw[l]at m;cases m;rfl) h)
   .rw[F j J l];show Q (match #[e][dZ #[j] (j+1)]?,#[j][dZ #[j] (j+1)]? with|some (_,x),Z j=>Z (x,j+1)|_,_=>O) s;rw[show dZ #[j] (j+1)=1 from by simp[dZ,pT]];exact hN (by rw[h];rfl)
def ItS.ty(x:ItS w I S TP gf o es ep t i s.heap):s.TypeIs (.ref I) "set_iterator" := let ⟨⟨c,_,a,b,_⟩,_,_,_⟩:=x;⟨c,a,b⟩
def ItS.ordlen(x:ItS w I S TP gf o es ep t i s.heap):gf.length=es.size:=by
 obtain⟨⟨l,first,_,_,_,j⟩,_,_,_⟩:=x;cases j with
 |txt c a=>rw[a,ag,(K9 _ es).length_eq,bJ]
 |drw c a d e f b h=>rw[h,(b.filterMap _).length_eq];have:=lE es;rw[show (bf es.size).filterMap (λp=>es[p]?.map bD)=((bf es.size).filterMap λp=>es[p]?).map bD from(pH ..).symm,this,ag,bJ]
 |one c a d e f b=>rw[b,ag,bJ]
theorem UZ{b d:Type}(f:b->Option d):∀(a:List b),(∀p∈a,∃v,f p=Z v)->∀i:Nat,(a.filterMap f)[i]?=a[i]?.bind f
 |[],_,i=>rfl
 |p::a,h,i=>by
  obtain⟨v,e⟩:=h p ba;rw[eL,e];cases i with
  |zero=>show Z v=f p;rw[e]
  |succ i=>exact UZ f a (λq c=>h q (bc _ c)) i
def Md.mv(m:Md w h S TP i gf es ep t (.int j l)):Md w p S TP i gf es ep t (.int j l):=by
 cases m with
 |txt a b=>exact .txt a b
 |one a b c d e f=>exact .one a b c d e f
def Qy{B:aG}{R:Fin->af->Prop}{a:af}{Q:Option aa->af->Prop}(c:B.handled=O)(hN:∀h',(∀b o,a.heap.get? b=Z o->h'.get? b=Z o)->Q O { a with heap:=h' }):
  ah (model prog w) B (do let e<-newExc (.type "StopIteration") [];raiseNew e) R (λe d=>ah (model prog w) A (do if<-isInstance e (.type "StopIteration")then pure O else throw e) Q E d) a:=by
 refine ae ?_;simp only[newExc,newTuple];refine ae (dj ?_ (by size_fits));refine ae (nD (by first|rfl|(simp only[firstArgMember];rfl)) ?_);refine dj ?_ (by size_fits);simp only[raiseNew];refine ae (ra ?_);rw[c];refine ae (aq (wpAny_throw ?_));refine ae (mC ⟨_,aX _ J,J⟩ qS ?_);exact aq (hN _ λb o e=>aA _ (aA _ e))
def U0(C:A.handled=O)(x:ItS w I S TP gf o es ep t i s.heap)(hi:i<=gf.length)(hS:S≠I)(hT:TP≠I)
  (hQ:∀v h',gf[i]?=Z v->dA I s.heap h'->ItS w I S TP gf o es ep t (i+1) h'->Q (Z v) { s with heap:=h' }) (hN:∀h',gf[i]?=O->nF I s.heap h'->Q O { s with heap:=h' }):
  ah (model prog w) A (pyNext (.ref I)) Q E s:=by
 have H:=x.ordlen;obtain⟨G,first,hoi,hci,hdi,hm⟩:=x.it;refine ae (mZ (f6 x.ty yS (dt yS x.ty KA ?_ (Mh _))));show ah _ _ (fieldsOf (.ref I)>>=_) _ _ s;refine ae (wpAny_fieldsOf hoi hdi ?_);refine ae ?_;refine ae (dq x.fi x.d x.f ?_);refine aq ?_;rw[ak (by simp)];simp only[gj];have byint:∀(sl:Int) (tk:Tok),first=.int sl tk->(i<=1\/w.params.followText "set-order" = γ)->ah (model prog w) A.in1 (do
   let r<-setNext S sl.toNat i ep
   match r with
    |some (x,next)=>do
     setField (Value.ref I) 0 (rawInt ↑next)
     setField (Value.ref I) 1 (rawInt (↑i+1))
     ret x
    |none=>do
     setField (Value.ref I) 2 Value.none
     let e<-newExc (Value.type "StopIteration") []
     raiseNew e) (λfin z=>∃v,fin=Fin.done (Flow.ret v)/\ah (model prog w) A (pure (Z v)) Q E z) (λe z=>ah (model prog w) A (do if<-isInstance e (.type "StopIteration")then pure O else throw e) Q E z) s:=λsl tk e y=>by
  subst e;refine ae (Pa x hm y (λv nx a m=>?_) λa=>?_)
  .refine ae (fL hoi hdi (by simp) ?_);have g1:=eK (gv (·.setIfInBounds 0 (rawInt (nx:Int)))) hoi (iC (dU hdi _))
   have d1:=dU hdi (·.setIfInBounds 0 (rawInt (nx:Int)))
   refine ae (fL g1 d1 (by simp) ?_);have g2:=eK (gv (·.setIfInBounds 1 (rawInt ((i:Int)+1)))) g1 (iC (dU d1 _))
   have d2:=dU d1 (·.setIfInBounds 1 (rawInt ((i:Int)+1)))
   have h:=(c6 s.heap I (gv (·.setIfInBounds 0 (rawInt (nx:Int))))).t (c6 _ I (gv (·.setIfInBounds 1 (rawInt ((i:Int)+1)))))
   refine aq ⟨v,J,aq (hQ v _ a h ⟨⟨_,.int nx 0,g2,(jT ..).t ((jT ..).t hci),?_,m.mv⟩,?_,x.d,x.f⟩)⟩
   .rw[d2];simp[rawInt]
   .rw[h.2 S hS];exact x.fi
  .refine ae (fL hoi hdi (by simp) ?_);exact Qy (by simp[C]) λh' k=>hN h' a λb o hb e=>k b o (by rw[(c6 ..).2 b hb];exact e)
 cases hm with
 |txt h1 h2=>exact byint _ _ J (.inr h1)
 |one h1 h2 h3 h4 h5 h6=>exact byint _ _ J (.inl (by omega))
 |@drw ps vs ot nt h1 h2 h3 h4 h5 h6 h7=>
  refine ae (dJ h2 h4 ?_);have B:∀p∈ps,∃v,(es[p]?.map bD)=Z v:=λp F=>by have:=bN.1 (h6.mem_iff.1 F);exact⟨es[p].2,by rw[jB this];rfl⟩
  have j:gf[i]?=ps[i]?.bind λp=>es[p]?.map bD:=by rw[h7];exact UZ _ ps B i
  have a:vs[i]?=ps[i]?.map λp:Nat=>rawInt p:=by rw[h5,iB,bx]
  cases c:ps[i]? with
  |none=>
   rw[c]at a j;dsimp only;rw[a];refine ae (fL hoi hdi (by simp) ?_);have g1:=eK (gv (·.setIfInBounds 0 (rawInt 0))) hoi (iC (dU hdi _))
   have d1:=dU hdi (·.setIfInBounds 0 (rawInt 0))
   refine ae (fL g1 d1 (by simp) ?_);exact Qy (by simp[C]) λh' k=>hN h' j λb o hb e=>k b o (by rw[(c6 ..).2 b hb,(c6 ..).2 b hb];exact e)
  |some p=>
   rw[c]at a j;obtain⟨v,l⟩:=B p (bL c);dsimp only;rw[a];show ah _ _ (setNextDrawn S (p:Int).toNat ep>>=_) _ _ s;rw[gj];refine ae ?_;refine ae (dq x.fi x.d x.f ?_);dsimp only;rw[ak (by simp)];cases u:es[p]? with
   |none=>rw[u]at l;cases l
   |some q=>
    rw[u]at l;refine aq ?_;refine ae (fL hoi hdi (by simp) ?_);have g1:=eK (gv (·.setIfInBounds 1 (rawInt ((i:Int)+1)))) hoi (iC (dU hdi _))
    have d1:=dU hdi (·.setIfInBounds 1 (rawInt ((i:Int)+1)))
    have h:=c6 s.heap I (gv (·.setIfInBounds 1 (rawInt ((i:Int)+1))))
    refine aq ⟨_,J,aq (hQ _ _ (by rw[j];show es[p]?.map bD=_;rw[u];rfl) h ⟨⟨_,.ref TP,g1,(jT ..).t hci,?_,.drw h1 (by rw[h.2 TP hT];exact h2) h3 h4 h5 h6 h7⟩,?_,x.d,x.f⟩)⟩
    .rw[d1];simp[rawInt]
    .rw[h.2 S hS];exact x.fi
end
def KB:entryFor table "set_iterator.__iter__" = Z cP.«dict_keyiterator.__iter__»:=qU (id':="dict_keyiterator.__iter__") (by kernel_rfl) J (by decide +kernel) (by kernel_rfl)
def Mj(a:aa):argsOk "set_iterator.__iter__" ⟨[a],[]⟩:=by unfold argsOk;rw[rj (id:="set_iterator.__iter__") (n:=['_','_','r','e','t','i','_','_']) (o:=['r','o','t','a','r','e','t','i','_','t','e','s']) (by kernel_rfl) NO];kernel_rfl
section
variable{prog:aB}{w:aw}{A:aG}{E:aa->af->Prop}{s:af}{I S TP:Addr}{gf:List aa}{o:Obj}{es:Array (Int×aa)}{ep:Nat}{t:bF}
def Md.at{h':Heap}(m:Md w h S TP i gf es ep t f)(k:∀o,h.get? TP=Z o->h'.get? TP=Z o):Md w h' S TP i gf es ep t f:=by
 cases m with
 |txt a b=>exact .txt a b
 |one a b c d e j=>exact .one a b c d e j
 |drw a b c d e j l=>exact .drw a (k _ b) c d e j l
def acu(j:A.handled=O)(hS:S≠I)(hT:TP≠I):Walks prog w A I [I,S,TP] [I] gf.length (λi v=>gf[i]?=Z v) (λi h=>ItS w I S TP gf o es ep t i h/\i<=gf.length) where
 sub:=λb hb=>by simp at hb;simp[hb]
 frame:=λi h h' st c=>by obtain⟨⟨⟨l,f,h1,h2,h3,hm⟩,h4,h5,h6⟩,h7⟩:=st;exact⟨⟨⟨l,f,c I (by simp) _ h1,h2,h3,hm.at λo e=>c TP (by simp) o e⟩,c S (by simp) _ h4,h5,h6⟩,h7⟩
 item:=λi s Q E hi st hQ=>U0 j st.1 st.2 hS hT (λv h' a m x=>hQ v h' s.toks a ⟨x,by omega⟩ λb o hb e=>by rw[m.2 b λz=>hb (by simp[z])];exact e) λh' d y=>by rw[bh hi]at d;cases d
 done:=λs Q E st hQ=>U0 j st.1 st.2 hS hT (λv h' a y y=>by rw[gQ (aJ _)]at a;cases a) λh' y k=>hQ h' s.toks λb o hb e=>k b o (λz=>hb (by simp[z])) e
 self:=λi s Q E st h=>by refine pU st.1.ty Fv (dt Fv st.1.ty KB ?_ (Mj _));show ah _ _ (ret (.ref I)) _ _ s;exact aq ⟨_,J,"set_iterator", _,st.1.ty,yS.lookup,h⟩
end
end L4
namespace L4
open PySem PySem.Spec PySem.Calls PyProof.Rows PySem.W L2 L3
section
variable{prog:aB}{w:aw}{A:aG}{E:aa->af->Prop}{s:af}
abbrev TkS(k:aC):List dr:=k.map Sum.inr
end
section
variable{X:Cx}{G:Bg}{H:Hp}{pins:cE}{σ:St}{s:af}
def cb.drw(I:cb X pins σ H s)(d:Drawn):cb X pins σ H { s with drawn:=d }:=⟨I.ok,I.os,I.gi,I.b1,I.Dx,I.cell,I.free,I.j4,I.E?,I.er,I.len⟩
def setP{A:aG}{L:List (aC×Addr)}(I:cb X pins σ H s)(hh:A.handled=O)(hu:A.units+8<cLine)(c:fb X.K H a (L.map λq=>V.ref q.2))(h8:L.length<=8)(nd:(L.map cF).Nodup)
  (N:∀q∈L,∃p r,q.1=[p,r]/\e? X.K H q.2 [.str p,.str r])
  (h:∀h2 k2 o es ep t,Me h2 s.heap.objs.size (L.map λq=>(TkS q.1,q.2)) (!X.w.params.followText "set-order") L.length o es ep t->(∀b o,b<s.heap.objs.size->s.heap.get? b=Z o->h2.get? b=Z o)->Q (.ref s.heap.objs.size) { s with heap:=h2,toks:=k2 }):
  ah (model X.prog X.w) A (call (.type "set") [.ref a]) Q E s:=by
 have h3:A.in1.in1.in1.handled=O:=by simp[hh]
 obtain⟨d,r,pp,_⟩:=I.list c;obtain⟨o,j,B,n,hd⟩:=pp.isList;have hne:=aT (eU (aL j));have tk:∀q∈L,TK X.prog X.w s.heap (TkS q.1) q.2:=λq c=>by obtain⟨p,r,e,h1⟩:=N q c;rw[e];exact Ql I h1
 have F:=by have:=r.length;rw[ag]at this;exact this
 have Y:∀(i:Nat) (v:aa),d[i]?=Z v->∃q,L[i]?=Z q/\v=.ref q.2:=λi v e=>by
  have hi:i<L.length:=by rw[F];exact(bX.1 e).1
  obtain⟨u,f,ru⟩:=r.get (by rw[bx,bh hi];rfl);rw[e]at f;cases f;exact⟨L[i],bh hi,ru⟩
 have notin:s.heap.objs.size∉[s.heap.objs.size+1,a]:=by
  intro z;rcases aM.1 z with z|z
  .exact ar z (aT (dG _))
  .exact ar (bj.1 z) (dM (aL j))
 let PS:=λh2=>∃o es ep t,Me h2 s.heap.objs.size (L.map λq=>(TkS q.1,q.2)) (!X.w.params.followText "set-order") L.length o es ep t;refine Fo (PS:=PS) j B mO l7 (by decide)
  (λA Q E s1 e k=>fG ⟨o,e,B,n,hd⟩ k) (λtk' R hR=>?_) λh2 k2 ⟨o,es,ep,t,x⟩ kk=>h h2 k2 o es ep t x kk
 have C:∀{b:Addr} {P:Obj},s.heap.get? b=Z P->((s.heap.push (Au (!X.w.params.followText "set-order"))).push { cls:=.type "list_iterator", data:=.fields #[.ref a,.int 0 0] }).get? b=Z P:=λe=>aA _ (aA _ e);have it:((s.heap.push (Au (!X.w.params.followText "set-order"))).push { cls:=.type "list_iterator", data:=.fields #[.ref a,.int 0 0] }).get? (s.heap.objs.size+1)=Z { cls:=.type "list_iterator", data:=.fields #[.ref a,.int 0 0] }:=by rw[show s.heap.objs.size+1=(s.heap.push (Au (!X.w.params.followText "set-order"))).objs.size from(cy _ _).symm];exact aX _ J
 refine So (led:=!X.w.params.followText "set-order") (jf h3 _ a hne d.toArray).toS notin (by show A.units+1+1+1<cLine;omega) (L.map λq=>(TkS q.1,q.2)) (by rw[ag,bb,F]) (by rw[bb];omega) ?_ ?_ ?_ ?_ (d.toArray.size - 0) 0 _ (Au (!X.w.params.followText "set-order")) #[] 0 (.fresh 0 0 (!X.w.params.followText "set-order")) J (cp _) ⟨⟨_,it,J,J⟩,⟨o,C j,B,n,hd⟩⟩ ?_ ?_ λs2 o2 m l t2 mv M=>?_
 .rw[aW,show (cF∘λq:aC×Addr=>(TkS q.1,q.2))=λq=>TkS q.1 from J];have:(L.map λq=>TkS q.1)=(L.map cF).map TkS:=by rw[aW];rfl
  rw[this];exact uK _ (λx y hxy e=>hxy ((List.map_inj_right λ_ _ h=>hU h).1 e)) nd
 .intro q c;obtain⟨r,hr,rfl⟩:=au.1 c;obtain⟨p,z,e,_⟩:=N r hr;exact⟨p,[.inr z],by show TkS r.1=_;rw[e];rfl⟩
 .intro q c z;obtain⟨r,hr,rfl⟩:=au.1 c;obtain⟨ob,_,_,e,_⟩:=tk r hr;have:=aL e;rcases aM.1 z with z|z
  .exact ar z (aT this)
  .exact ar (bj.1 z) (aT (eU this))
 .intro i v e;rw[iB]at e;obtain⟨q,S,f⟩:=Y i v e;exact⟨(TkS q.1,q.2),by rw[bx,S];rfl,f⟩
 .intro q c;obtain⟨r,hr,rfl⟩:=au.1 c;exact(tk r hr).fc λo=>C
 .exact⟨aA _ (aX _ J),⟨J,J,J⟩,J,⟨7,⟨J,J,J⟩,.inl ⟨J,by decide⟩⟩,J,λz=>ar z (by decide),.nil⟩
 .obtain⟨h2,g2,d2,k2,o2'⟩:=s2;have U:=mv.gens;have T:=mv.drawn;have W:=mv.os;subst U T W;have el:d.toArray.size=L.length:=by rw[bb,F]
  rw[el]at M;refine hR h2 k2 ⟨o2,m,l,t2,M⟩ λb o hb e=>mv.heap b o (λz=>?_) (C e);rcases aM.1 z with z|z
  .exact ar z (aT hb)
  .exact ar (bj.1 z) (aT (eU hb))
end
section
variable{X:Cx}{G:Bg}{H:Hp}{pins:cE}{σ:St}{s:af}
theorem Qz:∀{b:aY} {f:List aC} {h:bA},b? G H b h->zp b=Z f->∃L:List (aC×Addr),h=L.map (λq=>V.ref q.2)/\f=L.map cF/\∀q∈L,∃p r,q.1=[p,r]/\e? G.K H q.2 [.str p,.str r]
 |[],f,h,r,e=>by cases e;unfold b? at r;subst r;exact⟨[],J,J,λq o=>by cases o⟩
 |d::b,f,h,r,e=>by
  unfold zp at e;cases c:Sm d with
  |none=>rw[c]at e;cases e
  |some k=>
   cases i:zp b with
   |none=>rw[c,i]at e;cases e
   |some t=>
    rw[c,i]at e;cases e;unfold b? at r;obtain⟨v,x,rfl,u,w⟩:=r;obtain⟨L,rfl,rfl,m⟩:=Qz w i;obtain⟨a,p,q,rfl,rfl,l⟩:=NH u c;refine⟨([p,q],a)::L,J,J,λz j=>?_⟩;rcases aM.1 j with rfl|j
    .exact⟨p,q,J,l⟩
    .exact m z j
end
noncomputable abbrev cS(s:Str):FE:=cC (.str s)
noncomputable abbrev a1(e:FE):FA:=ax e vA
section
variable{X:Cx}{G:Bg}{H:Hp}{pins:cE}{σ:St}{s:af}
def SrcG(K:av)(H:Hp)(a:Addr)(n:Nat):Prop:=SrcO K H a n\/
 ∃L:List (aC×Addr),fb K H a (L.map λq=>V.ref q.2)/\L.length<=8/\(L.map cF).Nodup/\(∀q∈L,∃p r,q.1=[p,r]/\e? K H q.2 [.str p,.str r])/\n=L.length
def aeA:SetV X SrcG:=by
 intro pins σ H s A E Q a n I c e b h;rcases b with b|⟨L,j,m,u,p,rfl⟩
 .exact aek I c e b h
 .refine setP I c e j m u p λl q o i f t x r=>h l q ⟨o,i,f,t,x.fi,x.ex,x.d,?_,x.fits (ag _),x.sz.t (ag _)⟩ r;rw[x.sz,ag];unfold scanBound;omega
def EG(a:aY):Option D:=match zp a with
 |some b=>if b.Nodup/\a.length<=8 then Z (.int a.length)else O
 |none=>O
set_option tactic.hygienic true
def Sq(hK:X.K=G.K):∀{c d f b a j},EG c=Z d->fb X.K b a j->b? G f c j->ve f b->∃n:Nat,SrcG X.K b a n/\d=.int n:=λ{c d f b a j} e i l s=>by
 unfold EG at e;cases h:zp c with
 |none=>simp only[h]at e;cases e
 |some w=>
  simp only[h]at e;split at e
  .rename_i u;cases e;obtain⟨L,rfl,rfl,t⟩:=Qz l h;have o:=uW l;rw[ag]at o;refine⟨_,.inr ⟨L,i,by omega,u.1,λq i=>?_,o⟩,J⟩;obtain⟨p,r,e,m⟩:=t q i;rw[<-hK]at m;exact⟨p,r,e,e?.mono s m⟩
  .cases e
end
set_option tactic.hygienic false
section
variable{X:Cx}{B:Bz}{k:Nat}{e:Expr}{f:FE}{p p2 p3 pos:Pos}
def acv [C:Cz X B k][N:Nb B "len"][b:Nb B "set"](i:S1 X e)(h:Gz X "len")(a:Gz X "set")(d:ZE X B e f)(z:az [Expr.Call (.Name "set" p2) [e] [] p3] X.b3=[(δ,eval (.Call (.Name "set" p2) [e] [] p3) X.b3)]):ZE X B (.Call (.Name "len" p) [.Call (.Name "set" p2) [e] [] p3] [] pos) (c1 (Fp EG) f):=⟨OW C.K .inl (Sq C.K) (R7 aeA C.r.units C.c h (C.mg▸N.p) a (C.mg▸b.p) d.p z i)⟩
end
section
variable{X:Cx}{G:Bg}{C:Addr}{x:Str}{p pos:Pos}{e:Expr}{c:Nat}
structure Mk0(K:av)(C:Addr):Prop where
 S3:makesIn K C=γ
 init:findIn K (.ref C) "__init__" = Z (Z (.builtin "object.__init__"))
 kp:keepIn K (.ref C)=γ
def Sr(M:Mk0 X.K C)(l:Gl X x)(m:X.mg x=Z (.ref C))(d:(x==("__debug__" : Str))=δ):PE X (.Call (.Name x p) [] [] pos) (λt H Q=>∀y a,H y=O->H a=O->a≠y->Q (.ref y) (eg (eg H a (.fl y)) y (.ka C a []))):=by
 intro f s t H Q I h;refine dS (E3 I l m ?_ d);refine mU I.kx M.kp ?_;have q:=h (s.heap.objs.size+1) s.heap.objs.size (I.er.fresh (ja _)) (I.er.fresh (aJ _)) (aT (dG _));have i:=cb.made (C:=C) I;have Y:=nO (M:=model X.prog X.w) I.kx M.S3;refine kq (Rq I.kx M.S3 M.init (λself=>Looks.of_pure (oi_bind self)) ?_);have j:((s.heap.push emptyDict).push (instObj C s.heap.objs.size)).get? (s.heap.objs.size+1)=Z (instObj C s.heap.objs.size):=by rw[<-cy s.heap emptyDict];exact aX _ J
 have r:Looks (model X.prog X.w) ((s.heap.push emptyDict).push (instObj C s.heap.objs.size)) (isInstance (.ref (s.heap.objs.size+1)) (.type "object")) γ:=
  ((Looks.ld j).andThen .now:Looks (model X.prog X.w) _ (typeOf (.ref (s.heap.objs.size+1))) (.ref C)).andThen (Y.top.keeps λb o e=>aA _ (aA _ e))
 refine oW oi_plain entry_oi (check_slot oi_kind oi_split r (oi_args _) ?_);rw[oi_run];exact aq (And.intro rfl ⟨V.ref (s.heap.objs.size+1),_,i,rfl,q⟩)
def X4(c:Nat):FE:=λa=>Z (.obj c [] [],a)
def Ss(h:PE X e (λB H Q=>∀y a,H y=O->H a=O->a≠y->Q (.ref y) (eg (eg H a (.fl y)) y (.ka (G.ca c) a [])))):PE X e (tF G (X4 c)):=PE.dd h λB H Q u=>by
 obtain⟨F,I,E,d,A,R,e,k⟩:=u;cases e;intro x a f hdx w;have j:(eg H a (.fl x)) x=O:=by rw[vb (λz=>w z.symm)];exact f
 have m:ve H (eg (eg H a (.fl x)) x (.ka (G.ca c) a [])):=(vm hdx _).t (vm j _);have R2:=R.ff m (λv v e=>e) (R.sub.t m) (λb o e=>.inl e);have l:=R.e4 f;have q:=R2.m1 uZ l (R.fg f) (λi t r to z=>R.apart f i t r to z);refine k _ _ _ (vm l _) q ?_;unfold df;exact⟨x,a,[],J,uZ,J,vJ⟩
end
section
variable{X:Cx}{B:Bz}{k:Nat}{p pos:Pos}{x:Str}{c:Nat}
class K0f(B:Bz)(x:Str)(c:Nat):Prop where p:Mk0 B.G.K (B.G.ca c)/\B.mg x=Z (.ref (B.G.ca c))
def acw [C:Cz X B k][Q:K0f B x c](a:Gz X x)(hd:(x==("__debug__" : Str))=δ):ZE X B (.Call (.Name x p) [] [] pos) (X4 c):=⟨Ss (Sr (by rw[C.K];exact Q.p.1) a (by rw[C.mg];exact Q.p.2) hd)⟩
end
end L4
namespace L4
open PySem PySem.Spec PyProof.Rows L2 L3
section
variable{X:Cx}{B:Bz}{k j i m:Nat}{x:Str}{e e':Expr}{es:List Expr}{d:D}{p pos:Pos}{g:D->D->Option D}
def aeB:ZB X B l Ud:=⟨λa s f H D I h=>by
 obtain⟨F,c,b,o,R,e,_⟩:=h;cases e⟩
end
theorem B3.mono(M:B3 G P w i b1 j m c h)(e:fz j k=γ):B3 G P w i b1 k m c h:=by obtain⟨f,d,l,a,b,c,F⟩:=M;exact⟨f,d,l,a,b,c,F.mono (fj.mp e)⟩
section
variable{X:Cx}{G:Bg}
def xr(g:aY->aY->Option (D×aY))(a n:FA):FE:=λh=>match a h with
 |some (e,b)=>match n b with
  |some (f,c)=>match g f e with
   |some (d,_)=>Z (d,c)
   |none=>O
  |none=>O
 |none=>O
theorem c3.temp(R:c3 G F σ ρ H0 H)(hb:F.B b=O)(ap:l4 σ ρ b)(j:ve H0 a)(s2:ve a H')(d:∀c o,H c=Z o->c≠b->H' c=Z o)(fr:∀c o,a c=Z o->H0 c=Z o\/H c=O)(m:H' b=Z (.b4 p)):c3 G F σ ρ a H' where
 sub:=s2
 g0:=R.g0.t j
 keep:=λc o e n=>d c o (R.keep c o e n) λz=>by rw[z,hb]at e;cases e
 fr:=λc o e=>(fr c o e).elim (R.fr c o) λh=>.inr (R.fg h)
 am:=λc l=>by
  obtain⟨o,q⟩:=R.am c l;by_cases z:c=b
  .exact⟨_,z▸m⟩
  .exact⟨o,d c o q z⟩
 len:=R.len
 sl:=λi t e=>(R.sl i t e).ff j (λc u z so q=>d c u q λw=>ap i t e so (by rw[z,w])) λc u z so q f=>by
  cases w:a c with
  |none=>rfl
  |some o=>
   rcases fr c o w with v|v
   .rw[v]at f;cases f
   .rw[v]at q;cases q
 ap:=R.ap
end
mutual
def aeC:D->Bool
 |.J=>γ
 |.U _=>γ
 |.int _=>γ
 |.str _=>γ
 |.c4 a=>Pb a
 |.b4 a=>Pb a
 |_=>δ
def Pb:aY->Bool
 |[]=>γ
 |d::a=>aeC d&&Pb a
end
section
variable{t:bF}{m n:Nat}
def tM(m:Nat):bF:=⟨m,#[],#[],0,δ,0,δ⟩
def Wy(m:Nat)(a:Nat->Prop)(j:Nat):Nat->fM->Prop
 |0,_=>False
 |f+1,p=>p.j=j\/(a p.j/\Wy m a j f ((tM m).advance p))
end
section
variable{κ α:Type}[DecidableEq κ]
def vy(l:List κ):List κ:=l.foldl (λacc k=>if k∈acc then acc else acc++[k]) []
set_option tactic.hygienic true
theorem IL:∀(l acc:List κ),acc.Nodup->(l.foldl (λacc k=>if k∈acc then acc else acc++[k]) acc).Nodup/\∀x,x∈l.foldl (λacc k=>if k∈acc then acc else acc++[k]) acc ↔ x∈acc\/x∈l
 |[],acc,h=>⟨h,λx=>⟨.inl,λh=>h.resolve_right (by simp)⟩⟩
 |k::l,acc,h=>by
  rw[iX];split
  .rename_i f;obtain⟨c,d⟩:=IL l acc h;refine⟨c,λx=>(d x).t ⟨λh=>h.imp id (bc _),λh=>?_⟩⟩;rcases h with h|h
   .exact .inl h
   .rcases aM.1 h with rfl|h
    .exact .inl f
    .exact .inr h
  .rename_i f;obtain⟨c,d⟩:=IL l (acc++[k]) (bM.2 ⟨h,dv.2 ⟨cw,.nil⟩,λa i b j e=>f (by rw[<-bj.1 j,<- e];exact i)⟩);refine⟨c,λx=>(d x).t ?_⟩;rw[aV,bj,aM,or_assoc]
set_option tactic.hygienic false
def Pc(l:List κ):(vy l).Nodup:=(IL l [] .nil).1
def Ml{l:List κ}{x:κ}:x∈vy l ↔ x∈l:=((IL l [] .nil).2 x).t ⟨λh=>h.resolve_left (by simp),.inr⟩
end
end L4
namespace L4
open PySem PySem.Spec PySem.Calls PyProof.Rows PySem.W L2 L3
section
variable{prog:aB}{w:aw}{A:aG}{E:aa->af->Prop}{s:af}
theorem Su(h:Q 0xFCA86420 { s with toks:=s.toks+1 }):ah (model prog w) A (pyHash .none) Q E s:=by
 refine ae ?_;rw[cRoomFor,ak (by rw[show [Value.none].any Value.onHeap=δ from J];exact br)];refine aq ?_;refine ae (gW (km s) jJ.lookup ?_);rw[ak (by rw[beq_builtin_none];exact br)];refine ae (gW (km s) jJ.lookup ?_);refine ae (wpAny_callSpecialIfBoundUnlessNone?_slot (km s) jJ
  (dt jJ (km s) F.entry_NoneType_hash
   (show ah _ _ (do ret (<-mkInt 0xFCA86420)) _ _ s from qF ?_) (F.args_NoneType_hash_1 _)))
 exact aq h
def X5(h:Q γ s):ah (model prog w) A (eqBool .none .none) Q E s:=by refine bK ?_;rw[aj (show (Value.none==Value.none)=γ from J)];exact ae (eA (aq h))
def oIs:Option dr->aa->Bool
 |none,.none=>γ
 |none,_=>δ
 |some k,v=>IR k v
def Al(h:oIs k v=γ):(k=O/\v=.none)\/(∃i t,k=Z (Sum.inl i)/\v=Value.int i t)\/∃x t,k=Z (Sum.inr x)/\v=Value.str x t:=by
 cases k with
 |none=>cases v<;>first|exact .inl ⟨J,J⟩|cases h
 |some k=>
  rcases wt h with ⟨i,t,rfl,rfl⟩|⟨x,t,rfl,rfl⟩
  .exact .inr (.inl ⟨i,t,J,J⟩)
  .exact .inr (.inr ⟨x,t,J,J⟩)
def T1(prog:aB)(w:aw):qW prog w (Option dr) where
 is:=oIs
 hash:=λk=>match k with|none=>0xFCA86420|some k=>keyH w k
 inj:=λv a b ha hb=>by rcases Al ha with ⟨rfl,rfl⟩|⟨i,t,rfl,rfl⟩|⟨x,t,rfl,rfl⟩<;>rcases Al hb with ⟨rfl,e⟩|⟨j,u,rfl,e⟩|⟨y,u,rfl,e⟩<;>first|rfl|(cases e;rfl)|cases e
 byValue:=λk v h=>by rcases Al h with ⟨rfl,rfl⟩|⟨i,t,rfl,rfl⟩|⟨x,t,rfl,rfl⟩<;>rfl
 pyHash:=λ{A E s k v Q} c h=>by
  cases k with
  |some k=>exact(vv prog w).pyHash (k:=k) c h
  |none=>
   rcases Al c with ⟨_,rfl⟩|⟨i,t,e,_⟩|⟨x,t,e,_⟩
   .exact Su h
   .cases e
   .cases e
 eqBool:=λ{A E s a b u v Q} d c h=>by
  rcases Al d with ⟨rfl,rfl⟩|⟨i,t,rfl,rfl⟩|⟨x,t,rfl,rfl⟩<;>rcases Al c with ⟨rfl,rfl⟩|⟨j,u,rfl,rfl⟩|⟨y,u,rfl,rfl⟩
  .exact X5 h
  .exact o6 j u _ _ _ _ h
  .exact o7 y u _ _ _ _ h
  .exact o8 i t _ _ _ _ h
  .exact(vv prog w).eqBool (a:=Sum.inl i) (b:=Sum.inl j) d c (by simpa using h)
  .exact(vv prog w).eqBool (a:=Sum.inl i) (b:=Sum.inr y) d c (by simpa using h)
  .exact o9 x t _ _ _ _ h
  .exact(vv prog w).eqBool (a:=Sum.inr x) (b:=Sum.inl j) d c (by simpa using h)
  .exact(vv prog w).eqBool (a:=Sum.inr x) (b:=Sum.inr y) d c (by simpa using h)
 «strs»:=λk x t v h=>by
  cases k with
  |none=>cases h
  |some k=>exact(vv prog w).strs k x t v h
def X6{h:Heap}(m:h.MapOf (vv prog w) a f):h.MapOf (T1 prog w) a (λk=>match k with|none=>O|some k=>f k):=by
 obtain⟨o,p,l,q,r,u,j,y⟩:=m;refine⟨o,p,l,q,r,u,λe b=>?_,λk=>?_⟩
 .obtain⟨k,c,z⟩:=j e b;exact⟨Z k,c,z⟩
 .cases k with
  |some k=>exact y k
  |none=>
   unfold findBy;rw[Array.find?_eq_none.2 λe b=>?_]
   .rfl
   .obtain⟨k,c,_⟩:=j e b;rcases wt c with ⟨i,t,_,d⟩|⟨x,t,_,d⟩<;>(rw[d];exact br)
end
section
variable{X:Cx}{G:Bg}{H:Hp}{pins:cE}{σ:St}{s:af}
def acx(I:cb X pins σ H s)(e:Rd H a (.dK kvs))(h:∀c,cb X pins σ H c->Q .none c):ah (model X.prog X.w) A (call (.builtin "dict.get") [.ref a,.none]) Q E s:=by obtain⟨z,hd,d,rel,b⟩:=G7 I.er e;exact hJ fJ b.typeIs iV (ml _ _) (qN (T1 X.prog X.w) a (k:=O) J hd) ⟨_,X6 b.mapOf,h _ (I.pa _)⟩
def acy(d ty:TE):TE:=λσ H Q=>d σ H λx c=>∃a,x=.ref a/\IsD c a/\ty σ c λy b=>(∃o,n9 b a y o/\Q (o.getD .J) b)\/(y=.J/\(∃kvs,Rd b a (.dK kvs))/\Q .J b)
def U1(B:X.A.units+1<cLine)(z:PE X o S)(w:PE X e ty)(m:M1 X o "get" apos e cpos):PE X (.Call (.Attribute o "get" apos) [e] [] cpos) (acy S ty):=by
 intro pins s σ H Q I h;refine jQ m.b1 m.few m.line jR fJ mH (e0 (z pins s σ H _ I h) λu M c=>?_);obtain⟨x,r,l,F,a,t,d,E⟩:=c;subst t;obtain rfl:u=Value.ref a:=F;obtain⟨P,R,_⟩:=LU l d;refine⟨P,R,?_⟩;rw[m.Hs];refine iz J (iF (eO (e0 (w pins M σ r _ l E) λC U c=>gb ?_)));obtain⟨y,j,p,q,⟨T,g,f⟩|⟨rfl,⟨kvs,e⟩,f⟩⟩:=c
 .exact Tn B p g q λW N b i=>⟨_,j,b,i,f⟩
 .obtain rfl:C=.none:=q;exact acx p e λN b=>⟨.J,j,b,J,f⟩
def NP:D->D->Option D:=λx y=>match y with
 |.J=>match x with
  |.Y _ _=>Z .J
  |_=>O
 |y=>Dj x y
def U2(hu:X.A.units+1<cLine)(ha:PE X a (tF G f))(hb:PE X b (tF G f'))(m:M1 X a "get" apos b cpos):PE X (.Call (.Attribute a "get" apos) [b] [] cpos) (tF G (c2 NP f f')):=PE.dd (U1 hu ha hb m) λσ H Q hh=>by
 obtain⟨F,ρ,S,d,C,R,e,k⟩:=hh;obtain⟨x,y,l,Y,e2,c⟩:=Fd e;cases x with
 |Y N W=>
  refine⟨F,ρ,S,_,l,R,Y,λv T U B E r1=>?_⟩;have t:=r1;obtain⟨p,ob,xs,rfl,r,h2,h3⟩:=t;refine⟨p,J,.inl ⟨_,.inr ⟨_,E.sub _ _ r⟩⟩,F,l,T,y,C,E,e2,λu o h i R2 P=>?_⟩;by_cases M:y=.J
  .subst M;cases c;subst P;exact .inr ⟨J,⟨_,.inr ⟨_,R2.sub _ _ (i _ _ r)⟩⟩,k _ o h (B.t i) R2 AU⟩
  .left;have c:=by
    unfold NP at c;split at c
    .exact ar J M
    .exact c
   unfold Dj at c;cases q:BD y with
   |none=>simp only[q]at c;cases c
   |some j=>
    simp only[q]at c;cases c;have lv:=Di j (b?.mono i _ _ h3) h2;refine⟨yL (N.zip xs) j,?_,?_⟩
    .rw[B4 P q];exact n9.kf (R2.sub _ _ (i _ _ r))
    .cases I:wG N W j with
     |none=>rw[I]at lv k;rw[lv];exact k _ o h (B.t i) R2 AU
     |some z=>rw[I]at lv k;obtain⟨w,w1,w2⟩:=lv;rw[w1];exact k _ o h (B.t i) R2 w2
 |_=>
  unfold NP at c;split at c
  .cases c
  .unfold Dj at c;cases c
end
section
variable{X:Cx}{B:Bz}{k:Nat}{e e':Expr}{f f':FE}{apos pos:Pos}
def acz [C:Cz X B k](d:ZE X B e f)(h:ZE X B e' f')(b:Az X e "get")(c:Ez apos pos)(a:S1 X e'):ZE X B (.Call (.Attribute e "get" apos) [e'] [] pos) (c2 NP f f'):=⟨U2 (MZ C.r) d.p h.p ⟨b,by rw[a];rfl,c,by rw[a];rfl⟩⟩
end
section
variable{X:Cx}{G:Bg}
def zl:D->Option D
 |.int i=>if i.natAbs.log2<1920 then Z (.str (toString i))else O
 |_=>O
set_option tactic.hygienic true
def cd_str:He G (λc H Q=>∃i,c=[.int i]/\i.natAbs.log2<1920/\Q (.str (toString i)) H) zl:=λx z d H v Q e s a k=>by
 cases x with
 |int i=>
  rw[show zl (.int i)=if i.natAbs.log2<1920 then Z (.str (toString i))else O from J]at e;split at e
  .rename_i b;cases e;unfold df at a;subst a;exact⟨i,J,b,k _ λy y=>zB _⟩
  .cases e
 |_=>cases e
def pf_b2{e:Expr}{r:bA->Hp->VK->Prop}{g:Int->Int->Int}{f m:FE}(B:∀i j H Q,Q (.int (g i j)) H->r [.int i,.int j] H Q)(h:PE X e (Z' r (o? G (ax f (ax m vA))))):PE X e (tF G (c2 (λx y=>match x,y with|.int i,.int j=>Z (.int (g i j))|_,_=>O) f m)):=PE.dd h λT H Q A=>by
 obtain⟨F,C,q,d,l,R,e,k⟩:=A;obtain⟨x,y,E,w,z,c⟩:=Fd e;split at c
 .cases c;rename_i i j;refine⟨F,C,q,[.int i,.int j],l,R,by unfold ax;rw[w];simp only[z];rfl,λS I t s u rs=>?_⟩;unfold b? at rs;obtain⟨v,M,rfl,p,o⟩:=rs;unfold b? at o;obtain⟨P,N,rfl,b,a⟩:=o;unfold b? at a;subst a;unfold df at p b;subst p b;exact B i j _ _ (k _ _ _ s u (xa _))
 .cases c
set_option tactic.hygienic false
def dMax2:D->D->Option D:=λx y=>match x,y with|.int i,.int j=>Z (.int (if j > i then j else i))|_,_=>O
def dMin2:D->D->Option D:=λx y=>match x,y with|.int i,.int j=>Z (.int (if j<i then j else i))|_,_=>O
def iR2(f c:FE):FA:=λd=>match f d with
 |some (.int i,a)=>match c a with
  |some (.int j,b)=>if (-1000000<=i/\i<=1000000)/\-1000000<=j/\j<=1000000 then Z (Jk i (j - i).toNat,b)else O
  |_=>O
 |_=>O
set_option tactic.hygienic true
def N'(h:PI X u e (YH (o? G (ax f (ax r vA))))):PI X u e (O' G (iR2 f r)):=PI.dd h λP H R t=>by
 obtain⟨F,w,l,B,x,R,e,k⟩:=t;unfold iR2 at e;split at e
 .rename_i i y p;split at e
  .rename_i j z q;split at e
   .rename_i C;cases e;refine⟨F,w,l,[.int i,.int j],_,R,by unfold ax;rw[p];simp only[q];rfl,λN A m s o rs=>?_⟩;unfold b? at rs;obtain⟨v,E,rfl,d,c⟩:=rs;unfold b? at c;obtain⟨M,I,rfl,b,a⟩:=c;unfold b? at a;subst a;unfold df at d b;subst d b;refine⟨i,j,J,⟨by omega,by omega,by omega,by omega⟩,?_⟩;exact k _ _ _ s o Nj
   .cases e
  .cases e
 .cases e
end
set_option tactic.hygienic false
section
variable{X:Cx}{B:Bz}{k:Nat}{e e' tg:Expr}{f f':FE}{p p2 p3 pos apos:Pos}
def zr_srI [C:Cz X B k][N:Nb B "str"](c:Gz X "str")(a:S1 X e)(b:ZE X B e f):ZE X B (.Call (.Name "str" p) [e] [] pos) (c1 zl f):=⟨Qc cd_str (ctI c (by decide) a LJ (by decide +kernel) (wI b.p xO a))⟩
def zr_mxI [C:Cz X B k][N:Nb B "max"](l:Gz X "max")(b:az [e,e'] X.b3=[(δ,eval e X.b3),(δ,eval e' X.b3)])(a:S1 X e')(d:ZE X B e f)(h:ZE X B e' f'):ZE X B (.Call (.Name "max" p) [e,e'] [] pos) (c2 dMax2 f f'):=
 ⟨pf_b2 (g:=λi j=>if j > i then j else i) (λi j H Q q=>⟨i,j,J,q⟩) (Bw (Rj C.c) l (C.mg▸N.p) boot_max (wI d.p (wI h.p xO a) (by rw[b,a])) (by decide) (by decide) (by rw[b,a]) (by rw[a];rfl))⟩
def zr_mnI [C:Cz X B k][N:Nb B "min"](l:Gz X "min")(b:az [e,e'] X.b3=[(δ,eval e X.b3),(δ,eval e' X.b3)])(a:S1 X e')(d:ZE X B e f)(h:ZE X B e' f'):ZE X B (.Call (.Name "min" p) [e,e'] [] pos) (c2 dMin2 f f'):=
 ⟨pf_b2 (g:=λi j=>if j<i then j else i) (λi j H Q q=>⟨i,j,J,q⟩) (Bw (Rm C.c) l (C.mg▸N.p) boot_min (wI d.p (wI h.p xO a) (by rw[b,a])) (by decide) (by decide) (by rw[b,a]) (by rw[a];rfl))⟩
def zr_r2I [C:Cz X B k][N:Nb B "range"](h:Gz X "range")(b:az [e,e'] X.b3=[(δ,eval e X.b3),(δ,eval e' X.b3)])(a:S1 X e')(c:ZE X B e f)(d:ZE X B e' f'):ZI X B tg (.Call (.Name "range" p) [e,e'] [] pos) (iR2 f f'):=⟨N' (Rg h (C.mg▸N.p) (wI c.p (wI d.p xO a) (by rw[b,a])) b a)⟩
end
def tOr(t a:Ty->Option Bool):Ty->Option Bool:=λy=>match t y with
 |some γ=>match a y with
  |some _=>Z γ
  |none=>O
 |some δ=>a y
 |none=>O
def inst_or(h:Js G c t)(l:Js G d i):Qi G [c,d] (tOr t i):=by
 refine⟨λy b e=>?_,λj b e=>?_⟩
 .unfold tOr at e;show kitAny G.K (y.val G) [.ref (G.ca c),.ref (G.ca d)]=Z b;unfold kitAny;cases a:t y with
  |none=>simp only[a]at e;cases e
  |some v=>
   simp only[a]at e;rw[h.1 y v a];cases v with
   |true=>
    cases f:i y with
    |none=>simp only[f]at e;cases e
    |some w=>simp only[f]at e;cases e;rfl
   |false=>simp only at e;unfold kitAny;simp only;rw[l.1 y b e];cases b<;>rfl
 .unfold tOr at e;cases a:t (.c j)with
  |none=>simp only[a]at e;cases e
  |some v=>exact h.2 j v a
section
variable{X:Cx}{B:Bz}{k:Nat}{e:Expr}{f:FE}{p p2 p3 p4 pos:Pos}{x y:Str}
def zr_i2I{d}[Q:Ic B x t][o:Ic B y F][C:Cz X B k][N:Nb B "isinstance"](u:Gz X "isinstance")(r:Gz X x)(i:Gz X y)(m:az [e,.Tuple [.Name x p2,.Name y p3] d p4] X.b3=[(δ,eval e X.b3),(δ,eval (.Tuple [.Name x p2,.Name y p3] d p4) X.b3)])(a:S1 X (.Tuple [.Name x p2,.Name y p3] d p4))(j:az [.Name x p2,.Name y p3] X.b3=[(δ,eval (.Name x p2) X.b3),(δ,eval (.Name y p3) X.b3)])(b:S1 X (.Name y p3))(q:ZE X B e f)(hd:Dz x)(h:Dz y):ZE X B (.Call (.Name "isinstance" p) [e,.Tuple [.Name x p2,.Name y p3] d p4] [] pos) (c1 (vZ (tOr t F)) f):=by
 obtain⟨c,w,z⟩:=Q.p;obtain⟨l,A,E⟩:=o.p;refine⟨Uw (cs:=[c,l]) (Bw (OT (inst_or w A) C.K) u (C.mg▸N.p) mM (w6 q.p (w6 (S7 (w6 (IE (v:=.ref (B.G.ca c)) r (C.mg▸z) J hd) (w6 (IE (v:=.ref (B.G.ca l)) i (C.mg▸E) J h) z6 b) ?_)) z6 a) ?_) (by decide) (by decide) ?_ ?_) (by show 2<=1000;decide)⟩
 .rw[j,b]
 .rw[m,a]
 .rw[m,a]
 .rw[a];rfl
end
section
variable{P:aB}{w:aw}{mg:Str->Option aa}{b1:Heap}{G:Bg}{x:Str}
def GX(K:av)(x s:Str):Prop:=∃t:Tok,nsIn K aZ x=Z (Z (.str s t))
def Z?(X:G.K.In h)(a:h.Ns aZ mg)(e:nsIn G.K aZ x=Z (Z (.str z t))):AX G mg x (.str z):=
 ⟨.str z,_,ji X a e,⟨_,J⟩,λy=>zB _⟩
def Yw.cx(y:Yw P w mg b1 G)(q:GX G.K x s):AX G mg x (.str s):=by obtain⟨h,X,a⟩:=y.m;obtain⟨t,e⟩:=q;exact Z? X a e
end
section
variable{X:Cx}{G:Bg}
inductive IrInT(K:av) (x:V) (y:V) (H:Hp) (Q:VK):Prop
 |i (p xs d l) (h0:y=.ref p) (h1:fb K H p xs) (h2:L3.df K H d x) (h3:L3.b? K H l xs) (h4:fy d<=20) (h5:(∀e∈l,fy e<=20)) (h6:Q (.U (l.any λe=>m3 e d)) H):IrInT K x y H Q
def rInT(K:av):R2:=λx y H Q=>IrInT K x y H Q
theorem tj{K:av}:∀{l:List L3.Dq} {f:bA} {c:List aa},L3.b? K H l f->de f c->(∀u∈c,∃e∈l,∃x,L3.df K H e x/\dg x u)/\∀e∈l,∃u∈c,∃x,L3.df K H e x/\dg x u
 |[],f,c,r,v=>by unfold L3.b? at r;subst r;cases v;exact⟨λu b=>(by cases b),λe a=>(by cases a)⟩
 |d::l,f,c,r,v=>by
  unfold L3.b? at r;obtain⟨x,q,rfl,h,j⟩:=r;cases v with
  |cons i p=>
   obtain⟨m,o⟩:=tj j p;refine⟨λu b=>?_,λe a=>?_⟩
   .rcases aM.1 b with rfl|b
    .exact⟨d,ba,x,h,i⟩
    .obtain⟨e,a,z⟩:=m u b;exact⟨e,bc _ a,z⟩
   .rcases aM.1 a with rfl|a
    .exact⟨_,ba,x,h,i⟩
    .obtain⟨u,b,z⟩:=o e a;exact⟨u,bc _ b,z⟩
def op_inT(W:X.A.units+64<cLine):fu X (bz .In) (rInT X.K):=by
 intro C s σ H x y v u Q I T U h;obtain⟨p,xs,d,l,rfl,M,R,S,hd,F,q⟩:=h;cases U;obtain⟨j,r,pl,Y⟩:=I.list M;obtain⟨N,P⟩:=tj S r;have B:∀e∈l,∀z w,L3.df X.K H e z->dg z w->je X.A.in1 s w v (m3 e d):=λe a z w b c=>OD I e d z x w v X.A.in1 b R c T (by have:=F e a;show X.A.units+1+_+_<_;omega);let f:aa->Bool:=λw=>@decide (∃e∈l,∃z,L3.df X.K H e z/\dg z w/\m3 e d=γ) (dR _);refine qr f pl.isList (λw o=>?_) ⟨.U _,H,I,J,?_⟩
 .by_cases m:∃e∈l,∃z,L3.df X.K H e z/\dg z w/\m3 e d=γ
  .have t:f w=γ:=@bg _ (dR _) m;obtain⟨e,a,z,b,c,i⟩:=m;have:=B e a z w b c;rw[i]at this;rw[t];exact this
  .have t:f w=δ:=@bq _ (dR _) m;obtain⟨e,a,z,b,c⟩:=N w (by simpa using o);have:=B e a z w b c;rw[jS.2 λi=>m ⟨e,a,z,b,c,i⟩]at this;rw[t];exact this
 .have E:j.toArray.any f=l.any λe=>m3 e d:=by
   rw[show j.toArray.any f=j.any f by simp];refine du.2 ?_;rw[dH,dH];constructor
   .rintro⟨w,o,m⟩;obtain⟨e,a,z,b,c,i⟩:=@bp _ (dR _) m;exact⟨e,a,i⟩
   .rintro⟨e,a,i⟩;obtain⟨w,o,z,b,c⟩:=P e a;exact⟨w,o,@bg _ (dR _) ⟨e,a,z,b,c,i⟩⟩
  rw[E];exact q
def Y?:D->D->Option D:=λx y=>match y with
 |.b4 a=>match ll x,yP a with
  |some d,Z l=>if decide (fy d<=20)&&l.all (λe=>decide (fy e<=20))then Z (.U (l.any λe=>m3 e d))else O
  |_,_=>O
 |_=>O
set_option tactic.hygienic true
def od_inT:g? G (rInT G.K) Y?:=λx y z r H v u Q e s q c k=>by
 unfold Y? at e;split at e
 .rename_i i;cases b:ll x with
  |none=>simp only[b]at e;cases e
  |some d=>
   cases f:yP i with
   |none=>simp only[b,f]at e;cases e
   |some l=>
    simp only[b,f]at e;split at e
    .rename_i h;cases e;rw[aU,bY,aQ]at h;have c:=df.mono s _ _ c;unfold df at c;obtain⟨a,j,rfl,m,o⟩:=c;exact⟨a,j,d,l,J,fb.of m,Fl x v d (df.mono s _ _ q) b,De i j l o f,h.1,λe p=>bp (h.2 e p),k _ λw w=>xy _⟩
    .cases e
 .cases e
set_option tactic.hygienic false
instance inT2:zb .In Y?:=⟨λX G h a=>⟨_,by rw[<-h];exact op_inT a,od_inT⟩⟩
end
section
variable{X:Cx}{B:Bz}{k i:Nat}{e:Expr}{f:FE}{a:FA}{x:Str}{p p2 p3 pos apos:Pos}
def zr_xsI{b}(h:rz X i x=γ)(d:ZE X B e f)(l:swapsWithSole [.Subscript (.Name x p) (.Constant (.int j) b p2) p3] e pos.line X.b3=pure δ)(m:swappedStores [.Subscript (.Name x p) (.Constant (.int j) b p2) p3] e X.b3=pure O)
  (c:(cu [.Subscript (.Name x p) (.Constant (.int j) b p2) p3] X.b3).map (·.2)=[assign (.Subscript (.Name x p) (.Constant (.int j) b p2) p3) X.b3]):ZS X B (.Assign [.Subscript (.Name x p) (.Constant (.int j) b p2) p3] e pos) (Bh i j f):=⟨RX (SQ d.p (Zv (Kx h) LH set_list) l m c)⟩
def zr_xeI [C:Cz X B k](h:rz X i x=γ)(d:Az X (.Name x p) "extend")(j:Ez apos pos)(b:S1 X e)(c:ZN X B e a):ZE X B (.Call (.Attribute (.Name x p) "extend" apos) [e] [] pos) (Ir i a):=
 ⟨RN (bmI d j b jU jN pF Rw (Kx h) (w6 c.p z6 b))⟩
end
section
variable{B:Bz}[Y:Yb B]{k np n:Nat}{b:FS}{x p:Str}{ps:aC}{st s0:Stmt}{l:List Stmt}
def gM5(N:aC)(c:g=qx np n b)(q:GD B.G.K x st)(d:vQ st=s0::l)(e:S2 st=p::ps)(body:S? B N x st (s0::l) k b)(S:okO N (p::ps) st (np+1) n=γ:=by kernel_rfl)(a:J? x x st (p::ps):=by (repeat intro _);rfl):Df B (k+1) x (rh B.G g):=
 ⟨_,gM c Y.y q (oz S).1 (body.ok d) (i8 (oz S).2.1) (oz S).2.2 a⟩
end
def sOf:aa->Str
 |.str x _=>x
 |_=>""
structure f?(w:aw)(h:Heap)(S:Addr)(ss:aC)(led:Bool)(o:Obj)(es:Array (Int×aa))(ep:Nat)(t:bF):Prop where
 fi:h.get? S=Z o
 ex:o.ExactSet
 d:o.data=.set es ep t
 f:t.fits es.size=γ
 led:t.led=led
 pl:0<ss.length->t.plain=δ
 el:∀e∈es.toList,∃x tk,e=(hashStr w x,Value.str x tk)
 p:(es.toList.map λe=>sOf e.2).Perm ss
def f?.sz{w:aw}{h:Heap}{S:Addr}{a:aC}{led:Bool}{o:Obj}{es:Array (Int×aa)}{ep:Nat}{t:bF}(x:f? w h S a led o es ep t):es.size=a.length:=by have:=x.p.length_eq;rw[ag,bJ]at this;exact this
set_option tactic.hygienic true
def lay_led(t:bF)(a:Array (Int×aa))(h:Int)(x:aa):(layNew t a h x).2.1.led=t.led/\(t.plain=δ->(layNew t a h x).2.1.plain=δ):=by
 unfold layNew;split
 .rename_i b c e;show ((t.put b).1.orStandIn _).led=_/\(_->((t.put b).1.orStandIn _).plain=δ);unfold SetTable.orStandIn;split
  .exact⟨J,id⟩
  .exact⟨J,λy=>J⟩
 .exact⟨J,λy=>J⟩
def Xn(t:bF)(a:Array (Int×aa))(n:Nat):(relayAll t a n).2.1.led=t.led/\(t.plain=δ->(relayAll t a n).2.1.plain=δ):=by
 unfold relayAll;split
 .rename_i c order e;obtain⟨b,_,e⟩:=lG.1 e;cases e;dsimp only;split
  .exact⟨J,id⟩
  .exact⟨J,λy=>J⟩
 .exact⟨J,λy=>J⟩
section
variable{prog:aB}{w:aw}{A:aG}{E:aa->af->Prop}{s:af}{S:Addr}{o:Obj}{es:Array (Int×aa)}{ep:Nat}{t:bF}{ss:aC}{led:Bool}
set_option tactic.hygienic false
def f?.elems(x:f? w s.heap S ss led o es ep t):ElemsOf (eZ prog w) es.toList:=λe a=>by obtain⟨z,b,rfl⟩:=x.el e a;exact⟨⟨z,by simp[eZ,gY],J⟩,J⟩
def f?.mem(x:f? w s.heap S ss led o es ep t)(z:Str):z∈ss ↔ ∃e∈es.toList,(eZ prog w).is z e.2=γ:=by
 rw[<-x.p.mem_iff,au];constructor
 .rintro⟨e,a,rfl⟩;obtain⟨y,b,rfl⟩:=x.el e a;exact⟨_,a,by simp[eZ,gY,sOf]⟩
 .rintro⟨e,a,h⟩;obtain⟨y,b,rfl⟩:=x.el e a;exact⟨_,a,by simpa [eZ,gY,sOf]using h⟩
def f?.stored(x:f? w s.heap S ss led o es ep t){es':Array (Int×aa)}{b:bF}{a:aC}(f:b.fits es'.size=γ)(l:b.led=led)(pl:0<a.length->b.plain=δ)(el:∀e∈es'.toList,∃x tk,e=(hashStr w x,Value.str x tk))(p:(es'.toList.map λe=>sOf e.2).Perm a):
  f? w (s.heap.update S (ku es' b)) S a led { o with data:=.set es' (ep+1) b } es' (ep+1) b:=
 ⟨OU x.fi x.d,x.ex,J,f,l,pl,el,p⟩
def tail_x{g:Bool->Sem Unit}(hg:∀(b:Bool) (i:af) (B:Unit->af->Prop),B () i->ah (model prog w) A (g b) B E i)(X:f? w s.heap S ss led o es ep t)
  {a:Array (Int×aa)} {c:bF} {m:aC} (f:c.fits a.size=γ) (l:c.led=led) (pl:c.plain=δ) (el:∀e∈a.toList,∃x tk,e=(hashStr w x,Value.str x tk)) (p:(a.toList.map λe=>sOf e.2).Perm m) (hb:a.size<scanBound)
  {wasDummy:Bool} {R:Option Bool->af->Prop} (h:∀h' G es' u H,dA S s.heap h'->f? w h' S m led G es' u H->R (Z γ) { s with heap:=h' }):
  ah (model prog w) A (do
    storeSet S a c
    if (!wasDummy&&c.tooFull)=γ then do
      g (relayAll c a (d7 a.size)).2.2
      storeSet S (relayAll c a (d7 a.size)).1 (relayAll c a (d7 a.size)).2.1
      pure (Z γ)
     else pure (Z γ)) R E s:=by
 refine ae (jV X.fi X.d ?_ (pV hb));have q:=X.stored f l (λv=>pl) el p;have hsb1:=c6 s.heap S (ku a c);split
 .have j:=relayAll_perm c a (d7 a.size);have hfr:=relayAll_fits c a (d7 a.size);have r:=Xn c a (d7 a.size);generalize relayAll c a (d7 a.size)=C at j hfr r ⊢;obtain⟨y,I,gave2⟩:=C;dsimp only at j hfr r ⊢;have z:y.size=a.size:=by rw[<-bJ,j.length_eq,bJ]
  refine ae (hg _ _ _ ?_);refine ae (jV q.fi q.d ?_ (pV (by rw[z];exact hb)));exact aq (h _ _ _ _ _ (hsb1.t (c6 _ S _)) (f?.stored q hfr (r.1.t l) (λv=>r.2 pl) (λe F=>el e (j.mem_iff.1 F)) ((j.map _).t p)))
 .exact aq (h _ _ _ _ _ hsb1 q)
set_option tactic.hygienic true
def add_x(X:f? w s.heap S ss led o es ep t)(hb:ss.length+1<scanBound)
  (h1:x∈ss->Q δ s)
  (h2:x∉ss->∀h' l es' c m,dA S s.heap h'->f? w h' S (ss++[x]) led l es' c m->Q γ { s with heap:=h' }):ah (model prog w) A (setAddHashed S (.str x tk) (hashStr w x)) Q E s:=by
 have sz:=X.sz;have hkey:(eZ prog w).is x (.str x tk)=γ:=by simp[eZ,gY]
 refine bK (ae (dq X.fi X.d X.f ?_));dsimp only;rw[byScan_of (knd:=eZ prog w) J (by omega) X.elems];simp only[↓reduceIte];refine ae ?_;refine ae (eA ?_);refine ae (wpAny_setScan_of hkey X.fi X.d X.f X.elems ?_);cases hr:List.findIdx? (λe=>(eZ prog w).is x e.2) es.toList with
 |some j=>obtain⟨F,hpj,_⟩:=List.findIdx?_eq_some_iff_getElem.1 hr;exact aq (aq (h1 ((X.mem x).2 ⟨es.toList[j],gn F,hpj⟩)))
 |none=>
  dsimp only;have nin:x∉ss:=λH=>by obtain⟨e,h,G⟩:=(X.mem x).1 H;have:=List.findIdx?_eq_none_iff.1 hr e h;rw[G]at this;exact Bool.noConfusion this
  have hgw:∀(b:Bool) {a:af} {q:Unit->af->Prop},q () a->ah (model prog w) A (match b with|true=>rule "set.scan.the-table-gave-way" |false=>pure ()) q E a:=
   λb a q i=>by cases b<;>first|exact aq i|exact eA i
  have hperm:=layNew_perm t es (hashStr w x) (.str x tk);have hfits:=layNew_fits t es (hashStr w x) (.str x tk);have hled:=lay_led t es (hashStr w x) (.str x tk);generalize layNew t es (hashStr w x) (.str x tk)=L at hperm hfits hled ⊢;obtain⟨u,I,wasDummy,gave⟩:=L;dsimp only at hperm hfits hled ⊢;rw[mm]at hperm;have r:∀e∈u.toList,∃x tk,e=(hashStr w x,Value.str x tk):=λe h=>by
   rcases aV.1 (hperm.mem_iff.1 h)with h|h
   .exact X.el e h
   .rw[bj]at h;exact⟨x,tk,h⟩
  have C:=by have:=hperm.map λe:Int×aa=>sOf e.2;rw[bu]at this;exact this.t (X.p.append_right _)
  have y:u.size<scanBound:=by rw[<-bJ,hperm.length_eq,aE,bJ,sz];exact hb
  refine ae (hgw _ ?_);have end_:∀(h':Heap) (l:Obj) (es':Array (Int×aa)) (c:Nat) (m:bF),dA S s.heap h'->f? w h' S (ss++[x]) led l es' c m->Q γ { s with heap:=h' }:=h2 nin;split
  .refine ae ?_;rw[hashByValue_scannable 8 J];refine aq ?_;refine tail_x ?_ X (SetTable.fits_plain_off hfits) (hled.1.t X.led) J r C y ?_
   .intro b a q i;cases b<;>first|exact aq i|exact eA i
   .intro h' l es' c m B z;dsimp only;exact aq (end_ h' l es' c m B z)
  .rename_i hpl;refine ae (aq ?_);simp only[↓reduceIte];refine tail_x ?_ X hfits (hled.1.t X.led) (by simpa using hpl) r C y ?_
   .intro b a q i;cases b<;>first|exact aq i|exact eA i
   .intro h' l es' c m B z;dsimp only;exact aq (end_ h' l es' c m B z)
end
set_option tactic.hygienic false
section
variable{prog:aB}{w:aw}{A:aG}{E:aa->af->Prop}{s:af}{S:Addr}{o:Obj}{es:Array (Int×aa)}{ep:Nat}{t:bF}
theorem iter_X(x:f? w s.heap S ss (!w.params.followText "set-order") o es ep t)(B:ss.length<64)
  (hQ:∀(h':Heap) (I TP:Addr) (gf:List aa) (d:Drawn),s.heap.objs.size<=I->I<h'.objs.size->TP≠I->(TP=S\/s.heap.objs.size<=TP)->(∀b o,s.heap.get? b=Z o->h'.get? b=Z o)->ItS w I S TP gf o es ep t 0 h'->gf.Perm (es.toList.map bD)->Q (.ref I) { s with heap:=h',drawn:=d }):
  ah (model prog w) A (pyIter (.ref S)) Q E s:=by
 have hf:=x.f;have ty:s.TypeIs (.ref S) "set" := ⟨o,x.fi,x.ex.1⟩;have hlt:=aL x.fi;refine pU ty qG (dt qG ty Mi ?_ (F.args_set_iter_1 _));refine ae (aq ?_);refine ae ?_;refine ae (ae (dq x.fi x.d hf (aq ?_)));refine aq ?_;refine ae ?_;refine ae (dq x.fi x.d hf ?_);refine ae (GH ?_);refine aq ?_;have plain0:(w.params.followText "set-order" = γ\/(w.params.followText "set-order" = δ/\es.size<=1))->ah (model prog w) A.in1 (do
   let first<-pure (rawInt 0)
   let e<-setEpoch S;let r<-newFields "set_iterator" [first,rawInt 0,Value.ref S,rawInt ↑es.size,rawInt ↑e]
   ret r) (λfin i=>∃v,fin=Fin.done (Flow.ret v)/\∃a r,i.TypeIs v a/\typeLookup (Value.type a) (i6 "__next__")=pure (Z r)/\Q v i) E s:=λc=>by
  refine ae (aq ?_);refine ae (pW x.fi x.d hf ?_);refine ae (dj ?_);have h:∀(l:Obj) (b:Addr) (o:Obj),s.heap.get? b=Z o->(s.heap.push l).get? b=Z o:=λl b o e=>aA _ e;have it:∀gf,Md w (s.heap.push { cls:=.type "set_iterator", data:=.fields [rawInt 0,rawInt 0,Value.ref S,rawInt ↑es.size,rawInt ↑ep].toArray }) S S 0 gf es ep t (.int 0 0)->gf.Perm (es.toList.map bD)->_:=λgf m p=>aq (M:=model prog w) (A:=A.in1) (E:=E) (Q:=λfin i=>∃v,fin=Fin.done (Flow.ret v)/\∃a r,i.TypeIs v a/\typeLookup (Value.type a) (i6 "__next__")=pure (Z r)/\Q v i) ⟨.ref s.heap.objs.size,J,"set_iterator", _,⟨_,aX _ J,J⟩,yS.lookup,hQ _ s.heap.objs.size S gf s.drawn (aJ _) (by rw[cy];exact dG _) (aT hlt) (.inl J) (h _) ⟨⟨_,.int 0 0,aX _ J,J,J,m⟩,h _ _ _ x.fi,x.d,hf⟩ p⟩;rcases c with c|⟨c1,c2⟩
  .exact it _ (.txt c J) ((K9 _ es).map _)
  .exact it _ (.one c1 c2 (by rw[x.led,c1];rfl) (λ_=>J) (λj e=>by cases e) J) (.refl _)
 cases c:w.params.followText "set-order" with
 |true=>rw[ak (by simp)];exact plain0 (.inl c)
 |false=>
  by_cases h1:es.size<=1
  .rw[ak λy=>by
    have:(!δ&&(!t.plain&&decide (es.size > 1)))=γ:=y;simp at this;omega]
   exact plain0 (.inr ⟨c,h1⟩)
  .have pl:=x.pl (by have:=x.sz;omega);rw[aj (by show (!δ&&(!t.plain&&decide (es.size > 1)))=γ;rw[pl];simp;omega)];refine ae (Qx es.size _ s bS λz d p=>?_);refine ae (mR ?_ (by
    rw[ag,p.length_eq,bS,x.sz,bO];omega))
   refine ae (pW (aA _ x.fi) x.d hf ?_);refine ae (dj ?_);have h:∀(q u:Obj) (b:Addr) (o:Obj),s.heap.get? b=Z o->((s.heap.push q).push u).get? b=Z o:=λq u b o e=>aA _ (aA _ e);have gf:(z.filterMap λp=>es[p]?.map bD).Perm (es.toList.map bD):=by refine(p.filterMap _).t ?_;rw[show (bf es.size).filterMap (λp=>es[p]?.map bD)=((bf es.size).filterMap λp=>es[p]?).map bD from(pH ..).symm,lE]
   refine aq ⟨_,J,"set_iterator", _,⟨_,aX _ J,J⟩,yS.lookup,hQ _ _ s.heap.objs.size _ d ?_ ?_ ?_ (.inr (aJ _)) (h _ _) ⟨⟨_,.ref s.heap.objs.size,aX _ J,J,J,.drw c (aA _ (aX _ J)) J J J p J⟩,h _ _ _ _ x.fi,x.d,hf⟩ gf⟩
   .rw[cy];exact ja _
   .exact Nat.lt_of_lt_of_eq (dG _) (cy _ _).symm
   .rw[cy];exact aT (dG _)
end
section
variable{prog:aB}{w:aw}{A:aG}{E:aa->af->Prop}{s:af}{S:Addr}{o:Obj}{es:Array (Int×aa)}{ep:Nat}{t:bF}{ss:aC}
def f?.fc{h h':Heap}{led:Bool}(x:f? w h S ss led o es ep t)(k:∀o,h.get? S=Z o->h'.get? S=Z o):f? w h' S ss led o es ep t:={ x with fi:=k _ x.fi }
theorem Xi(B:A.handled=O)(x:f? w s.heap S ss (!w.params.followText "set-order") o es ep t)(C:ss.length<64)
  (hQ:∀h2 k2 d2 acc,s.heap.objs.size<=h2.objs.size->(∀b o,s.heap.get? b=Z o->h2.get? b=Z o)->acc.Perm (es.toList.map bD)->Q acc { s with heap:=h2,toks:=k2,drawn:=d2 }):ah (model prog w) A (collect (.ref S)) Q E s:=by
 have hlt:=aL x.fi;have G:es.size<=63:=by have:=x.sz;omega
 let lO:Obj:={ cls:=.type "list", data:=.seq ([]:List aa).toArray };refine ae (qO (dw F.entry_proto_collect ?_));rw[dE F.plain_proto_collect _];refine ae (dj ?_);refine aq ⟨eX pX _,dw F.entry_list_iadd ?_⟩;rw[dE pX _];show ah _ A.in1 (sP (.ref s.heap.objs.size) (.ref S) (.ref s.heap.objs.size)) _ _ _;have f:(s.heap.push lO).objs.size=s.heap.objs.size+1:=cy _ _;have i:f? w (s.heap.push lO) S ss (!w.params.followText "set-order") o es ep t:=x.fc λo e=>aA _ e;have p:mV { s with heap:=s.heap.push lO } (.ref S) "set" := ⟨o,i.fi,x.ex.1⟩;refine ae (hG p ?_);rw[ak (by
  have:oF (.ref s.heap.objs.size) (.ref S)=δ:=by simp[oF];exact λe=>ar e (dM hlt)
  rw[this];decide)]
 refine ae (iter_X i C λh3 I TP gf q hI1 hI2 hTI hTP h it po=>?_);have hI:s.heap.objs.size+1<=I:=by rw[<-f];exact hI1
 have L3:=h _ _ (aX _ J);have a:mV { s with heap:=h3,drawn:=q } (.ref S) "set" := ⟨o,it.fi,x.ex.1⟩;have l:=λb o e=>h b o (aA _ e);refine ae (bK ?_);refine ae (gW a F.slot_set_len.lookup ?_);generalize hid:("set.__len__" : String)=c;wp_delta;rw[show splitId c=Z ("set", "__len__") from by subst hid;decide +kernel];subst hid;refine ae (mC a sub_set_self ?_);rw[ak (by decide),aj (by decide +kernel)];refine ae (hG a ?_);refine aq ?_;rw[aj (by decide +kernel)];refine ae (eA ?_);refine ae ?_;refine ae (mK L3 J ?_);have d:=eK (c9 (·.push Value.none)) L3 J
 refine mK d J ?_;have m:=eK (c9 (·.pop)) d J
 have oth:∀b o,b≠s.heap.objs.size->h3.get? b=Z o->((h3.update s.heap.objs.size (c9 (·.push Value.none))).update s.heap.objs.size (c9 (·.pop))).get? b=Z o:=
  λb o hb e=>(gH _ _ (dB hb)).t ((gH _ _ (dB hb)).t e)
 have hSI:=aT (ck hlt (pY hI));have hSf:s.heap.objs.size∉[I,S,TP]:=by
  intro z;rcases aM.1 z with z|z
  .exact ar z (aT hI)
  .rcases aM.1 z with z|z
   .exact ar z (dM hlt)
   .rw[bj]at z;rcases hTP with e|e
    .exact ar (z.t e) (dM hlt)
    .rw[<-z,f]at e;exact ar e (Nat.not_succ_le_self _)
 have W:=acu (prog:=prog) (w:=w) (A:=A.in1) (gf:=gf) (o:=o) (es:=es) (ep:=ep) (t:=t) (by simp[B]) hSI hTI;have P:gf.length<=63:=by rw[po.length_eq,ag,bJ];exact G
 refine aq ⟨eX F.plain_extend_loop _,codeAny_extend_loopS W.toS (by rw[bO];omega) _ hSf _ gf.length 0 _ _ _ J (cp _)
  (W.frame 0 h3 _ ⟨it,cp _⟩ λb hb o e=>oth b o (λz=>hSf (by rw[<-z];exact hb)) e) m (ItemsOf.nil _) λH acc' M hm hS' hacc=>?_⟩
 refine ae (wpAny_load hS' ?_);have r:acc'.toList=gf:=by
  apply mj;intro j;cases e:acc'.toList[j]? with
  |none=>rw[List.getElem?_eq_none_iff,bJ,hacc.1]at e;exact(gQ e).symm
  |some v=>rw[iA]at e;exact(hacc.2 j v e).symm
 obtain⟨h2,g2,d2,k2,N⟩:=H;have u:=hm.gens;have y:=hm.os;subst u y;refine aq (hQ h2 k2 d2 acc'.toList (gx (aL hS')) (λb o e=>?_) (by rw[r];exact po));have hb:=aL e;exact hm.heap b o (λz=>by
  rcases aM.1 z with z|z
  .exact ar z (aT hb)
  .exact ar (bj.1 z) (aT (ck hb (pY hI)))) (oth b o (aT hb) (l b o e))
def W?(W:kE prog w A.in1 I fp m GG n PP SS)(hSf:S∉fp)(ks:aC)(hn:ks.length=n)(G:n<64)
  (hval:∀i v,PP i v->∃x tk,ks[i]?=Z x/\v=.str x tk):∀(k i:Nat) (s:af) (o:Obj) (es:Array (Int×aa)) (ep:Nat) (t:bF),n - i=k->i<=n->SS i s->f? w s.heap S (vy (ks.take i)) led o es ep t->
   (∀c o es ep t,jk (S::m) GG s c->f? w c.heap S (vy ks) led o es ep t->R (.ok (.ret .none)) c)->
   cz (model prog w) A (.builtin "set.update.loop" ⟨[.ref S,.ref I],[]⟩) R s:=by
 have hSw:=λz=>hSf ((W).sub _ z);have up:∀b∈m,b∈S::m:=λb z=>bc _ z;intro k
 induction k with
 |zero=>
  intro i s o es ep t H hi hst x hR;obtain rfl:i=n:=by omega
  refine dw gG ?_;rw[dE dQ _];refine ae (W.done s _ _ hst λc hm=>?_);rw[gO (by omega)]at x;exact aq (hR c o es ep t (hm.mono up) { x with fi:=hm.heap S _ hSw x.fi })
 |succ k u=>
  intro i s o es ep t H hi hst x hR;have hlt:i<n:=by omega
  refine dw gG ?_;rw[dE dQ _];refine ae (W.item i s _ _ hlt hst λv c hP hst' hm=>?_);obtain⟨q,tk,F,rfl⟩:=hval i v hP;refine ae (bK ?_);unfold setAdd;refine bK ?_;refine ae (p9 ?_);have split:vy (ks.take (i+1))=if q∈vy (ks.take i)then vy (ks.take i)else vy (ks.take i)++[q]:=by unfold vy;rw[iP,F,pN];rfl
  have B:={ x with fi:=hm.heap S _ hSw x.fi };have Q:=by have h1:=NJ (Pc (ks.take i)) λz M=>Ml.1 M;rw[bZ]at h1;omega
  refine add_x B (by unfold scanBound;omega) (λinn=>?_) λnin h' N es' C P r y=>?_
  .have e:vy (ks.take (i+1))=vy (ks.take i):=by rw[split,aj inn]
   refine aq ⟨eX dQ _,u (i+1) _ o es ep t (by omega) hlt (W.frame _ c c.heap _ hst' (dW _ _) λb z o e=>e) (by rw[e];exact B) λh j f d l a p=>?_⟩;exact hR h j f d l (jc W.gtrans ((hm.mono up).then_heap (dW _ _) λb o z e=>e) a) p
  have e:vy (ks.take (i+1))=vy (ks.take i)++[q]:=by rw[split,ak nin]
  refine aq ⟨eX dQ _,u (i+1) _ _ _ _ _ (by omega) hlt (W.frame _ c h' _ hst' (dW _ _) λb z o e=>?_) (by rw[e];exact y) λh j f d l a p=>?_⟩
  .rw[r.2 b (λy:b=S=>hSf (by rw[<-y];exact z))];exact e
  .refine hR h j f d l (jc W.gtrans ((hm.mono up).then_heap (dW _ _) λb o z e=>?_) a) p;rw[r.2 b (λy:b=S=>z (by rw[y];exact ba))];exact e
def set_X{ks:aC}(I:cb X pins σ H s)(N:A.handled=O)(P:fb X.K H a (ks.map V.str))(j:ks.length<64)
  (h:∀h2 k2 o es ep t,f? X.w h2 s.heap.objs.size (vy ks) (!X.w.params.followText "set-order") o es ep t->(∀b o,b<s.heap.objs.size->s.heap.get? b=Z o->h2.get? b=Z o)->Q (.ref s.heap.objs.size) { s with heap:=h2,toks:=k2 }):
  ah (model X.prog X.w) A (call (.type "set") [.ref a]) Q E s:=by
 have h3:A.in1.in1.in1.handled=O:=by simp[N]
 obtain⟨c,r,pp,_⟩:=I.list P;obtain⟨o,m,l,n,hd⟩:=pp.isList;have hlt:=aL m;have hne:=aT (eU hlt);have p:=by have:=r.length;rw[ag]at this;exact this
 refine Fo (PS:=λh2=>∃o es ep t,f? X.w h2 s.heap.objs.size (vy ks) (!X.w.params.followText "set-order") o es ep t) m l mO l7 (by decide)
  (λA Q E s1 e k=>fG ⟨o,e,l,n,hd⟩ k) (λtk' R hR=>?_) λh2 k2 ⟨o,es,ep,t,x'⟩ T=>h h2 k2 o es ep t x' T
 have x:∀{b:Addr} {y:Obj},s.heap.get? b=Z y->((s.heap.push (Au (!X.w.params.followText "set-order"))).push { cls:=.type "list_iterator", data:=.fields #[.ref a,.int 0 0] }).get? b=Z y:=λe=>aA _ (aA _ e);have it:((s.heap.push (Au (!X.w.params.followText "set-order"))).push { cls:=.type "list_iterator", data:=.fields #[.ref a,.int 0 0] }).get? (s.heap.objs.size+1)=Z { cls:=.type "list_iterator", data:=.fields #[.ref a,.int 0 0] }:=by rw[show s.heap.objs.size+1=(s.heap.push (Au (!X.w.params.followText "set-order"))).objs.size from(cy _ _).symm];exact aX _ J
 have W:=(jf (prog:=X.prog) (w:=X.w) h3 (s.heap.objs.size+1) a hne c.toArray).toS;have notin:s.heap.objs.size∉[s.heap.objs.size+1,a]:=by
  intro z;rcases aM.1 z with z|z
  .exact ar z (aT (dG _))
  .exact ar (bj.1 z) (dM hlt)
 refine W? W notin ks (by rw[bb,p]) (by rw[bb,<- p];exact j) ?_ (c.toArray.size - 0) 0 _ (Au (!X.w.params.followText "set-order")) #[] 0 (.fresh 0 0 (!X.w.params.followText "set-order")) J (cp _) ⟨⟨_,it,J,J⟩,⟨o,x m,l,n,hd⟩⟩ ⟨aA _ (aX _ J),⟨J,J,J⟩,J,J,J,λz=>ar z (d8 0),λe M=>(by cases M),.nil⟩ λs2 U f d t2 mv B=>?_
 .intro i v e;rw[iB]at e;have hi:i<ks.length:=by rw[p];exact(bX.1 e).1
  obtain⟨u,q,tk,ru⟩:=r.get (by rw[bx,bh hi];rfl);rw[e]at q;cases q;exact⟨ks[i],tk,bh hi,ru⟩
 .obtain⟨h2,g2,d2,k2,Y⟩:=s2;have F:=mv.gens;have C:=mv.drawn;have G:=mv.os;subst F C G;refine hR h2 k2 ⟨U,f,d,t2,B⟩ λb o hb e=>mv.heap b o (λz=>?_) (x e);rcases aM.1 z with z|z
  .exact ar z (aT hb)
  .exact ar (bj.1 z) (aT (eU hb))
end
section
variable{prog:aB}{w:aw}{A:aG}{E:aa->af->Prop}{s:af}
theorem G':∀(l:List aa),(∀v∈l,∃x a,v=.str x a)->l8 l (l.map sOf)
 |[],_=>.nil
 |v::l,h=>by obtain⟨x,a,rfl⟩:=h v ba;exact .cons x a (G' l λu b=>h u (bc _ b))
def XF(sa:l8 vs ss)(a:vs.length<64)(d:s.heap.get? l=Z (seqObj "list" vs.toArray n))
  (h:∀h' e out,DW l s.heap h'->de ((Dm ss).map V.str) out->h'.get? l=Z (seqObj "list" out.toArray e)->P (.done (.ret .none)) { s with heap:=h' }):
  ah (model prog w) A (cP.«list.sort» ⟨[.ref l],[]⟩) P E s:=by
 refine list_sort_treeK strKind_oneLt d sa.keysOf (λf i ey e=>keyKind_strs (by rw[<-e];exact sa)) a λc a1 a2=>?_;obtain⟨r,j,m,p⟩:=sorted_out_str sa a1 a2;obtain⟨e,q⟩:=sortedHeap_at d;refine h _ e ((arrOf c).map (·.2)).toList (λb o hb z=>by rw[sortedHeap_old hb (aL z)];exact z) ?_ (by rw[Array.toArray_toList];exact q)
 rw[<-O5 m p];exact YX j
def sorted_X(l:A.handled=O)(X:f? w s.heap S ss (!w.params.followText "set-order") o es ep t)(f:ss.length<64)
  (hQ:∀(p:Addr) (h2:Heap) (k2:Nat) (d2:Drawn) (e:Nat) (out:List aa),s.heap.objs.size<=p->(∀b o,s.heap.get? b=Z o->h2.get? b=Z o)->de ((Dm ss).map V.str) out->h2.get? p=Z (seqObj "list" out.toArray e)->Q (.ref p) { s with heap:=h2,toks:=k2,drawn:=d2 }):
  ah (model prog w) A (call (.builtin "sorted") [.ref S]) Q E s:=by
 refine ly kind_sorted plain_sorted entry_sorted (args_sorted1 _) ?_;refine ae (aq ?_);refine ae (Xi (by simp[l]) X f λg k2 d2 acc q h d=>?_);have j:acc.length<64:=by rw[d.length_eq,ag,bJ,X.sz];exact f
 have sa:=G' acc λv m=>by obtain⟨e,c,rfl⟩:=au.1 (d.mem_iff.1 m);obtain⟨x,tk,rfl⟩:=X.el e c;exact⟨x,tk,J⟩
 have es:Dm (acc.map sOf)=Dm ss:=by
  have u:=by have:=d.map sOf;rw[aW]at this;exact this.t X.p
  exact lD (λa b y y=>JA a b) (jF Jz IK _) (jF Jz IK ss) ((iH _ D').t (u.t (iH ss D').symm))
 refine ae (mX ?_ (by rw[bO];omega));have on:(g.push (seqObj "list" acc.toArray 0)).get? g.objs.size=Z (seqObj "list" acc.toArray 0):=aX _ J;refine ae (bK (dt qP ⟨_,on,J⟩ qA ?_ (qQ _)));refine XF sa j on λh' e out r i c=>?_;rw[es]at i;exact⟨_,J,aq ⟨_,J,hQ g.objs.size h' k2 d2 e out q (λb o z=>r b o (aT (aL (h b o z))) (aA _ (h b o z))) i c⟩⟩
end
section
variable{X:Cx}{G:Bg}
def tSortX(K:av)(d:TE):TE:=λe H Q=>d e H λx b=>∃(a:Addr) (c:aC),x=.ref a/\fb K b a (c.map V.str)/\c.length<64/\∀(p:Addr),b p=O->Q (.ref p) (eg b p (.b4 ((Dm (vy c)).map V.str)))
def pe_sortX{p2 p3:Pos}(j:X.j0=γ)(g1:Gl X "sorted")(N:X.mg "sorted" = O)(g2:Gl X "set")(P:X.mg "set" = O)(B:PE X e T)
  (m:az [Expr.Call (.Name "set" p2) [e] [] p3] X.b3=[(δ,eval (.Call (.Name "set" p2) [e] [] p3) X.b3)]:=by rfl) (r:az [e] X.b3=[(δ,eval e X.b3)]:=by rfl):PE X (.Call (.Name "sorted" Y) [.Call (.Name "set" p2) [e] [] p3] [] p4) (tSortX X.K T):=by
 intro pins s σ H Q I h;refine dS (Be I g1 N boot_sorted ?_ (by decide) (by decide));refine callWith_builtin1 ?_ m J;rw[m];refine eO ?_;refine dS (Be I g2 P rU ?_ (by decide) (by decide));refine callWith_type1 (e0 (w6 B z6 r p3 pins s σ H (λvs H1=>match vs with
  |[x]=>∃(a:Addr) (ks:aC),x=.ref a/\fb X.K H1 a (ks.map V.str)/\ks.length<64/\∀(p:Addr),H1 p=O->Q (.ref p) (eg H1 p (.b4 ((Dm (vy ks)).map V.str)))
  |_=>False) I h) λus S C=>?_) r J
 obtain⟨vs,H1,d,r1,f⟩:=C
 match vs,r1,f with
 |[x],r1,f=>
 obtain⟨a,ks,A,E,c,q⟩:=f;subst A;obtain⟨u,rfl,R⟩:=gk r1;cases R;have U:=jP (NJ (Pc ks) λz F=>Ml.1 F) c;refine set_X d (d.ok.hd j) E c λh2 k2 o es ep t x M=>?_;refine gb ?_;have i:cb X pins σ H1 { S with heap:=h2,toks:=k2 }:=d.fc λb o e=>M b o (aL e) e;refine sorted_X (d.ok.hd j) x U λp h3 k3 y e out l k4 W hg=>?_;have w:=i.laid (t':=k3) (o:=.b4 ((Dm (vy ks)).map V.str)) k4 l ⟨by
  rw[ag,bO,show (Dm (vy ks)).length=_ from(iH _ D').length_eq];omega,out,e,W,hg⟩
 exact⟨.ref p,_,cb.drw w y,J,q p (i.er.fresh l)⟩
def p1(f:FE):FA:=λd=>match f d with
 |some (.b4 c,a)=>match Hr c with
  |some b=>if b.length<64 then Z ((Dm (vy b)).map D.str,a)else O
  |none=>O
 |_=>O
set_option tactic.hygienic true
def V'(h:PE X e (tSortX G.K (tF G f))):PE X e (ub G (p1 f)):=PE.dd h λI H Q u=>by
 obtain⟨F,y,j,C,z,R,e,k⟩:=u;unfold p1 at e;split at e
 .rename_i m A o;cases d:Hr m with
  |none=>simp only[d]at e;cases e
  |some x=>
   simp only[d]at e;split at e
   .rename_i i;cases e;refine⟨F,y,j,_,_,R,o,λv B l s b r=>?_⟩;obtain⟨a,E,rfl,q,t⟩:=r;have w:=Jv t d;subst w;exact⟨a,x,J,fb.of (b.sub _ _ q),i,λp c=>k p _ _ _ s (b.ij c _) uZ (b.e4 c) (b.fg c) (b.apart c) (JB _)⟩
   .cases e
 .cases e
end
set_option tactic.hygienic false
section
variable{X:Cx}{B:Bz}{k:Nat}{e:Expr}{f:FE}{p p2 p3 pos:Pos}
def zr_wxI [C:Cz X B k][N:Nb B "sorted"][b:Nb B "set"](i:S1 X e)(h:Gz X "sorted")(a:Gz X "set")(d:ZE X B e f)(z:az [Expr.Call (.Name "set" p2) [e] [] p3] X.b3=[(δ,eval (.Call (.Name "set" p2) [e] [] p3) X.b3)]):ZN X B (.Call (.Name "sorted" p) [.Call (.Name "set" p2) [e] [] p3] [] pos) (p1 f):=⟨V' (by rw[<-C.K];exact pe_sortX C.c h (C.mg▸N.p) a (C.mg▸b.p) d.p z i)⟩
end
end L4
namespace HT
open PySem PySem.Spec PyProof.Rows
section
variable{prog:aB}{w:aw}{A:aG}{E:aa->af->Prop}{s:af}
theorem zE(hne:l≠it):∀(n i:Nat) (s:af) (Q:List aa->af->Prop),s.heap.IsListIter it l i->s.heap.IsList l items->i+n<=items.size->
  (∀h',h'.IsListIter it l (i+n)->dA it s.heap h'->Q ((items.toList.drop i).take n) { s with heap:=h' })->ah (model prog w) A (draw (.ref it) n) Q E s
 |0,i,s,Q,hit,_,_,hQ=>by exact aq (by simpa using hQ s.heap hit (uL ..))
 |n+1,i,s,Q,hit,d,hle,hQ=>by
  have hlt:i<items.size:=by omega
  refine ae (oH hit d (x:=items[i]) (by simp[hlt]) λe hit₁ a=>?_);refine ae (bK (zE hne n (i+1) _ _ hit₁ (pI d a.extBut hne) (by omega) λc hit₂ b=>aq ?_));have hd:items.toList.drop i=items[i]::items.toList.drop (i+1):=by simp[jA,hlt]
  have:=hQ c (by rw[show i+(n+1)=i+1+n by omega];exact hit₂) (a.t b);rw[hd,List.take_succ_cons]at this;exact this
def G?(j:A.handled=O)(f:s.heap.IsList l items)
  (hQ:∀h',nF s.heap.objs.size s.heap h'->Q items.toList { s with heap:=h' }):ah (model prog w) A (unpackItems (.ref l) items.size O) Q E s:=by
 have hlt:l≠s.heap.objs.size:=by obtain⟨o,m,_⟩:=f;exact aT (aL m)
 refine ae ?_;refine ae (gW f.typeIs slot_list_iter.lookup ?_);refine aq ?_;simp only[eQ,if_false];refine ae (bK (fG f ?_));refine ae (bK (zE hlt items.size 0 _ _ ⟨_,aX _ J,J,J⟩ (f.push _) (by omega) λi hit₁ a=>?_));have hall:List.take items.size (List.drop 0 items.toList)=items.toList:=by rw[qV];exact gO (by simp)
 rw[hall];rw[ak (by simp)];have d:=pI (f.push _) a.extBut hlt;refine ae (bK (oO j hit₁ d (by simp) λh c=>?_));simp only[Option.isSome_none,eQ,if_false];exact aq (hQ h λb o hb e=>c b o hb (a.extBut b o hb (aA _ e)))
end
end HT
namespace L2
open PySem PySem.Spec PyProof.Rows
section
variable{X:Cx}{pos:Pos}
inductive IgLst(K:av) (n:Nat) (t:TGs) (v:V) (σ:St) (H:Hp) (Q:(St->Hp->Prop)):Prop
 |i (a xs) (h0:v=.ref a) (h1:fb K H a xs) (h2:xs.length=n) (h3:t xs σ H Q):IgLst K n t v σ H Q
def gLst(K:av)(n:Nat)(t:TGs):TG:=λv a H Q=>IgLst K n t v a H Q
def pg_lst(l:X.j0=γ)(h:I' X es t)
  (hn:(cu es X.b3).length=n) (hst:(cu es X.b3).findIdx? (·.1)=O):PG X (.Tuple es k pos) (gLst X.K n t):=by
 intro pins s σ H v u Q I r hw;obtain⟨a,xs,i,p,m,hw⟩:=hw;subst i;cases r;obtain⟨c,d,q,x⟩:=I.list p;have j:(cu es X.b3).length=c.toArray.size:=by simp[hn,<- m,d.length]
 rw[assign_Tuple];refine ae (j9 ?_);unfold unpack;rw[j,hst];refine ae (bK (HT.G? (I.ok.hd l) q.isList λh' w=>?_));have f:cb X pins σ H { s with heap:=h' }:=I.fc λb o e=>w b o (aT (aL e)) e;exact h pins _ σ H xs _ Q f (by simpa using d) hw
end
end L2
namespace L4
open PySem PySem.Spec PyProof.Rows L2 L3
section
variable{X:Cx}{G:Bg}
def gTL(b:aY->aP->Option aP)(n:Nat):FG:=λd c=>match d with
 |.b4 a=>if a.length=n then b a c else O
 |_=>O
set_option tactic.hygienic true
def pfg_lst(h:PG X (.Tuple j k pos) (gLst G.K m (RH G n l))):PG X (.Tuple j k pos) (ι G n (gTL l m)):=PG.dd h λv w H Q p=>by
 obtain⟨F,u,f,d,b,R,r,e,k⟩:=p;cases d with
 |b4 i=>
  unfold gTL at e;simp only at e;split at e
  .rename_i q;obtain⟨a,t,rfl,o,c⟩:=r;exact⟨a,t,J,fb.of (R.sub _ _ o),by rw[<-uW c];exact q,F,u,f,i,b,R,c,e,k⟩
  .cases e
 |_=>cases e
set_option tactic.hygienic false
def Y'(f g:FE):FA:=λd=>match f d with
 |some (.b4 c,a)=>match g a with
  |some (.int k,b)=>if c.length * k.toNat<=1000/\-1000<=k/\k<=1000 then Z ((b0 k.toNat c).flatten,b)else O
  |_=>O
 |_=>O
theorem z?(r:b? G H a b):∀k:Nat,b? G H (b0 k a).flatten (b0 k b).flatten
 |0=>vJ
 |k+1=>by rw[f9,f9,gS,gS];exact w9 r (z? r k)
set_option tactic.hygienic true
def pfn_rep(B:PE X a (tF G f))(C:PE X b (tF G g)):PE X (.BinOp a .Mult b pos) (ub G (Y' f g)):=PE.dd (PH Z8 B C) λY H Q E=>by
 obtain⟨F,P,o,d,S,R,e,k⟩:=E;unfold Y' at e;split at e
 .rename_i W c y;split at e
  .rename_i m T z;split at e
   .rename_i I;cases e;refine⟨F,P,o,_,c,R,y,λv q t s x r=>⟨F,c,q,_,_,x,z,λu U w l R2 N=>?_⟩⟩;have M:=df.mono l _ _ r;obtain⟨a1,i,rfl,A,j⟩:=M;subst N;refine⟨a1,m,i,J,J,R2.sub _ _ A,by omega,by omega,by rw[<-uW j];exact xT I.1,λp h=>?_⟩;exact k p _ _ _ (s.t l) (R2.ij h _) uZ (R2.e4 h) (R2.fg h) (R2.apart h) (z? j _)
   .cases e
  .cases e
 .cases e
inductive ItFAq(G:Bg) (i:Int) (n:FA) (σ:St) (H:Hp) (Q:(bA->Hp->Prop)):Prop
 |i (F ρ H0 ns ρ2) (h0:c3 G F σ ρ H0 H) (h1:n ρ=Z (ns,ρ2)) (h2:∀p zs H0' H',ve H0 H0'->c3 G F σ ρ2 H0' H'->H' p=Z (.b4 zs)->H0' p=O->F.B p=O->l4 σ ρ2 p->b? G H0' ns zs->Q [.ref p,.int i] H'):ItFAq G i n σ H Q
set_option tactic.hygienic false
def tFAq(G:Bg)(i:Int)(n:FA):TA:=λa H Q=>ItFAq G i n a H Q
def pfaq{j p}(h:PE X e (ub G n))(w:az [e,.Constant (.int i) j p] X.b3=(δ,eval e X.b3)::az [.Constant (.int i) j p] X.b3)(a:az [.Constant (.int i) j p] X.b3=[(δ,eval (.Constant (.int i) j p) X.b3)]):PA X [e,.Constant (.int i) j p] (tFAq G i n):=PA.dd (w6 h (w6 LH z6 a) w) λB H Q u=>by obtain⟨F,z,c,x,b,R,l,k⟩:=u;exact⟨F,z,c,x,b,R,l,λp y A d s f m o q r t=>k p y _ _ s f m o q r t⟩
set_option tactic.hygienic true
def pf_mutQ(h:PE X e (E5 (rh G g) [] E (tFAq G i n))):PE X e (tF G (xr g (ax (cC (.int i)) vA) n)):=PE.dd h λσ H Q A=>by
 obtain⟨F,c,m,d,P,R,e,k⟩:=A;unfold xr at e;rw[show ax (cC (.int i)) vA c=Z ([.int i],c) from J]at e;dsimp only at e;split at e
 .rename_i j S r;split at e
  .rename_i U a t;cases e;refine⟨F,c,m,j,_,R,r,λb M o p s f u w x y z=>?_⟩;refine⟨b,[.int i],M,o,j,[.int i],_,a,J,u,w,f.sub,z,vM (xa i) vJ,t,λv N T q l B C fr W I Y w3=>?_⟩;exact k _ _ _ (s.t l) (f.temp x y l B C fr I) w3
  .cases e
 .cases e
end
set_option tactic.hygienic false
section
variable{X:Cx}{B:Bz}{k j n' k':Nat}{x:Str}{e e':Expr}{es:List Expr}{f f':FE}{a n:FA}{p p' pos:Pos}{g:aY->aY->Option (D×aY)}{gs:aY->aP->Option aP}{i:Int}{m:Nat}
def zr_gtuL [C:Cz X B k](h:ZH X B es m gs)(b:(cu es X.b3).length=n')(d:(cu es X.b3).findIdx? (·.1)=O):ZG X B (.Tuple es k' pos) m (gTL gs n'):=⟨pfg_lst (by rw[<-C.K];exact pg_lst C.c h.p b d)⟩
def zr_rpN(b:ZE X B e f)(c:ZE X B e' f'):ZN X B (.BinOp e .Mult e' pos) (Y' f f'):=⟨pfn_rep b.p c.p⟩
def zr_mqI{b}[C:Cz X B k][Q:Df B j x (rh B.G g)](d:Gz X x)(hd:Dz x)(w:ZN X B e n)(h:Sz X e [.Constant (.int i) b p'])(c:S1 X (.Constant (.int i) b p'))(z:Lz X pos [.Constant (.int i) b p'])(y:fz j k=γ):ZE X B (.Call (.Name x p) [e,.Constant (.int i) b p'] [] pos) (xr g (ax (cC (.int i)) vA) n):=by obtain⟨E,q⟩:=dz d hd (Q:=Q);obtain⟨f,A,l,o,t,u⟩:=q;exact⟨pf_mutQ (IF u (C.r.mono (fj.mp y)) d l o t .nil Ja (pfaq w.p h c) hd h z)⟩
end
section
variable{X:Cx}{G:Bg}
inductive IrNiT(K:av) (x:V) (y:V) (H:Hp) (Q:VK):Prop
 |i (p xs d l) (h0:y=.ref p) (h1:fb K H p xs) (h2:L3.df K H d x) (h3:L3.b? K H l xs) (h4:fy d<=20) (h5:(∀e∈l,fy e<=20)) (h6:Q (.U (!l.any λe=>m3 e d)) H):IrNiT K x y H Q
def rNiT(K:av):R2:=λx y H Q=>IrNiT K x y H Q
def op_niT(W:X.A.units+64<cLine):fu X (bz .NotIn) (rNiT X.K):=by
 intro C s σ H x y v u Q I T U h;obtain⟨p,xs,d,l,rfl,M,R,S,hd,F,q⟩:=h;cases U;obtain⟨j,r,pl,Y⟩:=I.list M;obtain⟨N,P⟩:=tj S r;have B:=λe a z w b c=>OD I e d z x w v X.A.in1 b R c T (by have:=F e a;show X.A.units+1+_+_<_;omega);let f:=λw=>@decide (∃e∈l,∃z,L3.df X.K H e z/\dg z w/\m3 e d=γ) (dR _);refine pz f pl.isList (λw o=>?_) ⟨.U _,H,I,J,?_⟩
 .by_cases m:∃e∈l,∃z,L3.df X.K H e z/\dg z w/\m3 e d=γ
  .have t:f w=γ:=@bg _ (dR _) m;obtain⟨e,a,z,b,c,i⟩:=m;have:=B e a z w b c;rw[i]at this;rw[t];exact this
  .have t:f w=δ:=@bq _ (dR _) m;obtain⟨e,a,z,b,c⟩:=N w (by simpa using o);have:=B e a z w b c;rw[jS.2 λi=>m ⟨e,a,z,b,c,i⟩]at this;rw[t];exact this
 .have E:j.toArray.any f=l.any λe=>m3 e d:=by
   rw[show j.toArray.any f=j.any f by simp];refine du.2 ?_;rw[dH,dH];constructor
   .rintro⟨w,o,m⟩;obtain⟨e,a,z,b,c,i⟩:=@bp _ (dR _) m;exact⟨e,a,i⟩
   .rintro⟨e,a,i⟩;obtain⟨w,o,z,b,c⟩:=P e a;exact⟨w,o,@bg _ (dR _) ⟨e,a,z,b,c,i⟩⟩
  rw[E];exact q
def ZX:D->D->Option D:=λx y=>match y with
 |.b4 a=>match ll x,yP a with
  |some d,Z l=>if decide (fy d<=20)&&l.all (λe=>decide (fy e<=20))then Z (.U (!l.any λe=>m3 e d))else O
  |_,_=>O
 |_=>O
set_option tactic.hygienic true
def od_niT:g? G (rNiT G.K) ZX:=λx y z r H v u Q e s q h k=>by
 unfold ZX at e;split at e
 .rename_i i;cases b:ll x with
  |none=>simp only[b]at e;cases e
  |some d=>
   cases c:yP i with
   |none=>simp only[b,c]at e;cases e
   |some l=>
    simp only[b,c]at e;split at e
    .rename_i f;cases e;rw[aU,bY,aQ]at f;have h:=df.mono s _ _ h;obtain⟨a,j,rfl,m,o⟩:=h;exact⟨a,j,d,l,J,fb.of m,Fl x v d (df.mono s _ _ q) b,De i j l o c,f.1,λe p=>bp (f.2 e p),k _ λw w=>xy _⟩
    .cases e
 .cases e
set_option tactic.hygienic false
instance niT2:zb .NotIn ZX:=⟨λX G h a=>⟨_,by rw[<-h];exact op_niT a,od_niT⟩⟩
end
section
variable{B:Bz}[Y:Yb B]{x m qual:Str}{st s0:Stmt}{l:List Stmt}{k c c0 np n:Nat}{b:FS}{p:Str}{ps xs:aC}{N:aC}
omit Y in
end
def dV(g:aY->Option (Option D)):aY->Option D:=λa=>match g a with
 |some (Z d)=>Z d
 |_=>O
mutual
def noFz:D->Bool
 |.qi _=>δ
 |.tH _ _=>δ
 |.c4 a=>F? a
 |.b4 a=>F? a
 |.obj _ _ a=>F? a
 |.Y _ a=>F? a
 |_=>γ
def F?:aY->Bool
 |[]=>γ
 |d::a=>noFz d&&F? a
end
end L4
namespace L4
open PySem PySem.Spec PySem.Calls PyProof.Rows PySem.W L2 L3
def vt:typeLookup (.type "tuple") "keys" = pure O:=by rw[j6,jI];kernel_rfl
def ke:typeLookup (.type "tuple") "__getattr__" = pure O:=by rw[j6,jI];kernel_rfl
def P?(a:Addr)(o:Obj):sL:=λA R s=>A.handled=O/\s.heap.get? a=Z o/\o.cls=.type "tuple" /\ (∃items n,o.data=.seq items n)/\o.dict=O/\∀h' tk e,Heap.NewAttrErr s.heap h' e (.ref a) "keys" -> R (.error (.ref e)) { s with heap:=h',toks:=tk }
def rm(a:Addr)(o:Obj)(u:Tok):Meets (cP.«object.__getattribute__» ⟨[.ref a,.str "keys" u],[]⟩) (P? a o):=
 Meets.of_wp λprog w A R s h=>by
  obtain⟨e,g,d,j,os⟩:=s;obtain⟨c,i,b,⟨items,n,hd⟩,hdi,f⟩:=h;have hT:(⟨e,g,d,j,os⟩:af).TypeIs (.ref a) "tuple" := ⟨_,i,b⟩;have l:=vt;obtain⟨m,p,odi,osl⟩:=o;simp only at b hd hdi;subst b hd hdi;unfold cP.«object.__getattribute__»
  repeat (any_goals (first|assumption|wp_step))
  exact wpAny_raiseAttrError c f (attrMsg_fits (by decide +kernel) (by size_fits))
theorem Bx{prog:aB}{w:aw}{A:aG}{E:aa->af->Prop}{s:af}{a:Addr}{o:Obj}{Q:Option aa->af->Prop}(hA:A.handled=O)(i:s.heap.get? a=Z o)(f:o.cls=.type "tuple")(hd:∃items n,o.data=.seq items n)(hdi:o.dict=O)
  (h:∀h' tk,(∀b ob,s.heap.get? b=Z ob->h'.get? b=Z ob)->Q O { s with heap:=h',toks:=tk }):
  ah (model prog w) A (getAttr? (.ref a) "keys") Q E s:=by
 obtain⟨j,g,d,tk,os⟩:=s;obtain⟨oc,odi,od,osl⟩:=o;simp only at f hdi;subst f hdi;have hT:∀{tk},(⟨j,g,d,tk,os⟩:af).TypeIs (.ref a) "tuple" := ⟨_,i,J⟩;have m:=sub_AttributeError;have p:=lC.lookup;have q:=lC.bind (.ref a);have r:=ke;unfold getAttr? getAttrBy? getAttrBy
 repeat (any_goals (first|assumption|((with_reducible show ah _ _ (call (Value.builtin "tuple.__getattribute__") _ _) _ _ _);refine ia lC hT F.entry_tuple_ga (F.args_tuple_getattribute_2 _ _) (rm a _ _) ⟨hA,i,J,hd,J,λh' l e c=>?_⟩)|wp_step))
 obtain⟨u,x,t⟩:=c.there;show ah _ _ (getattributeRaised _ _ _ _ _ _ _) _ _ _;unfold getattributeRaised
 repeat (any_goals (first|assumption|wp_step))
 exact h _ _ c.keeps
def zg:entryFor table "dict.update.loop" = Z cP.«dict.update.loop»:=qo (by kernel_rfl)
def lq:plainId "dict.update.loop" = γ:=by decide +kernel
section
variable{prog:aB}{w:aw}{K:Type}[DecidableEq K]{knd:KeyKind prog w K}{A:aG}{E:aa->af->Prop}{d:Addr}
def T3{h b:Heap}{c:List K}{a:Addr}(t:ib knd h c a)(e:∀o,h.get? a=Z o->b.get? a=Z o):ib knd b c a:=by obtain⟨o,items,n,f,r⟩:=t;exact⟨o,items,n,e o f,r⟩
def V?{R:fT->af->Prop}{I:Addr}{T l:List Addr}{GG:Array fq->Array fq->Prop}{n:Nat}{PP:Nat->aa->Prop}{SS:Nat->af->Prop}(W:kE prog w A.in1 I T l GG n PP SS)(hu:A.in1.units<cLine)(hSf:d∉T){F:Heap}
  (c:List (List K×Addr×aa)) (hn:c.length=n) (nd:(c.map (·.1)).Nodup) (hsz:n<=aF) (far:∀q∈c,q.2.1∉d::l)
  (hval:∀i v,PP i v->∃b q,c[i]?=Z q/\v=.ref b/\b∉d::l/\eD F b #[.ref q.2.1,q.2.2]/\ib knd F q.1 q.2.1):
  ∀(k i:Nat) (P:Tok) (s:af),n - i=k->i<=n->SS i s->(∀b o,b∉d::l->F.get? b=Z o->s.heap.get? b=Z o)->s.heap.DictOfH (tupleKind knd) d (c.take i)->
   (∀a,jk (d::l) GG s a->a.heap.DictOfH (tupleKind knd) d c->R (.ok (.ret .none)) a)->
   cz (model prog w) A (.builtin "dict.update.loop" ⟨[.ref d,.ref I,.int i P,.none],[]⟩) R s:=by
 have hSw:=λz=>hSf ((W).sub _ z);have up:∀b∈l,b∈d::l:=λb z=>bc _ z;have keep:∀{s a:af} {i},jk l GG s a->s.heap.DictOfH (tupleKind knd) d (c.take i)->a.heap.DictOfH (tupleKind knd) d (c.take i):=λ{s a i} f ⟨o,es,ep,h1,h2,h3,h4,h5,h6⟩=>⟨o,es,ep,f.heap d _ hSw h1,h2,h3,h4,λx Y=>T3 (h5 x Y) λo e=>f.heap _ o (λz=>far x (gR Y) (up _ z)) e,h6⟩
 intro k
 induction k with
 |zero=>
  intro i P s hk hi hst X x hR;obtain rfl:i=n:=by omega
  refine dw zg ?_;rw[dE lq _];refine ae (W.done s _ _ hst λa f=>?_);exact ae (aq (aq (hR a (f.mono up) (by have:=keep f x;rw[gO (by omega)]at this;exact this))))
 |succ k ih=>
  intro i P s hk hi hst X x hR;have hlt:i<n:=by omega
  refine dw zg ?_;rw[dE lq _];refine ae (W.item i s _ _ hlt hst λv a hP hst' f=>?_);obtain⟨b,q,C,rfl,nb,tb,tq⟩:=hval i v hP;have r:=λb o m e=>f.heap b o (λz=>m (up b z)) (X b o m e);have nq:=far q (bL C);obtain⟨o,e1,B,n1,e3⟩:=tb;have t:=r b o nb e1;have S:=T3 tq λo e=>r _ o nq e;have x':=keep f x;have pit:∀{Q:List aa->af->Prop} {E:aa->af->Prop},Q [.ref q.2.1,q.2.2] a->ah (model prog w) A.in1 (tZ (.ref b)) Q E a:=λ{Q E} h=>by refine ae (hG ⟨o,t,B⟩ ?_);simp only[Bool.or_true,beq_self_eq_true,if_true];refine ae (dJ t e3 (aq ?_));exact h
  refine ae (bK (ae ?_));refine wpAny_tryCatch (pit ?_);have ψ:atKey (c.take i) q.1=O:=by
   refine atKey_none_of_get λj p G=>?_;have H:=bX.1 G;obtain⟨M,hj3⟩:=H;rw[bZ]at M;have B:=by rw[List.getElem?_take,aj (by omega)]at G;exact G
   have:=idxH_unique nd B (show c[i]?=Z (q.1,q.2) from C);omega
  have sp:c.take (i+1)=storedH (c.take i) q.1 q.2.1 q.2.2:=by rw[storedH_new ψ,iP,C];rfl
  refine bK (wpAny_dictSet_heap hu S x' λU y sb=>?_);have fr:∀b o,b≠d->a.heap.get? b=Z o->U.get? b=Z o:=λb o m e=>by rw[sb.2 b m];exact e
  refine aq ⟨eX lq _,ih (i+1) 0 _ (by omega) hlt (W.frame _ a U _ hst' (dW _ _) λb z o e=>fr b o (λy=>hSf (by rw[<-y];exact z)) e) (λb o m e=>fr b o (λz=>m (by rw[z];exact ba)) (r b o m e)) (by rw[sp];exact y) λN u x2=>?_⟩;refine hR N (jc W.gtrans ((f.mono up).then_heap (dW _ _) λb o z e=>fr b o (λy=>z (by rw[y];exact ba)) e) u) x2
end
section
variable{prog:aB}{w:aw}{K:Type}[DecidableEq K]{knd:KeyKind prog w K}{A:aG}{E:aa->af->Prop}{s:af}
theorem U?{c:Addr}{o:Obj}{a:List aa}{n:Nat}{Q:aa->af->Prop}(d:s.heap.get? c=Z o)(j:o.cls=.type "tuple")(hd:o.data=.seq a.toArray n)(hdi:o.dict=O)(y:A.handled=O)(Y:A.units+8<cLine)
  (ps:List (List K×Addr×aa)) (hn:ps.length=a.length) (nd:(ps.map (·.1)).Nodup) (m:ps.length<=aF)
  (hval:∀(i:Nat) v,a[i]?=Z v->∃b q,ps[i]?=Z q/\v=.ref b/\eD s.heap b #[.ref q.2.1,q.2.2]/\ib knd s.heap q.1 q.2.1)
  (h:∀h' tk,h'.DictOfH (tupleKind knd) s.heap.objs.size ps->(∀b o,s.heap.get? b=Z o->h'.get? b=Z o)->Q (.ref s.heap.objs.size) { s with heap:=h',toks:=tk }):
  ah (model prog w) A (call (.type "dict") [.ref c]) Q E s:=by
 let h1:=s.heap.push { cls:=.type "dict", data:=.dict #[] };have k1:∀b o,s.heap.get? b=Z o->h1.get? b=Z o:=λb o e=>aA _ e;refine callType_codes (Q₁:=λv t=>v=.ref s.heap.objs.size/\t={ s with heap:=h1 }) F.kt_called_dict (F.kt_typeCall_dict_1 _) F.entry_dict_init (kt_code_dict_new _ ⟨J,J⟩) λv t U=>?_;obtain⟨rfl,rfl⟩:=U;have hT:({ s with heap:=h1 }:af).TypeIs (.ref s.heap.objs.size) "dict" := ⟨_,aX _ J,J⟩;have hTx:({ s with heap:=h1 }:af).TypeIs (.ref c) "tuple" := ⟨_,k1 _ _ d,j⟩;refine⟨hT,F.args_dict_init_2 _ _,?_⟩;refine ae (ae (wpAny_notOrdered_dict hT (aq ?_)));refine ae (hG hTx ?_);rw[aj (by decide)];refine ae (Bx (by simp[y]) (k1 _ _ d) j ⟨_,_,hd⟩ hdi λh2 t2 k2=>?_);simp only[Option.isNone_none,if_true];refine ae (eA ?_);have hox:=k2 _ _ (k1 _ _ d);let itO:Obj:={ cls:=.type "tuple_iterator", data:=.fields #[.ref c,.int 0 0] };have sz:=aL (k2 _ _ (aX s.heap J));refine ae (jM ⟨o,hox,j,n,hd⟩ ?_);have p:∀b o,s.heap.get? b=Z o->(h2.push itO).get? b=Z o:=λb o e=>aA _ (k2 _ _ (k1 _ _ e));have hne:=aT (aL hox);have W:=(rT (prog:=prog) (w:=w) (A:=A.in1.in1) (by simp[y]) h2.objs.size c hne a.toArray).toS;have lt:∀{b o},s.heap.get? b=Z o->b∉s.heap.objs.size::[h2.objs.size]:=λ{b o} e z=>by
  have:=aL e;rcases aM.1 z with z|z
  .exact ar z (aT this)
  .exact ar (bj.1 z) (aT (rA this sz))
 refine aq ⟨eX lq _,?_⟩;refine V? (knd:=knd) W ?_ ?_ ps (by rw[bb];exact hn) nd (by rw[bb,<- hn];exact m) ?_ ?_ (a.toArray.size - 0) 0 0 _ J (cp _) ?_ (λb o r e=>p b o e) ?_ λS mv x=>?_
 .show A.units+1+1<cLine;omega
 .intro z;rcases aM.1 z with z|z
  .exact ar z (aT sz)
  .exact ar (bj.1 z) (dM (aL d))
 .intro q N;obtain⟨i,hi⟩:=List.mem_iff_getElem?.1 N;have M:i<a.length:=by rw[<-hn];exact(bX.1 hi).1
  obtain⟨b,q',f,_,_,_,_,_,l,_⟩:=hval i _ (bh M);rw[hi]at f;cases f;exact lt l
 .intro i v e;rw[iB]at e;obtain⟨b,q,f,l,⟨R,u,B⟩,C⟩:=hval i v e;exact⟨b,q,f,l,lt u,⟨R,u,B⟩,C⟩
 .exact⟨⟨_,aX _ J,J,J⟩,⟨o,p _ _ d,j,n,hd⟩⟩
 .rw[List.take_zero];refine⟨_,#[],0,aA _ (k2 _ _ (aX s.heap J)),⟨J,J,J⟩,J,J,?_,j8⟩;intro x P;cases P
 .obtain⟨h3,g3,X,T,o3⟩:=S;have H:=mv.gens;have G:=mv.drawn;have I:=mv.os;subst H G I;exact⟨J,h h3 T x λb o e=>mv.heap b o (lt e) (p b o e)⟩
end
def kN(K:av):Bool:=K.all λp=>p.2.dict.isNone
def tHs(X:Cx):List dr->Int:=tupleKeyHash (vv X.prog X.w)
section
variable{X:Cx}{pins:cE}{σ:St}{H:Hp}{s:af}
set_option tactic.hygienic true
def M?(I:cb X pins σ H s)(i:kN X.K=γ){a:Addr}{d:bA}(h:e? X.K H a d):∀o,s.heap.get? a=Z o->o.dict=O:=by
 rcases h with (h|⟨j,h⟩)|⟨o,p,n,c,_⟩
 .obtain⟨_,_,_,_,f⟩:=(show ef X.prog X.w H s.heap a (.c4 d) from I.er a _ h);exact f
 .obtain⟨_,_,_,_,_,f⟩:=(show ef X.prog X.w H s.heap a (.lb j (.c4 d)) from I.er a _ h);exact f
 .intro r e;rw[I.kx a o c]at e;cases e;have l:(a,o)∈X.K:=by
   clear i;generalize X.K=K at c
   induction K with
   |nil=>cases c
   |cons q K m=>
    obtain⟨b,j⟩:=q;rw[eV]at c;split at c
    .rename_i e;cases c;rw[fR e];exact ba
    .exact bc _ (m c)
  have:=aQ.1 i _ l;exact Option.isNone_iff_eq_none.1 this
set_option tactic.hygienic false
abbrev Pr:=Addr×List dr×Addr×V
def PrOk(K:av)(H:Hp)(z:Pr):Prop:=e? K H z.1 [.ref z.2.2.1,z.2.2.2]/\e? K H z.2.2.1 (z.2.1.map kV)
theorem prs_of(I:cb X pins σ H s):∀{prs:List Pr} {a:List aa},(∀z∈prs,PrOk X.K H z)->de (prs.map λz=>V.ref z.1) a->∃c:List (List dr×Addr×aa),c.length=a.length/\(c.map λq=>(q.1,q.2.1))=prs.map (λz=>(z.2.1,z.2.2.1))/\de (prs.map λz=>z.2.2.2) (c.map λq=>q.2.2)/\
  ∀(i:Nat) v,a[i]?=Z v->∃b q,c[i]?=Z q/\v=.ref b/\eD s.heap b #[.ref q.2.1,q.2.2]/\ib (vv X.prog X.w) s.heap q.1 q.2.1
 |[],a,_,h=>by cases h;exact⟨[],J,J,.nil,λi v e=>by cases e⟩
 |z::prs,a,ok,h=>by
  rw[aI]at h;obtain⟨u,r,rfl,E,C⟩:∃u r,a=u::r/\dg (.ref z.1) u/\de (prs.map λz=>V.ref z.1) r:=by cases h;exact⟨_,_,J,‹_›,‹_›⟩
  cases E;obtain⟨j,l⟩:=ok z ba;obtain⟨d,B,p2,_⟩:=I.tuple j;obtain⟨G,F,rfl,x,A⟩:=za B;cases x;obtain⟨c,m,o,p,t⟩:=prs_of I (λy f=>ok y (bc _ f)) C;refine⟨(z.2.1,z.2.2.1,F)::c,by rw[aN,aN,m],by rw[aI,aI,o],by rw[aI,aI];exact .cons A p,λi v e=>?_⟩;cases i with
  |zero=>cases e;exact⟨z.1,_,J,J,p2,Ql I l⟩
  |succ i=>exact t i v e
inductive IrDP(X:Cx) (xs:bA) (H:Hp) (Q:VK):Prop
 |i (a:Addr) (prs:List Pr) (h0:xs=[.ref a]) (h1:e? X.K H a (prs.map λz=>V.ref z.1)) (h2:(∀z∈prs,PrOk X.K H z)) (h3:(prs.map λz=>z.2.1).Nodup) (h4:prs.length<=1000) (h5:∀p o qs,H p=O->(p==cU)=δ->DtE (tHs X) o qs->(qs.map λq=>(q.1,q.2.1))=prs.map (λz=>(z.2.1,z.2.2.1))->de (prs.map λz=>z.2.2.2) (qs.map λq=>q.2.2)->Q (.ref p) (eg H p (.ext (isO p o)))):IrDP X xs H Q
def rDP(X:Cx):bA->Hp->VK->Prop:=λa H Q=>IrDP X a H Q
def ext_ok{P:aB}{w:aw}{H:Hp}{h:Heap}{a:Addr}{o:Obj}(e:h.get? a=Z o):ef P w H h a (.ext (isO a o)):=⟨e,⟨o,e⟩,λy y f k=>k _ f⟩
def L?(S:kN X.K=γ)(hu:X.A.units+64<cLine)(M:X.j0=γ):wM X (.type "dict") (rDP X):=by
 intro pins s σ H xs us Q I r h;obtain⟨a,prs,rfl,j,ok,nd,N,q⟩:=h;obtain⟨u,rfl,ru⟩:=gk r;cases ru;obtain⟨R,rv,⟨o,i,B,n,C⟩,hz⟩:=I.tuple j;obtain⟨f,U,c,W,Y⟩:=prs_of I ok rv;have l:=by have:=bw cK c;rw[ag,ag]at this;exact this
 have E:f.map (·.1)=prs.map λz=>z.2.1:=by have:=bw (cG cF) c;rw[aW,aW]at this;exact this
 refine U? i B C (M? I S j o i) (I.ok.hd M) (by omega) f U (by rw[E];exact nd) (by rw[l,bO];omega) Y λh' tk d T=>?_;obtain⟨o',G,F,m,p,t,x,d5,y⟩:=d;have P:=I.er.fresh (aJ _);refine⟨.ref s.heap.objs.size,_,I.laid (λb w e=>T b w e) (aJ _) (ext_ok m),J,q _ o' f P (beq_eq_false_iff_ne.2 (dM I.big)) ⟨p,⟨G,F,t,x⟩,y,by rw[l];exact N⟩ c W⟩
def dt_of{o:Obj}{a:Addr}{c:List (List dr×Addr×aa)}(I:cb X pins σ H s)(i:H a=Z (.ext (isO a o)))(b:DtE (tHs X) o c)(j:∀q∈c,e? X.K H q.2.1 (q.1.map kV)):s.heap.DictOfH (tupleKind (vv X.prog X.w)) a c:=by obtain⟨h,f,d,e⟩:=b.da;exact⟨o,h,f,(show ef X.prog X.w H s.heap a (.ext (isO a o)) from I.er a _ i).1,b.ex,d,e,λq l=>Ql I (j q l),b.nd⟩
end
def i?{a:Type}:List (List dr)->List a->List dr->Option a
 |j::b,x::c,k=>if j=k then Z x else i? b c k
 |_,_,_=>O
theorem S'(k:List dr):∀{a:List (List dr×Addr×aa)} {b:bA},de b (a.map λq=>q.2.2)->match i? (a.map (·.1)) b k with|some v=>∃c u,atKey a k=Z (c,u)/\dg v u|none=>atKey a k=O
 |[],b,h=>by cases h;rfl
 |q::a,b,h=>by
  obtain⟨v,r,rfl,i,f⟩:∃v r,b=v::r/\dg v q.2.2/\de r (a.map λq=>q.2.2):=by cases h;exact⟨_,_,J,‹_›,‹_›⟩
  have d:=S' k f;rw[aI];unfold i?;by_cases e:q.1=k
  .rw[aj e];exact⟨q.2.1,q.2.2,by unfold atKey;rw[dY,bg e];rfl,i⟩
  .rw[ak e];have:atKey (q::a) k=atKey a k:=by unfold atKey;rw[dY,bq e]
   rw[this];exact d
section
variable{G:Bg}{H:Hp}
theorem E'(k:List dr):∀{ks:List (List dr)} {b:aY} {a:bA},b? G H b a->match i? ks b k with|some d=>∃v,i? ks a k=Z v/\df G H d v|none=>i? ks a k=O
 |[],b,a,_=>by unfold i?;rfl
 |j::ks,[],a,h=>by unfold b? at h;subst h;unfold i?;rfl
 |j::ks,d::b,a,h=>by
  obtain⟨v,r,rfl,c,f⟩:=h;unfold i?;by_cases e:j=k
  .rw[aj e,aj e];exact⟨v,J,c⟩
  .rw[ak e,ak e];exact E' k f
def pairT:D->Option (List dr×D)
 |.c4 [.c4 a,v]=>(Eg a).map λk=>(k,v)
 |_=>O
def l?:aY->Option (List (List dr)×aY)
 |[]=>Z ([],[])
 |d::a=>match pairT d,l? a with
  |some (k,v),Z (b,c)=>Z (k::b,v::c)
  |_,_=>O
def reps2{d b:D}{c:bA}(h:b? G H [d,b] c):∃v a,c=[v,a]/\df G H d v/\df G H b a:=by obtain⟨v,r,rfl,e,f⟩:=h;obtain⟨a,l,rfl,i,j⟩:=f;subst j;exact⟨v,a,J,e,i⟩
set_option tactic.hygienic true
theorem z0:∀{m:aY} {l:bA} {i:List (List dr)} {j:aY},b? G H m l->l? m=Z (i,j)->∃prs:List Pr,l=prs.map (λz=>V.ref z.1)/\(∀z∈prs,PrOk G.K H z)/\prs.map (λz=>z.2.1)=i/\b? G H j (prs.map λz=>z.2.2.2)
 |[],l,i,j,h,e=>by subst h;cases e;exact⟨[],J,λz a=>(by cases a),J,by unfold b?;rfl⟩
 |d::m,l,i,j,h,e=>by
  obtain⟨v,r,rfl,x,y⟩:=h;unfold l? at e;split at e
  .rename_i k w A N f q;cases e;obtain⟨prs,B,p2,p3,C⟩:=z0 y q;unfold pairT at f;split at f
   .rename_i Q R;obtain⟨P,u,t⟩:=f7.1 f;cases t;obtain⟨b,T,rfl,E,F⟩:=x;obtain⟨S,p,rfl,q3,I⟩:=reps2 F;obtain⟨c,U,rfl,o,M⟩:=q3;rw[DV M u]at o;refine⟨(b,k,c,p)::prs,by rw[B];rfl,λz a=>?_,by rw[aI,p3],by rw[aI];unfold b?;exact⟨p,_,J,I,C⟩⟩;rcases aM.1 a with rfl|a
    .exact⟨E,o⟩
    .exact p2 z a
   .cases f
  .cases e
set_option tactic.hygienic false
def x?(f:FE):FE:=λe=>match f e with
 |some (.c4 b,a)=>match l? b with
  |some (c,d)=>if c.Nodup/\b.length<=1000 then Z (.tH c d,a)else O
  |none=>O
 |_=>O
end
section
variable{X:Cx}{G:Bg}
set_option tactic.hygienic true
def pf_dictP{e:Expr}{f:FE}(hK:X.K=G.K)(T:tHs X=G.hs)(h:PE X e (Z' (rDP X) (o? G (ax f vA)))):PE X e (tF G (x? f)):=PE.dd h λσ H Q N=>by
 obtain⟨F,ρ,x,d,ρ',R,e,k⟩:=N;unfold x? at e;split at e
 .rename_i B ρ1 C;split at e
  .rename_i ks vs E;split at e
   .rename_i M;cases e;refine⟨F,ρ,x,[.c4 B],_,R,by unfold ax;rw[C];rfl,λws y i s j rs=>?_⟩;obtain⟨v,r0,rfl,rv,rn⟩:=rs;subst rn;obtain⟨a,xs,rfl,q1,u⟩:=rv;have W:=uW u;obtain⟨prs,rfl,p2,p3,Y⟩:=z0 u E;rw[ag]at W;have up:∀{b w},e? G.K y b w->e? X.K i b w:=λh=>by rw[hK];exact e?.mono j.sub h
    refine⟨a,prs,J,up q1,λz c=>⟨up (p2 z c).1,up (p2 z c).2⟩,by rw[p3];exact M.1,by omega,λp o qs r P A t U=>?_⟩;have m:=vm (j.e4 r) (.ext (isO p o));refine k _ _ _ (s.t m) (j.yr r _) ?_;refine⟨p,_,J,⟨o,qs,uZ,P,T▸A,?_,λq S=>?_,U⟩,b?.mono m _ _ Y⟩
    .have:=bw (cG cF) t;rw[aW,aW]at this;exact this.t p3
    .have l:(q.1,q.2.1)∈prs.map λz=>(z.2.1,z.2.2.1):=by rw[<-t];exact bQ S
     obtain⟨z,c,I⟩:=au.1 l;injection I with z1 z2;rw[<-z1,<- z2];exact e?.mono m (p2 z c).2
   .cases e
  .cases e
 .cases e
set_option tactic.hygienic false
def EtD(X:Cx)(H:Hp)(a:Addr)(b:List (List dr×Addr×aa)):Prop:=∃o,H a=Z (.ext (isO a o))/\(a==cU)=δ/\DtE (tHs X) o b/\∀q∈b,e? X.K H q.2.1 (q.1.map kV)
def etD_of{c H:Hp}{a:Addr}{ks:List (List dr)}{d:bA}(hK:X.K=G.K)(t:tHs X=G.hs)(e:ve c H)(h:DtO G c a ks d):∃b,EtD X H a b/\b.map (·.1)=ks/\de d (b.map λq=>q.2.2):=by obtain⟨o,b,f,i,j,l,m,p⟩:=h;exact⟨b,⟨o,e _ _ f,i,t▸j,λq r=>by rw[hK];exact e?.mono e (m q r)⟩,l,p⟩
inductive IrIxE(X:Cx) (x:V) (y:V) (H:Hp) (Q:VK):Prop
 |i (a b qs k xs v) (h0:x=.ref a) (h1:y=.ref b) (h2:EtD X H a qs) (h3:e? X.K H b (k.map kV)) (h4:de xs (qs.map λq=>q.2.2)) (h5:i? (qs.map (·.1)) xs k=Z v) (h6:Q v H):IrIxE X x y H Q
def rIxE(X:Cx):R2:=λx y H Q=>IrIxE X x y H Q
def pe_ixE{o i:Expr}{z ty:TE}{pos:Pos}(hu:X.A.units+64<cLine)(S:PE X o z)(R:PE X i ty)(T:Ti i):PE X (.Subscript o i pos) (tOp (rIxE X) z ty):=by intro d s B H Q I h;refine P1 pd.lookup T (e0 (S d s B H _ I h) λu s1 ⟨x,C,E,Y,U⟩=>e0 (R d s1 B C _ E U) λiv s2 zz=>?_);obtain⟨y,j,f,ry,W⟩:=zz;obtain⟨a,b,qs,k,xs,w,rfl,rfl,⟨t,p,hm,m,F⟩,M,N,P,q⟩:=W;cases Y;cases ry;have l:=S' k N;rw[P]at l;obtain⟨c,u,e,r⟩:=l;refine⟨⟨t,(show ef X.prog X.w j s2.heap a (.ext (isO a t)) from f.er a _ p).1,m.ex.1⟩,pA ?_ (Ql f M) (dt_of f p m F) e ⟨w,j,f.pa _,r,q⟩⟩;show X.A.units+1<cLine;omega
def ts:D->D->Option D:=λx y=>match x,y with
 |.tH c a,.c4 b=>match Eg b with
  |some k=>i? c a k
  |none=>O
 |_,_=>O
set_option tactic.hygienic true
def od_getT(hK:X.K=G.K)(o:tHs X=G.hs):g? G (rIxE X) ts:=λx y z I H v u Q e s C E k=>by
 unfold ts at e;split at e
 .rename_i c M N;split at e
  .rename_i j m;obtain⟨a,F,rfl,d,r⟩:=C;obtain⟨b,P,rfl,t,B⟩:=E;rw[DV B m]at t;obtain⟨A,f,h,i⟩:=etD_of hK o s d;have l:=E' j (ks:=c) r;rw[e]at l;obtain⟨w,p,q⟩:=l;exact⟨a,b,A,j,F,w,J,J,f,by rw[hK];exact e?.mono s t,i,by rw[h];exact p,k w λ_ e=>df.mono e _ _ q⟩
  .cases e
 .cases e
set_option tactic.hygienic false
def pf_getT{a b:Expr}{f c:FE}{pos:Pos}(j:X.A.units+64<cLine)(hK:X.K=G.K)(i:tHs X=G.hs)(d:PE X a (tF G f))(e:PE X b (tF G c))(h:Ti b):PE X (.Subscript a b pos) (tF G (c2 ts f c)):=PE.dd (pe_ixE j d e h) (M8 (od_getT hK i))
end
class Hz(B:Bz):Prop where
 h:B.G.hs=tupleKeyHash (vv B.P B.w)
 k:kN B.G.K=γ
section
variable{X:Cx}{B:Bz}{k i j:Nat}{x y:Str}{e e':Expr}{es:List Expr}{p p2 p3 p4 p5 p6 p7 pos apos:Pos}{f f' f2:FE}{g:FS}
def hz_s [C:Cz X B k][AT:Hz B]:tHs X=B.G.hs:=by unfold tHs;rw[C.P,C.w];exact AT.h.symm
def hz_k [C:Cz X B k][AT:Hz B]:kN X.K=γ:=by rw[C.K];exact AT.k
def pe_dP [C:Cz X B k][N:Nb B "dict"][AT:Hz B]{t:TA}(b:Gz X "dict")(d:S1 X e)(a:PA X [e] t):PE X (.Call (.Name "dict" p) [e] [] pos) (Z' (rDP X) t):=ctI b (by decide) d (L? hz_k C.r.units C.c) Pv.boot_dict a
def zr_dP [C:Cz X B k][N:Nb B "dict"][AT:Hz B](c:Gz X "dict")(a:S1 X e)(b:ZE X B e f):ZE X B (.Call (.Name "dict" p) [e] [] pos) (x? f):=⟨pf_dictP C.K hz_s (pe_dP c a (wI b.p xO a))⟩
def zr_gT [C:Cz X B k][AT:Hz B](a:ZE X B e f)(b:ZE X B e' f')(c:Iz e'):ZE X B (.Subscript e e' pos) (c2 ts f f'):=⟨pf_getT C.r.units C.K hz_s a.p b.p λo i=>congrFun (congrFun c o) i⟩
end
section
variable{X:Cx}{G:Bg}
inductive IrLenT(X:Cx) (xs:bA) (H:Hp) (Q:VK):Prop
 |i (a qs) (h0:xs=[.ref a]) (h1:EtD X H a qs) (h2:Q (.int qs.length) H):IrLenT X xs H Q
def rLenT(X:Cx):bA->Hp->VK->Prop:=λa H Q=>IrLenT X a H Q
theorem ζ:wM X (.builtin "len") (rLenT X):=by
 intro f s C H B A Q I r h;obtain⟨a,b,rfl,⟨o,i,l,c,x⟩,q⟩:=h;obtain⟨u,rfl,p⟩:=gk r;cases p;have e:=(show ef X.prog X.w H s.heap a (.ext (isO a o)) from I.er a _ i).1;have ty:s.TypeIs (.ref a) "dict" := ⟨o,e,c.ex.1⟩;have y:=c.sz;obtain⟨d,t,hd,j⟩:=c.da;have z:d.size=b.length:=by have:=bw cK j;rw[ag,bJ]at this;exact this
 refine ly kind_len plain_len entry_len (args_len1 _) ?_;unfold cP.«len»;refine ae (m:=oneArg "len" _) (aq ?_);refine ae (m:=callSpecial? (.ref a) (i6 "__len__")) (f6 (name:=i6 "__len__") ty qH (dt qH ty F.entry_dict_len ?_ (F.args_dict_len_1 _)));show ah _ _ (dictSize a>>=_) _ _ s;unfold dictSize;refine ae (ae (wpAny_dictEntries e hd (aq ?_)));show ah _ _ (tG a>>=_) _ _ s;refine ae (wpAny_pendingCount_other l ?_);refine qF ?_;rw[show ((d.size:Nat):Int)+((0:Nat):Int)=((b.length:Nat):Int) by omega];refine ae (bK (aq ?_));refine ae (nG ?_);show ah _ _ (if ((b.length:Nat):Int)<0 then _ else _) _ _ _;rw[ak (by omega)];show ah _ _ (if ((b.length:Nat):Int) >= 2 ^ 63 then _ else _) _ _ _;rw[ak (by omega)];exact ae (wpAny_mkInt (aq ⟨_,J,.int b.length,H,(I.pa _).pa _,⟨_,J⟩,q⟩))
def dLenT:D->Option D
 |.tH a b=>Z (.int a.length)
 |_=>O
def cd_lenT(hK:X.K=G.K)(f:tHs X=G.hs):He G (rLenT X) dLenT:=λx z i H v Q e s b k=>by
 cases x with
 |tH m l=>cases e;unfold df at b;obtain⟨a,o,rfl,d,r⟩:=b;obtain⟨h,c,rfl,j⟩:=etD_of hK f s d;refine⟨a,h,J,c,?_⟩;rw[ag]at k;exact k _ λy y=>xa _
 |_=>cases e
end
section
variable{X:Cx}{B:Bz}{k:Nat}{e:Expr}{p pos:Pos}{f:FE}
def zr_lT [C:Cz X B k][N:Nb B "len"][AT:Hz B](c:Gz X "len")(a:S1 X e)(b:ZE X B e f):ZE X B (.Call (.Name "len" p) [e] [] pos) (c1 dLenT f):=⟨Qc (cd_lenT C.K hz_s) (cbI c (by decide) a ζ mQ (wI b.p xO a))⟩
end
end L4
namespace K39x
open PySem L2 L3 L4
abbrev D:=L4.D
def top(i:Nat):Stmt:=PySem.Challenge.pw_tellworld_k39_whole_a_tree.main.body.getD i (.Pass ⟨0,0,0,0⟩)
def BE:Nat->Bool:=λc=>c==14
def BF:Nat->Bool:=λc=>c==13
def zO:Nat->Bool:=λc=>c==2
def GK:Nat->Bool:=λc=>c==9
def x4:Nat->Bool:=λc=>c==2
def Ei:Nat->Bool:=λc=>c==14
def Aw:Nat->Bool:=λc=>c==14
def w5:Nat->Bool:=λc=>c==14
def Dp:Nat->Bool:=λc=>c==14
def Bj:Nat->Bool:=λc=>c==14
def vG:Nat->Bool:=λc=>c==0||c==7
def yT:Nat->Bool:=λc=>c==1
def AY:Nat->Bool:=λc=>c==14
def vg:Nat->Bool:=λc=>c==0||c==1||c==2
def Mm:Nat->Bool:=λc=>c==10
def GL:Nat->Bool:=λc=>c==10
def x6:Nat->Bool:=λc=>c==2
def DX:Nat->Bool:=λc=>c==3||c==11
def zP:Nat->Bool:=λc=>c==13
def yU:Nat->Bool:=λc=>c==14
def BG:Nat->Bool:=λc=>c==14
def BH:Nat->Bool:=λc=>c==14
def wF:Nat->Bool:=λc=>c==0||c==1
def BI:Nat->Bool:=λc=>c==3||c==4||c==5||c==6||c==7||c==11||c==12
def DY:Nat->Bool:=λc=>c==13
def Fw:Nat->Bool:=λc=>c==13
def Ax:Nat->Bool:=λc=>c==14
def DZ:Nat->Bool:=λc=>c==6||c==12
def yV:Nat->Bool:=λc=>c==13
def AZ:Nat->Bool:=λc=>c==14
def JD:Nat->Bool:=λc=>c==8
def xK:Nat->Bool:=λc=>c==0
def Bk:Nat->Bool:=λc=>c==14
abbrev t_At:Ty->Option Bool:=yR 16 3
abbrev Pd:Ty->Option Bool:=yR 16 10
abbrev Y0:Ty->Option Bool:=yR 16 4
abbrev U3:Ty->Option Bool:=yR 16 7
abbrev Y1:Ty->Option Bool:=yR 16 15
abbrev U4:Ty->Option Bool:=yR 16 1
abbrev NQ:Ty->Option Bool:=yR 16 6
abbrev U5:Ty->Option Bool:=yR 16 11
abbrev U6:Ty->Option Bool:=yR 16 9
abbrev Y2:Ty->Option Bool:=yR 16 12
abbrev U7:Ty->Option Bool:=yR 16 13
abbrev U8:Ty->Option Bool:=yR 16 5
abbrev QA:Ty->Option Bool:=yR 16 0
abbrev U9:Ty->Option Bool:=yR 16 2
abbrev Va:Ty->Option Bool:=yR 16 8
def Dr:L4.D:=(D.int 8)
def Dt:L4.D:=(D.int 12)
def JE:L4.D:=(D.c4 [(D.str "it"),(D.str "other"),(D.str "here"),(D.str "the"),(D.str "a"),(D.str "undo"),(D.str "restart")])
def JF:L4.D:=(D.c4 [(D.str "the"),(D.str "a")])
def CD:L4.D:=(D.str "Nothing comes of it.")
def Ht:L4.D:=(D.str "That cannot be.")
def D1:L4.D:=(D.c4 [(D.str "room"),(D.str "plain"),(D.str "fixed"),(D.str "box"),(D.str "lamp"),(D.str "you")])
def QB:L4.D:=(D.c4 [(D.str "alone"),(D.str "one"),(D.str "two"),(D.str "way")])
def A0:L4.D:=(D.c4 [(D.str "room"),(D.str "box"),(D.str "you")])
def A1:L4.D:=(D.c4 [(D.str "box"),(D.str "lamp")])
def Ej:L4.D:=(D.c4 [(D.str "room"),(D.str "you")])
def Fy:L4.D:=(D.int 5)
def FB:L4.D:=(D.int 4)
def Hu:L4.D:=(D.int 4)
def FC:L4.D:=(D.int 60)
def A2:L4.D:=(D.int 3)
def FD:L4.D:=(D.int 5)
def Ek:L4.D:=(D.int 7)
def B9:L4.D:=(D.int 4)
def Du:L4.D:=(D.int 3)
def Hv:L4.D:=(D.int 10)
def FH:L4.D:=(D.int 6)
def FI:L4.D:=(D.int 4)
def Ay:L4.D:=(D.c4 [(D.str "the"),(D.str "a"),(D.str "undo"),(D.str "restart")])
def FJ:L4.D:=(D.int 20)
abbrev ab:=(cV 0)
abbrev ai:=(cV 1)
abbrev aR:=(cC (.int 1))
def AA:FS:=(uU (v3 (c1 (vZ (wC "str")) ab) (v3 (xW zj zj aR (c1 xM ab) ai) (c1 zM (cL (u7 1 [] (iS ab) (gN 0) vX (xW T2 T2 (cS "a") ab (cS "z"))))))))
def yB:=eb 2 2 AA
def La:FS:=(uU (v3 (uQ yB (ax ab (a1 (cC Dr)))) (c2 (mn γ) ab (cC JE))))
def yb:=eb 1 1 La
def Lb:FS:=(uU (v3 (uQ yB (ax ab (a1 (cC Dt)))) (c2 (mn γ) ab (cC JF))))
def yc:=eb 1 1 Lb
def Hw:FS:=(uU (v3 (c1 (vZ (wC "str")) ab) (c2 (mn δ) ab ai)))
def vS:=eb 2 2 Hw
def JG:FS:=(uU (v3 (c1 (vZ (wC "int")) ab) (Gu (c1 (vZ (wC "bool")) ab))))
def zu:=eb 1 1 JG
def CG:FS:=(uU (v3 (c1 (vZ (wC "list")) ab) (c2 zj (c1 xM ab) ai)))
def v7:=eb 2 2 CG
def JH:FS:=(uU (rr (cT (c1 (vZ (wC "list")) ab)) (cL (AW ab)) ab))
def EH:=eb 1 1 JH
abbrev ao:=(cV 2)
abbrev ay:=(cV 3)
abbrev aH:=(cV 4)
def Ca:FS:=(bt (vV 0 0 "name" ai)
 (bt (vV 0 0 "words" ao)
 (bt (vV 0 0 "kind" ay)
 (vV 0 0 "start" aH))))
def yW:=ro 0 4 5 Ca
def Hy:FS:=(bt (vV 1 0 "name" ai)
 (bt (vV 1 0 "start" ao)
 (vV 1 0 "most" ay)))
def HA:=ro 1 3 4 Hy
abbrev aK:=(cC D.J)
def Dy:FS:=(bt (vV 2 0 "name" ai)
 (bt (vV 2 0 "others" (rr (cT (c2 zk ao aK)) (vI vA) ao))
 (bt (vV 2 0 "form" ay)
 (vV 2 0 "joining" aH))))
def wc:=ro 2 4 5 Dy
def Lc:FS:=(bt (vV 3 0 "term" ai)
 (vV 3 0 "place" ao))
def D2:=ro 3 2 3 Lc
def JI:FS:=(vV 4 0 "term" ai)
def Cb:=ro 4 1 2 JI
def HB:FS:=(vV 5 0 "term" ai)
def HC:=ro 5 1 2 HB
def El:FS:=(bt (vV 6 0 "term" ai)
 (vV 6 0 "value" ao))
def wN:=ro 6 2 3 El
def HD:FS:=(bt (vV 7 0 "term" ai)
 (vV 7 0 "kind" ao))
def xx:=ro 7 2 3 HD
def HE:FS:=(vV 8 0 "word" ai)
def DA:=ro 8 1 2 HE
def JJ:FS:=(vV 9 0 "inner" ai)
def xD:=ro 9 1 2 JJ
def HF:FS:=(bt (vV 10 0 "one" ai)
 (vV 10 0 "other" ao))
def HG:=ro 10 2 3 HF
def HI:FS:=(bt (vV 11 0 "term" ai)
 (vV 11 0 "place" ao))
def x8:=ro 11 2 3 HI
def JK:FS:=(bt (vV 12 0 "term" ai)
 (vV 12 0 "value" ao))
def zv:=ro 12 2 3 JK
abbrev bR:=(cV 5)
abbrev cj:=(a1 ao)
abbrev eF:=(a1 ay)
def HJ:FS:=(bt (vV 13 0 "verb" ai)
 (bt (vV 13 0 "tests" (uQ EH cj))
 (bt (vV 13 0 "deeds" (uQ EH eF))
 (bt (vV 13 0 "text" aH)
 (vV 13 0 "refuses" bR)))))
def zQ:=ro 13 5 6 HJ
def BJ:FS:=(uU (c2 (mn δ) (c1 (uV vG "kind") ab) (cC A0)))
def BK:=eb 1 1 BJ
def v5:Nat->Option (List D->Option D):=λc=>match c with
 |0=>Z BK
 |_=>O
def BL:FS:=(uU (c2 (mn δ) (c1 (uV vG "kind") ab) (cC A1)))
def BM:=eb 1 1 BL
def xn:Nat->Option (List D->Option D):=λc=>match c with
 |0=>Z BM
 |_=>O
def AB:FS:=(uU (c2 (mn γ) (c1 (uV vG "kind") ab) (cC Ej)))
def AC:=eb 1 1 AB
def wb:Nat->Option (List D->Option D):=λc=>match c with
 |0=>Z AC
 |_=>O
def CH:FS:=(ew (wq (cT ab)) Ud u0)
def u9:=eb 2 2 CH
def JL:FS:=(uU (c1 xM (cL (u7 1 [1] (iL ab) (gN 0) (cT (c2 (en δ) (c1 (uV vG "kind") ab) ai)) ab))))
def Cc:=eb 2 2 JL
def FK:FS:=(wy (u7 1 [] (iL ab) (gN 0) (cT (vh wb "is_plainly" ab vA)) ab))
def yX:=sh 1 1 FK
abbrev aO:=(cC (.int 0))
abbrev bE:=(cC (.U δ))
abbrev su:=(a1 (c1 (uV yT "most") ab))
def GN:FS:=(bt (ew (xk (wq (cT (c1 (vZ U4) ab))) (xk (wq (cT (uQ zu (a1 (c1 (uV wF "start") ab))))) (wq (cT (uQ zu su))))) (uU bE) u0)
 (uU (v3 (xW zj zj aR (c1 (uV yT "most") ab) (cC Du)) (xW zj zj aO (c1 (uV wF "start") ab) (c1 (uV yT "most") ab)))))
def GO:=eb 1 1 GN
abbrev dh:=(cS "room")
abbrev kG:=(a1 (cS "you"))
abbrev bH:=(a1 ab)
abbrev ju:=(a1 dh)
def AD:FS:=(bt (vp 1 (v3 (c1 (vZ (wC "list")) ab) (c1 zM (cL (u7 1 [] (iL ab) (gN 0) vX (c1 (vZ QA) ab))))))
 (bt (vH (uQ u9 (ax ai (a1 (cS "things are a list of things")))))
 (bt (vH (uQ u9 (ax (c1 zM (cL (u7 1 [] (iL ab) (gN 0) vX (uQ vS (ax (c1 (uV vG "kind") ab) (a1 (cC D1))))))) (a1 (cS "a thing is of no kind")))))
 (bt (vH (uQ u9 (ax (xW zj zj aR (uQ Cc (ax ab ju)) (cC FD)) (a1 (cS "a world has 1 to 5 rooms")))))
 (bt (vH (uQ u9 (ax (c2 (en δ) (uQ Cc (ax ab kG)) aR) (a1 (cS "a world has just one you")))))
 (vH (uQ u9 (ax (c2 zj (c1 xM (cL (vN yX bH))) (cC Ek)) (a1 (cS "a world has at most 7 things beside rooms and you"))))))))))
def AE:=eb 1 2 AD
def Bl:FS:=(bt (vp 1 (v3 (uQ v7 (ax ab (a1 (cC B9)))) (c1 zM (cL (u7 1 [] (iL ab) (gN 0) vX (uQ GO bH))))))
 (vH (uQ u9 (ax ai (a1 (cS "marks are a list of at most 4 marks, each from 0 to at most 3"))))))
def Bm:=eb 1 2 Bl
def FL:FS:=(uU (c2 (en δ) (c1 (Fp EG) ab) (c1 xM ab)))
def xE:=eb 1 1 FL
def Bn:FS:=(bt (vp 2 (cL (xB (cL (u7 1 [] (iL ab) (gN 0) vX (c1 (uV vg "name") ab))) (cL (u7 1 [] (iL ai) (gN 0) vX (c1 (uV vg "name") ab))))))
 (bt (vH (uQ u9 (ax (c1 zM (cL (u7 1 [] (iL ao) (gN 0) vX (uQ yb bH)))) (a1 (cS "a name is no name")))))
 (vH (uQ u9 (ax (uQ xE cj) (a1 (cS "two things or marks have one name")))))))
def Bo:=eb 2 3 Bn
def FM:FS:=(wy (xB (cL (u7 1 [] (iL ab) (gN 0) (cT (vh xn "has_mark" ab vA)) (c1 (uV vg "name") ab))) (cL (u7 1 [] (iL ai) (gN 0) vX (c1 (uV vg "name") ab)))))
def yY:=sh 2 2 FM
def EI:FS:=(bt (ew (cT (c2 (en δ) (c1 (uV vG "kind") ai) dh)) (uU (c2 zk (c1 (uV wF "start") ai) aK)) u0)
 (bt (ew (cT (c2 (en δ) (c1 (uV vG "kind") ai) (cS "you"))) (uU (uQ vS (ax (c1 (uV wF "start") ai) (a1 (cL (u7 1 [] (iL ab) (gN 0) (cT (c2 (en δ) (c1 (uV vG "kind") ab) dh)) (c1 (uV vg "name") ab))))))) u0)
 (uU (uQ vS (ax (c1 (uV wF "start") ai) (a1 (cL (u7 1 [] (iL ab) (gN 0) (cT (vh v5 "can_hold" ab vA)) (c1 (uV vg "name") ab)))))))))
def EJ:=eb 2 2 EI
abbrev cI:=(cC (.U γ))
def yZ:FS:=(bt (vp 2 (c2 Ef ab ai))
 (bt (x9 (K' (c1 xM ab)) (gN 3) (bt (ew (cT (c2 zk ao aK)) (uU cI) u0)
 (vp 2 (c2 Ef ab ao))))
 (uU (c2 zk ao aK))))
def xF:=eb 2 4 yZ
abbrev eI:=(ax ai bH)
def AF:FS:=(bt (vH (uQ u9 (ax (c1 zM (cL (u7 1 [0] (iL ab) (gN 0) vX (uQ EJ eI)))) (a1 (cS "a start is none")))))
 (bt (Hg 1)
 (bt (x9 (iL ab) (gN 2) (yQ 1 (c1 (uV vg "name") ao) (c1 (uV wF "start") ao)))
 (vH (uQ u9 (ax (c1 zM (cL (u7 1 [1] (iD (vl 1)) (gN 0) vX (uQ xF eI)))) (a1 (cS "a thing starts within itself"))))))))
def AG:=eb 1 3 AF
def HK:FS:=(bt (ew (xk (wq (cT (c1 (vZ (wC "tuple")) ab))) (wq (cT (xW zj zj aR (c1 xM ab) (cC FI))))) (uU bE) u0)
 (uU (v3 (c1 zM (cL (u7 1 [] (iT ab) (gN 0) vX (uQ yc bH)))) (uQ xE bH))))
def A3:=eb 1 1 HK
def Ld:FS:=(uU (c1 zM (cL (u7 1 [0] (iT ai) (gN 0) vX (c2 (mn δ) ab ai)))))
def BN:=eb 2 2 Ld
def z8:FS:=(bt (vp 2 (cL (u7 1 [1] (iL ab) (gN 0) (cT (c2 (en γ) (c1 (uV vg "name") ab) (c1 (uV vg "name") ai))) ab)))
 (uU (Gu (c1 Iu (cL (u7 1 [1] (iL ao) (gN 0) vX (uQ BN (ax (c1 (uV xK "words") ab) (a1 (c1 (uV xK "words") ai))))))))))
def z9:=eb 2 3 z8
def xp:FS:=(bt (vH (uQ u9 (ax (c1 zM (cL (u7 1 [] (iL ab) (gN 0) vX (uQ A3 (a1 (c1 (uV xK "words") ab)))))) (a1 (cS "a thing has 1 to 4 unlike words, as a tuple")))))
 (bt (vp 1 (cL (vN yX bH)))
 (vH (uQ u9 (ax (c1 zM (cL (u7 1 [1] (iL ai) (gN 0) vX (uQ z9 eI)))) (a1 (cS "one thing has all words of another")))))))
def xq:=eb 1 2 xp
abbrev cA:=(ax ab (a1 ai))
def Cd:FS:=(bt (vp 2 (v3 (c1 (vZ (wC "list")) ab) (v3 (c1 zM (cL (u7 1 [1] (iL ab) (gN 0) vX (uQ vS cA)))) (uQ xE bH))))
 (vH (uQ u9 (ax ao (a1 (cS "dark is a list of rooms' names, each once"))))))
def Ce:=eb 2 3 Cd
abbrev cv:=(cC (.int 2))
abbrev fV:=(cC (.int 3))
abbrev bP:=(a1 ai)
abbrev sF:=(ax (c2 e8 ab fV) cj)
def JM:FS:=(bt (ew (xk (wq (cT (c1 (vZ (wC "tuple")) ab))) (cT (c2 (en γ) (c1 xM ab) (cC (.int 4))))) (uU bE) u0)
 (bt (vp 3 (J' (c2 zk (c2 e8 ab fV) aK) (uQ vS sF)))
 (uU (v3 (uQ vS (ax (c2 e8 ab aO) bP)) (v3 (uQ yc (a1 (c2 e8 ab aR))) (v3 (uQ vS (ax (c2 e8 ab cv) bP)) ay))))))
def JN:=eb 3 4 JM
abbrev cD:=(ax ai (a1 ao))
abbrev ix:=(ax ab cD)
def Cf:FS:=(bt (vp 3 (v3 (uQ v7 (ax ab (a1 (cC Hv)))) (c1 zM (cL (u7 1 [1,2] (iL ab) (gN 0) vX (uQ JN ix))))))
 (bt (vH (uQ u9 (ax ay (a1 (cS "ways are a list of at most 10 tuples (room, word, room, mark)")))))
 (vH (uQ u9 (ax (uQ xE (a1 (cL (u7 1 [] (iL ab) (gN 0) vX (vI (ax (c2 e8 ab aO) (a1 (c2 e8 ab aR)))))))) (a1 (cS "two ways lead from one room by one word")))))))
def Cg:=eb 3 4 Cf
abbrev eE:=(cS "two")
abbrev kO:=(a1 (c1 (uV vg "name") ab))
def Le:FS:=(bt (ew (xk (wq (cT (c1 (vZ U9) ab))) (xk (wq (cT (uQ yb kO))) (wq (cT (c1 (vZ (wC "tuple")) (c1 (uV x6 "others") ab)))))) (uU bE) u0)
 (bt (ew (xk (wq (cT (c1 zM (cL (u7 1 [] (iT (c1 (uV x6 "others") ab)) (gN 0) vX (uQ yb bH)))))) (wq (cT (uQ vS (ax (c1 (uV zO "form") ab) (a1 (cC QB))))))) (uU bE) u0)
 (uU (rr (cT (c2 (en δ) (c1 (uV zO "form") ab) eE)) (uQ yc (a1 (c1 (uV x4 "joining") ab))) (c2 zk (c1 (uV x4 "joining") ab) aK)))))
def Lf:=eb 1 1 Le
def Em:FS:=(bt (vp 1 (v3 (uQ v7 (ax ab (a1 (cC FH)))) (c1 zM (cL (u7 1 [] (iL ab) (gN 0) vX (uQ Lf bH))))))
 (vH (uQ u9 (ax ai (a1 (cS "verbs are a list of at most 6 verbs"))))))
def zD:=eb 1 2 Em
def HL:FS:=(uU (Gu (c1 Iu (cL (u7 1 [1] (iL ab) (gN 0) vX (c2 (mn δ) ab ai))))))
def zR:=eb 2 2 HL
abbrev kF:=(a1 (c1 (uV vg "name") (cV 6)))
abbrev b9:=(cV 6)
abbrev bV:=(cV 7)
def yC:FS:=(bt (yj 3 (vF vA))
 (bt (x9 (iL (cL (vN yX bH))) (gN 4) (vH (Dk 3 (c1 (uV xK "words") aH))))
 (bt (yj 5 (vF vA))
 (bt (x9 (iL ao) (gN 6) (vH (Dk 5 (Hh (vI kF) (c1 (uV x6 "others") b9)))))
 (bt (vp 7 (cL (xB (cL (u7 1 [] (iL ao) (gN 0) (cT (c2 xu (c1 (uV x4 "joining") ab) aK)) (c1 (uV x4 "joining") ab))) (cL (u7 1 [] (iL ai) (gN 0) vX (c2 e8 ab aR))))))
 (bt (vH (uQ u9 (ax (uQ xE (a1 (vl 5))) (a1 (cS "two verbs' names are alike")))))
 (bt (vH (uQ u9 (ax (uQ zR (ax (cL (xB (vl 5) bV)) (a1 (vl 3)))) (a1 (cS "a verb's, way's or joining word is a word of a thing")))))
 (bt (vH (uQ u9 (ax (uQ zR (ax (cL (xB (vl 5) bV)) (a1 (cC Ay)))) (a1 (cS "the, a, undo or restart is a word of the world")))))
 (vH (uQ u9 (ax (uQ zR (ax bV (a1 (vl 5)))) (a1 (cS "a way's or joining word is a verb's name")))))))))))))
def yD:=eb 3 8 yC
abbrev eG:=(a1 aH)
def Bp:FS:=(bt (vH (uQ AE bH))
 (bt (vH (uQ Bm bP))
 (bt (vH (uQ Bo cA))
 (bt (vH (uQ AG bH))
 (bt (vH (uQ xq bH))
 (bt (vp 6 (cL (u7 1 [] (iL ab) (gN 0) (cT (c2 (en δ) (c1 (uV vG "kind") ab) dh)) (c1 (uV vg "name") ab))))
 (bt (vH (uQ Ce (ax ao (a1 b9))))
 (bt (vH (uQ Cg (ax ay (ax b9 (a1 (cL (vN yY cA)))))))
 (bt (vH (uQ zD eG))
 (vH (uQ yD (ax ab (ax ay (a1 (cL (xB aH bR))))))))))))))))
def Bq:=eb 6 7 Bp
def Vc:FS:=(uU (vC 13 (λa=>zQ (a++[])) (ax ab (ax ai (ax ao (ax ay (a1 bE)))))))
def AH:=eb 4 4 Vc
def Lg:FS:=(uU (vC 13 (λa=>zQ (a++[])) (ax ab (ax ai (ax (cL (vF vA)) (ax ao (a1 cI)))))))
def wx:=eb 3 3 Lg
abbrev b8:=(cS "it")
abbrev jr:=(cS "take")
def FN:FS:=(wy (vF (ax (uQ wx (ax jr (ax (cL (vF (a1 (vC 7 (λa=>xx (a++[])) (ax b8 (a1 (cS "fixed"))))))) (a1 (cS "That stays."))))) (ax (uQ wx (ax jr (ax (cL (vF (a1 (vC 3 (λa=>D2 (a++[])) (ax b8 bH))))) (a1 (cS "You have that."))))) (ax (uQ AH (ax jr (ax (cL (vF vA)) (ax (cL (vF (a1 (vC 11 (λa=>x8 (a++[])) (ax b8 bH))))) (a1 (cS "Taken.")))))) (ax (uQ AH (ax (cS "drop") (ax (cL (vF (a1 (vC 4 (λa=>Cb (a++[])) (a1 b8))))) (ax (cL (vF (a1 (vC 11 (λa=>x8 (a++[])) (ax b8 (a1 (cS "here"))))))) (a1 (cS "Dropped.")))))) (a1 (uQ wx (ax (cS "drop") (ax (cL (vF vA)) (a1 (cS "You lack that."))))))))))))
def Ci:=sh 1 1 FN
abbrev dP:=(cS "box")
abbrev fB:=(cS "other")
abbrev iu:=(cS "put")
abbrev kR:=(a1 aO)
def HM:FS:=(wy (vF (ax (uQ wx (ax iu (ax (cL (vF (a1 (vC 9 (λa=>xD (a++[])) (a1 (vC 4 (λa=>Cb (a++[])) (a1 b8))))))) (a1 (cS "You lack that."))))) (ax (uQ wx (ax iu (ax (cL (vF (a1 (vC 9 (λa=>xD (a++[])) (a1 (vC 7 (λa=>xx (a++[])) (ax fB (a1 dP)))))))) (a1 (cS "It holds nothing."))))) (ax (uQ wx (ax iu (ax (cL (vF (a1 (vC 6 (λa=>wN (a++[])) (ax fB kR))))) (a1 (cS "It is shut."))))) (a1 (uQ AH (ax iu (ax (cL (vF vA)) (ax (cL (vF (a1 (vC 11 (λa=>x8 (a++[])) (ax b8 (a1 fB)))))) (a1 (cS "Done."))))))))))))
def DB:=sh 0 0 HM
abbrev js:=(cS "open")
abbrev jt:=(ax b8 (a1 aR))
abbrev lh:=(ax b8 kR)
def HN:FS:=(wy (vF (ax (uQ wx (ax js (ax (cL (vF (a1 (vC 9 (λa=>xD (a++[])) (a1 (vC 7 (λa=>xx (a++[])) (ax b8 (a1 dP)))))))) (a1 (cS "It has no lid."))))) (ax (uQ wx (ax js (ax (cL (vF (a1 (vC 6 (λa=>wN (a++[])) jt)))) (a1 (cS "It is open."))))) (ax (uQ AH (ax js (ax (cL (vF vA)) (ax (cL (vF (a1 (vC 12 (λa=>zv (a++[])) jt)))) (a1 (cS "Opened.")))))) (ax (uQ wx (ax (cS "shut") (ax (cL (vF (a1 (vC 9 (λa=>xD (a++[])) (a1 (vC 7 (λa=>xx (a++[])) (ax b8 (a1 dP)))))))) (a1 (cS "It has no lid."))))) (ax (uQ wx (ax (cS "shut") (ax (cL (vF (a1 (vC 6 (λa=>wN (a++[])) lh)))) (a1 (cS "It is shut."))))) (a1 (uQ AH (ax (cS "shut") (ax (cL (vF vA)) (ax (cL (vF (a1 (vC 12 (λa=>zv (a++[])) lh)))) (a1 (cS "Shut."))))))))))))))
def DC:=sh 0 0 HN
abbrev jm:=(cS "lamp")
abbrev jv:=(a1 jm)
def En:FS:=(wy (vF (ax (uQ wx (ax (cS "light") (ax (cL (vF (a1 (vC 9 (λa=>xD (a++[])) (a1 (vC 7 (λa=>xx (a++[])) (ax b8 jv))))))) (a1 (cS "It burns not."))))) (ax (uQ wx (ax (cS "light") (ax (cL (vF (a1 (vC 6 (λa=>wN (a++[])) jt)))) (a1 (cS "It is lit."))))) (ax (uQ AH (ax (cS "light") (ax (cL (vF vA)) (ax (cL (vF (a1 (vC 12 (λa=>zv (a++[])) jt)))) (a1 (cS "Lit.")))))) (ax (uQ wx (ax (cS "douse") (ax (cL (vF (a1 (vC 9 (λa=>xD (a++[])) (a1 (vC 7 (λa=>xx (a++[])) (ax b8 jv))))))) (a1 (cS "It burns not."))))) (ax (uQ wx (ax (cS "douse") (ax (cL (vF (a1 (vC 6 (λa=>wN (a++[])) lh)))) (a1 (cS "It is out."))))) (a1 (uQ AH (ax (cS "douse") (ax (cL (vF vA)) (ax (cL (vF (a1 (vC 12 (λa=>zv (a++[])) lh)))) (a1 (cS "Doused."))))))))))))))
def Br:=sh 0 0 En
abbrev kU:=(a1 (c2 e8 ai aO))
abbrev n5:=(a1 (c2 e8 ai aR))
def HP:FS:=(bt (yj 2 (vF (ax (vC 3 (λa=>D2 (a++[])) (ax ab kU)) (a1 (vC 8 (λa=>DA (a++[])) n5)))))
 (bt (ew (cT (c2 xu (c2 e8 ai fV) aK)) (vH (CZ 2 (vC 9 (λa=>xD (a++[])) (a1 (vC 6 (λa=>wN (a++[])) (ax (c2 e8 ai fV) kR)))))) u0)
 (wy (Kr 2))))
def DD:=sh 2 3 HP
def EK:FS:=(bt (vp 2 (cL (u7 1 [0] (iL ai) (gN 0) vX (uQ AH (ax (cS "go") (ax (cL (vN DD eI)) (ax (cL (vF (a1 (vC 11 (λa=>x8 (a++[])) (ax ai (a1 (c2 e8 ab cv))))))) (a1 (cS "You go.")))))))))
 (wy (xB ao (cL (vF (a1 (uQ wx (ax (cS "go") (ax (cL (vF vA)) (a1 (cS "No way there.")))))))))))
def EL:=sh 2 3 EK
def FP:FS:=(wy (vF (a1 (uQ AH (ax (cS "wait") (ax (cL (vF vA)) (ax (cL (vF vA)) (a1 (cS "Time goes by.")))))))))
def FQ:=sh 0 0 FP
def DE:FS:=(wy (xB (cL (xB (cL (xB (cL (xB (cL (xB (cL (vN Ci bH)) (cL (vN DB vA)))) (cL (vN DC vA)))) (cL (vN Br vA)))) (cL (vN EL cA)))) (cL (vN FQ vA))))
def AI:=sh 2 2 DE
abbrev fX:=(cS "way")
abbrev ir:=(cS "alone")
abbrev sr:=(ax (vI vA) (ax eE (a1 (cS "in"))))
def DF:FS:=(wy (xB (cL (u7 1 [] (iT (vI (ax jr (ax (cS "drop") (ax js (ax (cS "shut") (ax (cS "light") (a1 (cS "douse"))))))))) (gN 0) vX (vC 2 (λa=>wc (a++[D.J,(D.str "one"),D.J])) bH))) (cL (vF (ax (vC 2 (λa=>wc (a++[])) (ax iu sr)) (ax (vC 2 (λa=>wc (a++[D.J])) (ax (cS "go") (ax (vI vA) (a1 fX)))) (a1 (vC 2 (λa=>wc (a++[D.J])) (ax (cS "wait") (ax (vI vA) (a1 ir)))))))))))
def y4:=sh 0 0 DF
def GP:FS:=(bt (Hg 1)
 (bt (x9 (iL ab) (gN 2) (yQ 1 (c1 (uV vg "name") ao) ao))
 (uU (vl 1))))
def GQ:=eb 1 3 GP
def Aa:FS:=(bt (Hg 2)
 (bt (x9 (iL ab) (gN 3) (ew (cT (vh xn "has_mark" ay vA)) (yQ 2 (c1 (uV vg "name") ay) aR) u0))
 (bt (x9 (iL ai) (gN 4) (yQ 2 (c1 (uV vg "name") aH) (c1 (uV yT "most") aH)))
 (uU (vl 2)))))
def Ab:=eb 2 5 Aa
def CJ:FS:=(bt (Hg 1)
 (bt (x9 (iL ab) (gN 2) (x9 (iT (Hh (vI (a1 (c1 (uV vg "name") ao))) (c1 (uV x6 "others") ao))) (gN 3) (yQ 1 ay ao)))
 (uU (vl 1))))
def yt:=eb 1 4 CJ
def Lh:FS:=(OZ (uV yV "verb"))
def Li:=eb 1 3 Lh
def CK:FS:=(wy (u7 1 [1] (iL (c1 (uV w5 "kept_things") ab)) (gN 0) (cT (c2 (en δ) (c1 (uV vG "kind") ab) ai)) (c1 (uV vg "name") ab)))
def CL:=eb 2 2 CK
def yn:Nat->Option (List D->Option D):=λc=>match c with
 |14=>Z CL
 |_=>O
def A4:FS:=(wy (xB (c1 (uV Dp "kept_verbs") ab) (c1 (uV BH "shared_verbs") ab)))
def A5:=eb 1 1 A4
def yu:Nat->Option (List D->Option D):=λc=>match c with
 |14=>Z A5
 |_=>O
def DG:FS:=(uU (v3 (c1 (vZ (wC "str")) ab) (c2 (en δ) ab ai)))
def wV:=eb 2 2 DG
def Lj:FS:=(uU (vC 13 (λa=>zQ (a++[])) (ax (c1 (uV yV "verb") ab) (ax (c1 (uV DY "tests") ab) (ax (c1 (uV BF "deeds") ab) (ax (c1 (uV Fw "text") ab) (a1 (c1 (uV zP "refuses") ab))))))))
def GR:=eb 1 1 Lj
def BO:FS:=(uU (c2 NP (c1 (uV Ax "things_by_name") ab) ai))
def xt:=eb 2 2 BO
def vw:Nat->Option (List D->Option D):=λc=>match c with
 |14=>Z xt
 |_=>O
def CM:FS:=(uU (c2 Dj (c1 (uV AY "mosts_by_name") ab) ai))
def wL:=eb 2 2 CM
def wH:Nat->Option (List D->Option D):=λc=>match c with
 |14=>Z wL
 |_=>O
def CN:FS:=(uU (c2 Dj (c1 (uV AZ "verbs_by_word") ab) ai))
def yw:=eb 2 2 CN
def wQ:Nat->Option (List D->Option D):=λc=>match c with
 |14=>Z yw
 |_=>O
def HQ:FS:=(uU (c1 (uV Bk "your_name") ab))
def NR:=eb 1 1 HQ
def zw:Nat->Option (List D->Option D):=λc=>match c with
 |14=>Z NR
 |_=>O
abbrev jo:=(cS "one")
abbrev kW:=(ax jo (a1 eE))
def CO:FS:=(bt (ew (cT (uQ wV (ax ai (a1 b8)))) (uU (c2 (mn δ) ab (vI kW))) u0)
 (uU (v3 (uQ wV (ax ai (a1 fB))) (c2 (en δ) ab eE))))
def wg:=eb 2 2 CO
def Lk:FS:=(uU (v3 (c2 xu ab aK) (uQ wV (ax ai (a1 (cS "here"))))))
def zx:=eb 2 2 Lk
def QC:FS:=(uU (rr (cT (c1 (vZ (wC "str")) ai)) (vh vw "thing_of" ab bP) aK))
def A6:=eb 2 2 QC
def FR:FS:=(uU (v3 (c2 xu (uQ A6 cA) aK) (c2 (en δ) (c1 (uV vG "kind") (uQ A6 cA)) ao)))
def Ae:=eb 3 3 FR
abbrev dD:=(ax ab cj)
def Ll:FS:=(uU (J' (uQ wg cD) (J' (uQ zx cD) (c2 xu (uQ A6 dD) aK))))
def BP:=eb 3 3 Ll
def EM:FS:=(bt (ew (xk (cT (uQ wg cD)) (cT (uQ zx cD))) (uU cI) u0)
 (uU (v3 (c2 xu (uQ A6 dD) aK) (vh v5 "can_hold" (uQ A6 dD) vA))))
def Cj:=eb 3 3 EM
def EN:FS:=(bt (ew (cT (uQ wg cD)) (uU cI) u0)
 (uU (v3 (c2 xu (uQ A6 dD) aK) (Gu (uQ Ae (ax ab (ax ao ju)))))))
def EO:=eb 3 3 EN
def yx:FS:=(bt (ew (xk (wq (cT (uQ zu eF))) (cT (c2 L0 ay aO))) (uU bE) u0)
 (bt (ew (cT (uQ wg cD)) (uU (c2 zj ay (cC A2))) u0)
 (bt (vp 4 (rr (cT (c1 (vZ (wC "str")) ao)) (vh wH "most_of" ab cj) aK))
 (uU (v3 (c2 xu aH aK) (c2 zj ay aH))))))
def yy:=eb 4 5 yx
abbrev kM:=(ax ab (ax ai (a1 (c1 (uV BI "term") ao))))
abbrev sm:=(ax ab (ax ai (a1 (c1 (uV DX "place") ao))))
def GT:FS:=(bt (ew (xk (wq (cT (uQ EO kM))) (wq (cT (uQ Cj sm)))) (uU bE) u0)
 (uU (J' (c2 (en γ) (c1 (uV BI "term") ao) (vh zw "you" ab vA)) (uQ Ae (ax ab (ax (c1 (uV DX "place") ao) ju))))))
def GU:=eb 3 3 GT
def Lm:FS:=(uU (v3 (c1 (vZ (wC "str")) ab) (xW zj zj aR (c1 xM ab) (cC FC))))
def BQ:=eb 1 1 Lm
def DH:FS:=(uU (v3 (uQ yb bP) (v3 (c2 xu (vh wQ "verb_of" ab bP) aK) (c2 (en δ) (c1 (uV vg "name") (vh wQ "verb_of" ab bP)) ai))))
def AJ:=eb 2 2 DH
def A7:FS:=(uU (v3 (c1 (vZ (wC "bool")) (c1 (uV zP "refuses") ab)) (J' (Gu (c1 (uV zP "refuses") ab)) (c2 (en δ) (c1 (uV BF "deeds") ab) (cL (vF vA))))))
def y6:=eb 1 1 A7
abbrev se:=(ax ab (ax ai (ax (c1 (uV BI "term") ao) (a1 (c1 (uV DZ "value") ao)))))
def wz:FS:=(bt (ew (cT (c1 (vZ t_At) ao)) (uU (v3 (uQ BP kM) (uQ Cj sm))) u0)
 (bt (ew (cT (c1 (vZ (tOr Y0 U8)) ao)) (uU (uQ BP kM)) u0)
 (bt (ew (cT (c1 (vZ NQ) ao)) (uU (uQ yy se)) u0)
 (bt (ew (cT (c1 (vZ U3) ao)) (uU (v3 (uQ BP kM) (uQ vS (ax (c1 (uV vG "kind") ao) (a1 (cC D1)))))) u0)
 (bt (ew (cT (c1 (vZ Va) ao)) (uU (v3 (c2 (en δ) ai fX) (uQ yc (a1 (c1 (uV JD "word") ao))))) u0)
 (uU (c1 (vZ Y1) ao)))))))
def Ac:=eb 3 3 wz
abbrev n4:=(a1 (c2 Nl ay aR))
def yG(g:List D->Option D):FS:=(bt (ew (cT (c2 (en δ) ay aO)) (uU bE) u0)
 (bt (ew (cT (c1 (vZ U6) ao)) (uU (uQ g (ax ab (ax ai (ax (c1 (uV GK "inner") ao) n4))))) u0)
 (bt (ew (cT (c1 (vZ Pd) ao)) (uU (v3 (uQ g (ax ab (ax ai (ax (c1 (uV Mm "one") ao) n4)))) (uQ g (ax ab (ax ai (ax (c1 (uV GL "other") ao) n4)))))) u0)
 (uU (uQ Ac ix)))))
def yH:Nat->List D->Option D
 |0=>eb 4 4 Ud
 |n+1=>eb 4 4 (yG (yH n))
def D3:FS:=(bt (ew (cT (c1 (vZ Y2) ao)) (uU (uQ yy se)) u0)
 (uU (v3 (c1 (vZ U5) ao) (uQ GU ix))))
def GV:=eb 3 3 D3
def HR:FS:=(uU (v3 (uQ v7 (ax ao (a1 (cC Fy)))) (c1 zM (cL (u7 1 [0,1] (iL ao) (gN 0) vX (uQ (yH 4) (ax ai (ax ao (ax ab (a1 (cC Hu)))))))))))
def DI:=eb 3 3 HR
abbrev n8:=(ax ai (ax ao bH))
def HS:FS:=(uU (v3 (uQ v7 (ax ao (a1 (cC FB)))) (c1 zM (cL (u7 1 [0,1] (iL ao) (gN 0) vX (uQ GV n8))))))
def DJ:=eb 3 3 HS
abbrev sv:=(a1 (c1 (uV yV "verb") ai))
def GW:FS:=(bt (ew (xk (wq (cT (c1 (vZ U7) ai))) (xk (wq (cT (uQ AJ (ax ab sv)))) (wq (cT (uQ BQ (a1 (c1 (uV Fw "text") ai))))))) (uU bE) u0)
 (bt (vp 2 (c1 (uV zO "form") (vh wQ "verb_of" ab sv)))
 (uU (v3 (uQ DI (ax ab (ax ao (a1 (c1 (uV DY "tests") ai))))) (v3 (uQ DJ (ax ab (ax ao (a1 (c1 (uV BF "deeds") ai))))) (uQ y6 bP))))))
def GY:=eb 2 3 GW
def y7:FS:=(bt (vH (uQ Bq (ax ai (ax ao (ax ay (ax aH (ax bR (a1 (cL (vN y4 vA))))))))))
 (bt (vV 14 0 "kept_things" (cL (AW ai)))
 (bt (vV 14 0 "kept_marks" (cL (AW ao)))
 (bt (vV 14 0 "kept_dark" (cL (AW ay)))
 (bt (vV 14 0 "kept_ways" (cL (AW aH)))
 (bt (vV 14 0 "kept_verbs" (cL (AW bR)))
 (bt (vV 14 0 "shared_verbs" (cL (vN y4 vA)))
 (bt (vV 14 0 "your_name" (Eh 16 (c2 e8 (vh yn "of_kind" ab kG) aO)))
 (bt (vV 14 0 "things_by_name" (uQ GQ bP))
 (bt (vV 14 0 "mosts_by_name" (uQ Ab cD))
 (bt (vV 14 0 "verbs_by_word" (Eh 16 (uQ yt (a1 (vh yu "all_verbs" ab vA)))))
 (bt (vp 7 (Eh 16 (v3 (uQ v7 (ax b9 (a1 (cC FJ)))) (c1 zM (cL (u7 1 [0] (iL b9) (gN 0) vX (uQ GY eI)))))))
 (bt (vH (uQ u9 (ax bV (a1 (cS "rules are a list of at most 20 rules, each as it may be")))))
 (bt (vV 14 0 "kept_rules" (cL (AW b9)))
 (bt (vV 14 0 "shared_rules" (Eh 16 (cL (vN AI (ax (c1 (uV Bk "your_name") ab) eG)))))
 (bt (vV 14 0 "copied_rules" (cL (u7 1 [] (iL b9) (gN 0) vX (uQ GR bH))))
 (vV 14 0 "rules_by_verb" (Eh 16 (uQ Li (a1 (cL (xB (c1 (uV BE "copied_rules") ab) (c1 (uV BG "shared_rules") ab)))))))))))))))))))))))
def Ag:=ro 14 6 8 y7
def CP:FS:=(uU (c2 (mn δ) ai (c1 (uV Ei "kept_dark") ab)))
def Iw:=eb 2 2 CP
def zF:Nat->Option (List D->Option D):=λc=>match c with
 |14=>Z Iw
 |_=>O
def A8:FS:=(wy (AW (c1 (uV Aw "kept_marks") ab)))
def FU:=eb 1 1 A8
def Ad:Nat->Option (List D->Option D):=λc=>match c with
 |14=>Z FU
 |_=>O
def Eo:FS:=(wy (u7 1 [] (iL (c1 (uV w5 "kept_things") ab)) (gN 0) vX (c1 (uV vg "name") ab)))
def Ep:=eb 1 1 Eo
def yI:Nat->Option (List D->Option D):=λc=>match c with
 |14=>Z Ep
 |_=>O
def A9:FS:=(wy (p1 (cL (u7 1 [] (iL (c1 (uV Bj "kept_ways") ab)) (gN 0) vX (c2 e8 ab aR)))))
def Ba:=eb 1 1 A9
def yz:Nat->Option (List D->Option D):=λc=>match c with
 |14=>Z Ba
 |_=>O
def zS:FS:=(wy (AW (Hk (c1 (uV yU "rules_by_verb") ab) ai (cL (vF vA)))))
def xf:=eb 2 2 zS
def yE:Nat->Option (List D->Option D):=λc=>match c with
 |14=>Z xf
 |_=>O
abbrev fW:=(cS "mark")
abbrev gz:=(cS "at")
abbrev sf:=(ax (c1 (uV w5 "kept_things") ab) (a1 (c1 (uV Aw "kept_marks") ab)))
abbrev og:=(ax gz kO)
def Er:FS:=(bt (vp 1 (cL (u7 1 [] (iL (c1 (uV w5 "kept_things") ab)) (gN 0) (cT (c2 (en γ) (c1 (uV vG "kind") ab) dh)) (vI og))))
 (bt (vp 2 (cL (u7 1 [] (iL (cL (vN yY sf))) (gN 0) vX (vI (ax fW bH)))))
 (wy (Dn (cL (xB ai ao))))))
def zG:=eb 1 3 Er
def zT:Nat->Option (List D->Option D):=λc=>match c with
 |14=>Z zG
 |_=>O
def FV:FS:=(bt (Hg 1)
 (bt (x9 (iL (vh Ad "own_marks" ab vA)) (gN 2) (yQ 1 (c1 (uV vg "name") ao) (c1 (uV wF "start") ao)))
 (uU (vl 1))))
def Ck:=eb 1 3 FV
def Es:FS:=(bt (ew (cT (c2 (en δ) (c2 e8 ao aO) gz)) (uU (c1 (uV wF "start") (vh vw "thing_of" ab (a1 (c2 e8 ao aR))))) u0)
 (uU (Hk ai (c2 e8 ao aR) aO)))
def yp:=eb 3 3 Es
abbrev sJ:=(ax ab (a1 (uQ yp n8)))
def Et:FS:=(bt (vp 1 (uQ Ck bH))
 (uU (Fm (cL (u7 1 [0,1] (iL (vh zT "parts" ab vA)) (gN 0) vX (vI sJ))))))
def Bs:=eb 1 2 Et
def JO:FS:=(bt (x9 (iT ab) (gN 2) (ew (cT (c2 (en δ) (c2 e8 ao aO) ai)) (uU (c2 e8 ao aR)) u0))
 (uU aK))
def Cn:=eb 2 3 JO
abbrev sH:=(a1 (vI (ax gz bP)))
def QD:FS:=(uU (uQ Cn (ax ab sH)))
def zH:=eb 2 2 QD
abbrev sI:=(a1 (vI (ax fW bP)))
def Ln:FS:=(uU (uQ Cn (ax ab sI)))
def Am:=eb 2 2 Ln
def HU:FS:=(uU (Fm (cL (u7 1 [1,2] (iT ab) (gN 0) vX (rr (cT (c2 (en δ) (c2 e8 ab aO) ai)) (vI cD) ab)))))
def Bb:=eb 3 3 HU
abbrev lg:=(ax ai eG)
def FW:FS:=(bt (yj 3 (vF vA))
 (bt (vp 4 (uQ zH cD))
 (bt (whL (cT (c2 xu aH aK)) (bt (vH (CZ 3 aH))
 (vp 4 (uQ zH lg))) 50)
 (wy (Kr 3)))))
def yd:=sh 3 5 FW
abbrev sE:=(a1 (vh zw "you" ab vA))
def Lo:FS:=(uU (uQ zH (ax ai sE)))
def An:=eb 2 2 Lo
def Y3:FS:=(uU (c2 (mn δ) (vh zw "you" ab vA) (cL (vN yd ix))))
def Vd:=eb 3 3 Y3
def Lp:FS:=(uU (v3 (c2 (en δ) (c1 (uV vG "kind") (vh vw "thing_of" ab cj)) dP) (c2 (en δ) (uQ Am cD) aO)))
def zy:=eb 3 3 Lp
abbrev oh:=(ax ab lg)
def Lq:FS:=(bt (x9 (iL (cL (vN yd ix))) (gN 4) (bt (ew (cT (c2 (en δ) aH ay)) (uU cI) u0)
 (ew (cT (uQ zy oh)) (uU bE) u0)))
 (uU bE))
def zz:=eb 4 5 Lq
abbrev fD:=(ax ai (ax ao (a1 ay)))
def JP:FS:=(uU (v3 (c2 (en δ) (uQ Am cD) aR) (uQ zz (ax ab fD))))
def AK:=eb 4 4 JP
abbrev sC:=(ax ai (ax ao (ax ab eF)))
def NS:FS:=(bt (vp 2 (uQ An cA))
 (bt (ew (wq (cT (vh zF "is_dark" ab cj))) (uU cI) u0)
 (uU (c1 Iu (cL (u7 1 [0,1,2] (iL (vh yn "of_kind" ab jv)) (gN 0) vX (uQ AK sC)))))))
def FX:=eb 2 3 NS
abbrev sj:=(ax ab (ax ai (ax ao sE)))
abbrev sA:=(ax ab (ax ai (ax ao (a1 (uQ An cA)))))
def Lr:FS:=(bt (vp 3 (vh vw "thing_of" ab cj))
 (bt (ew (xk (cT (c2 zk ay aK)) (wq (cT (vh wb "is_plainly" ay vA)))) (uU bE) u0)
 (bt (ew (cT (uQ zz sj)) (uU cI) u0)
 (uU (v3 (uQ zz sA) (uQ FX cA))))))
def yJ:=eb 3 4 Lr
def HV:FS:=(bt (vp 2 (rr (cT (c2 zk ai aK)) aK (vh wQ "verb_of" ab kU)))
 (uU (v3 (c2 xu ao aK) (c2 (en δ) (c1 (uV zO "form") ao) fX))))
def Bc:=eb 2 3 HV
abbrev sq:=(ax (c2 e8 ai aR) (a1 (c2 e8 ai cv)))
abbrev n6:=(ax aK (a1 aK))
def HW:FS:=(bt (ew (xk (cT (c2 zk ai aK)) (cT (uQ Bc cA))) (uU (vI n6)) u0)
 (uU (vI sq)))
def wR:=eb 2 2 HW
def QE:FS:=(bt (ew (cT (c2 (en δ) ay (cS "here"))) (uU (uQ An cA)) u0)
 (bt (ew (cT (c2 (en δ) ay b8)) (uU (c2 e8 (uQ wR dD) aO)) u0)
 (bt (ew (cT (c2 (en δ) ay fB)) (uU (c2 e8 (uQ wR dD) aR)) u0)
 (uU ay))))
def wB:=eb 4 4 QE
def JQ:FS:=(bt (vp 2 (vh vw "thing_of" ab bP))
 (uU (rr (xk (cT (c2 zk ao aK)) (cT (c2 (en δ) (c1 (uV vG "kind") ao) dh))) (cL (vF vA)) (cL (vF sH)))))
def ER:=eb 2 3 JQ
def FY:FS:=(uU (rr (cT (c2 zk (vh wH "most_of" ab bP) aK)) (cL (vF vA)) (cL (vF sI))))
def Ah:=eb 2 2 FY
def NT:FS:=(bt (vp 3 (vh vw "thing_of" ab cj))
 (uU (v3 (c2 (en γ) (uQ ER cA) (cL (vF vA))) (v3 (c2 xu ay aK) (v3 (vh v5 "can_hold" ay vA) (c2 (en γ) ao ai))))))
def FZ:=eb 3 4 NT
def JR:FS:=(uU (v3 (c2 (en γ) (uQ Ah cA) (cL (vF vA))) (c2 zj ao (vh wH "most_of" ab bP))))
def ES:=eb 3 3 JR
abbrev gA:=(ax ai (ax ao (ax ay (a1 (c1 (uV BI "term") ab)))))
abbrev nV:=(ax ai (ax ao (ax ay (a1 (c1 (uV DX "place") ab)))))
def JS:FS:=(bt (vp 4 (uQ wB gA))
 (bt (vp 5 (uQ zH (ax ao eG)))
 (uU (v3 (c2 xu bR aK) (c2 (en δ) bR (uQ wB nV))))))
def ET:=eb 4 6 JS
abbrev oa:=(ax ao (a1 (uQ wB gA)))
def HX:FS:=(uU (uQ Vd (ax ai oa)))
def HY:=eb 4 4 HX
def F0:FS:=(uU (uQ yJ (ax ai oa)))
def F1:=eb 4 4 F0
def DK:FS:=(bt (vp 4 (uQ Am oa))
 (uU (v3 (c2 xu aH aK) (c2 (en δ) aH (c1 (uV DZ "value") ab)))))
def AL:=eb 4 5 DK
def F2:FS:=(bt (vp 4 (vh vw "thing_of" ai (a1 (uQ wB gA))))
 (uU (v3 (c2 xu aH aK) (c2 (en δ) (c1 (uV vG "kind") aH) (c1 (uV vG "kind") ab)))))
def F3:=eb 4 5 F2
def F4:FS:=(uU (v3 (uQ Bc (ax ai eF)) (c2 (en δ) (c2 e8 ay aR) (c1 (uV JD "word") ab))))
def F5:=eb 4 4 F4
def HZ:FS:=(uU (uQ FX cD))
def Ia:=eb 4 4 HZ
def zU(g:Nat->Option (List D->Option D)):FS:=(uU (Gu (vh g "holds" (c1 (uV GK "inner") ab) fD)))
def y8(g:Nat->Option (List D->Option D)):FS:=(uU (v3 (vh g "holds" (c1 (uV Mm "one") ab) fD) (vh g "holds" (c1 (uV GL "other") ab) fD)))
def Cp:Nat->Option (List D->Option D):=λc=>match c with
 |3=>Z ET
 |4=>Z HY
 |5=>Z F1
 |6=>Z AL
 |7=>Z F3
 |8=>Z F5
 |15=>Z Ia
 |_=>O
def vT:Nat->Nat->Option (List D->Option D)
 |0=>Cp
 |n+1=>λc=>match c with
  |9=>Z (eb 4 4 (zU (vT n)))
  |10=>Z (eb 4 4 (y8 (vT n)))
  |c=>Cp c
abbrev kQ:=(ax ai (ax ao (a1 bR)))
abbrev nY:=(a1 bR)
abbrev sG:=(ax ai (ax aH nY))
def Ib:FS:=(bt (vp 4 (uQ wB gA))
 (bt (vp 5 (uQ wB nV))
 (bt (ew (xk (wq (cT (uQ FZ sG))) (cT (c2 (mn δ) aH (cL (vN yd kQ))))) (uU aK) u0)
 (uU (uQ Bb (ax ao (ax (vI (ax gz eG)) nY)))))))
def Bd:=eb 4 6 Ib
abbrev nZ:=(a1 (c1 (uV DZ "value") ab))
def JT:FS:=(bt (vp 4 (uQ wB gA))
 (bt (ew (wq (cT (uQ ES (ax ai (ax aH nZ))))) (uU aK) u0)
 (uU (uQ Bb (ax ao (ax (vI (ax fW eG)) nZ))))))
def EU:=eb 4 5 JT
def Cq:Nat->Option (List D->Option D):=λc=>match c with
 |11=>Z Bd
 |12=>Z EU
 |_=>O
def Ie:FS:=(bt (vp 2 (rr (cT (c1 (vZ (wC "str")) ai)) (vh vw "thing_of" ab bP) aK))
 (uU (v3 (c2 xu ao aK) (vh wb "is_plainly" ao vA))))
def zV:=eb 2 3 Ie
def Ig:FS:=(bt (ew (cT (c2 (en δ) ai eE)) (uU (v3 (uQ zV dD) (uQ zV (ax ab eF)))) u0)
 (bt (ew (cT (c2 xu ay aK)) (uU bE) u0)
 (bt (ew (cT (c2 (en δ) ai fX)) (uU (v3 (c1 (vZ (wC "str")) ao) (c2 (mn δ) ao (vh yz "way_words" ab vA)))) u0)
 (uU (rr (cT (c2 (en δ) ai ir)) (c2 zk ao aK) (uQ zV dD))))))
def DL:=eb 4 4 Ig
def F6:FS:=(bt (ew (xk (wq (cT (c1 (vZ (wC "tuple")) ai))) (xk (cT (c2 (en γ) (c1 xM ai) fV)) (wq (cT (c1 (vZ (wC "str")) (c2 e8 ai aO)))))) (uU bE) u0)
 (bt (vp 2 (vh wQ "verb_of" ab kU))
 (uU (v3 (c2 xu ao aK) (v3 (c2 (en δ) (c1 (uV vg "name") ao) (c2 e8 ai aO)) (uQ DL (ax ab (ax (c1 (uV zO "form") ao) sq))))))))
def Cr:=eb 2 3 F6
def CQ:FS:=(ew (wq (cT (uQ Cr cA))) Ud u0)
def yA:=eb 2 2 CQ
def Ve:FS:=(bt (x9 (iL (c1 (uV DY "tests") ay)) (gN 4) (ew (wq (cT (vh (vT 3) "holds" aH ix))) (uU bE) u0))
 (uU cI))
def Mn:=eb 4 5 Ve
abbrev kI:=(cS "refused")
abbrev sy:=(a1 (c1 (uV Fw "text") ay))
def Ls:FS:=(bt (ew (cT (c1 (uV zP "refuses") ay)) (uU (vI (ax (vI (ax kI sy)) bP))) u0)
 (bt (vp 4 ai)
 (bt (x9 (iL (c1 (uV BF "deeds") ay)) (gN 5) (bt (vp 4 (vh Cq "done" bR (ax ab (ax aH cj))))
 (ew (cT (c2 zk aH aK)) (uU (vI (ax (vI (ax kI (a1 (cC Ht)))) bP))) u0)))
 (uU (vI (ax (vI (ax (cS "told") sy)) eG))))))
def D4:=eb 4 6 Ls
def JU:FS:=(bt (x9 (iT (uQ wR dD)) (gN 4) (ew (zJ (cT (c2 xu aH aK)) (cT (c2 (mn γ) aH ay))) (uU (vI (ax (vI (ax (cS "unseen") eG)) bP))) u0))
 (bt (x9 (iL (vh yE "rules_to_try" ab (a1 (c2 e8 ao aO)))) (gN 5) (ew (cT (uQ Mn (ax ab kQ))) (uU (uQ D4 (ax ab kQ))) u0))
 (uU (vI (ax (vI (ax kI (a1 (cC CD)))) bP)))))
def EV:=eb 4 6 JU
def Vf:FS:=(bt (vH (uQ yA dD))
 (bt (vp 3 (cL (u7 1 [0,1] (iT (uQ wR dD)) (gN 0) (cT (uQ yJ n8)) ab)))
 (uU (uQ EV (ax ab fD)))))
def Mo:=eb 3 4 Vf
def ye:FS:=(bt (ew (cT (c2 (en δ) ai ir)) (wy (vF (a1 (vI n6)))) u0)
 (bt (ew (cT (c2 (en δ) ai fX)) (wy (u7 1 [] (iL (vh yz "way_words" ab vA)) (gN 0) vX (vI (ax ab (a1 aK))))) u0)
 (bt (vp 2 (cL (u7 1 [0] (iL (vh yI "names" ab vA)) (gN 0) (cT (vh wb "is_plainly" (vh vw "thing_of" ai bH) vA)) ab)))
 (bt (ew (cT (c2 (en δ) ai jo)) (wy (u7 1 [] (iL ao) (gN 0) vX (vI (ax ab (a1 aK))))) u0)
 (bt (yj 3 (vF vA))
 (bt (x9 (iL ao) (gN 4) (vH (Ir 3 (u7 1 [4] (iL ao) (gN 0) vX (vI eI)))))
 (wy (Kr 3))))))))
def yf:=sh 2 5 ye
abbrev jl:=(xA (gN 0) (xA (gN 1) G9))
abbrev kP:=(ax ab (a1 (c1 (uV zO "form") ao)))
abbrev kZ:=(ax (c1 (uV vg "name") ao) cA)
def EW:FS:=(bt (yj 1 (vF vA))
 (bt (x9 (iL (vh yu "all_verbs" ab vA)) (gN 2) (vH (Ir 1 (u7 2 [2] (iL (cL (vN yf kP))) (gT jl 2) vX (vI kZ)))))
 (wy (Kr 1))))
def EX:=sh 1 3 EW
def y9:FS:=(bt (vp 2 (uQ zH cA))
 (bt (x9 (K' (c1 xM ab)) (gN 3) (bt (ew (cT (c2 zk ao aK)) (uU cI) u0)
 (vp 2 (uQ zH dD))))
 (uU (c2 zk ao aK))))
def xG:=eb 2 4 y9
def NU:FS:=(uU (v3 (c1 (vZ (wC "tuple")) ab) (c2 (en δ) (c1 xM ab) cv)))
def JV:=eb 1 1 NU
def Lu:FS:=(uU (v3 (uQ JV bH) (v3 (uQ wV (ax (c2 e8 ab aO) kU)) (uQ wV (ax (c2 e8 ab aR) n5)))))
def GZ:=eb 2 2 Lu
def Ih:FS:=(bt (vp 3 (rr (cT (c1 (vZ (wC "str")) ao)) (vh vw "thing_of" ab cj) aK))
 (bt (ew (cT (c2 zk ay aK)) (uU bE) u0)
 (bt (ew (cT (c2 (en δ) ai (vh zw "you" ab vA))) (uU (c2 (en δ) (c1 (uV vG "kind") ay) dh)) u0)
 (uU (vh v5 "can_hold" ay vA)))))
def DM:=eb 3 4 Ih
def JW:FS:=(bt (ew (cT (c2 (en δ) (c2 e8 ai aO) fW)) (uU (v3 (uQ zu cj) (xW zj zj aO ao (vh wH "most_of" ab n5)))) u0)
 (uU (uQ DM (ax ab (ax (c2 e8 ai aR) cj)))))
def EY:=eb 3 3 JW
def JX:FS:=(bt (vp 2 (vh zT "parts" ab vA))
 (bt (ew (xk (wq (cT (c1 (vZ (wC "tuple")) ai))) (cT (c2 (en γ) (c1 xM ai) (c1 xM ao)))) (uU bE) u0)
 (bt (x9 (iZT cD) (gT (xA (gN 3) (xA (gN 4) G9)) 2) (ew (xk (wq (cT (uQ JV eF))) (xk (wq (cT (uQ GZ (ax (c2 e8 ay aO) eG)))) (wq (cT (uQ EY (ax ab (ax aH (a1 (c2 e8 ay aR))))))))) (uU bE) u0))
 (uU (c1 zM (cL (u7 1 [1] (iL (vh yI "names" ab vA)) (gN 0) vX (uQ xG eI))))))))
def EZ:=eb 2 5 JX
def DN:FS:=(bt (ew (cT (c2 L0 ai (c1 xM ab))) (uU (c2 e8 ab ai)) u0)
 (uU aO))
def zc:=eb 2 2 DN
abbrev jn:=(cC (.int 2147483647))
def Ai:FS:=(bt (ew (Dg (cT (c2 (en δ) (c1 xM ab) aR))) (bt (vp 2 (CU (c2 e8 ab aO)))
 (bt (Bh 0 0 (c2 zL ao (c1 OK (c2 dGeI ao (c2 TZ (cC (.int 10)) (cC (.int 18)))))))
 (vH (Ir 0 (vF (ax (c2 zm ao jn) kR)))))) u0)
 (bt (ew (Dg (cT (c2 Np (c2 e8 ab aO) aO))) (bt (vp 3 (CU (c2 zm (c2 e8 ab aO) ai)))
 (bt (Bh 0 0 (CU (c2 Ee (c2 e8 ab aO) ai)))
 (uU ay))) u0)
 (bt (Bh 0 2 (CU (c2 xV (c2 e8 ab cv) aR)))
 (bt (vp 4 (CU (c2 zm (c2 zL (c2 xV (c2 xV (c2 e8 ab aR) (c2 zL (cC (.int 7919)) (c2 e8 ab cv))) aR) (cC (.int 48271))) jn)))
 (bt (vp 4 (c2 zm (c2 zL aH (c2 xV (c2 Ee aH (cC (.int 1009))) (cC (.int 69621)))) jn))
 (uU (c2 zm (c2 zm (c2 zL aH (c2 xV (c2 Ee aH (cC (.int 2003))) (cC (.int 40692)))) (cC (.int 2147483399))) ai)))))))
def uS:=qx 1 5 Ai
def F7:FS:=(wy (u7 1 [1] (iL ab) (gN 0) (cT (c2 (mn δ) (c1 (uV vG "kind") ab) ai)) (c1 (uV vg "name") ab)))
def wj:=sh 2 2 F7
abbrev cY:=(cV 8)
abbrev jq:=(cC (.int 8))
abbrev kJ:=(cC (.int 6))
abbrev fC:=(cV 9)
def Eu:FS:=(bt (vp 1 (cL (Iv (cL (vF (ax (cS "hall") (ax (cS "x") (ax (cS "cellar") (ax (cS "loft") (a1 (cS "porch")))))))) oNo (μ (c2 xV aR (vY uS 0 (a1 (cC (.int 5)))))))))
 (bt (yj 2 (u7 1 [] (iL ai) (gN 0) vX (vC 0 (λa=>yW (a++[D.J])) (ax ab (ax (vI (ax ab (a1 (cS "place")))) ju)))))
 (bt (vH (CZ 2 (vC 0 (λa=>yW (a++[])) (ax (cS "me") (ax (vI (ax (cS "me") (a1 (cS "self")))) (ax (cS "you") (a1 (c2 e8 ai (vY uS 0 (a1 (c1 xM ai)))))))))))
 (bt (yj 3 (xB ai (cL (vF (a1 (cS "me"))))))
 (bt (vp 4 (cL (vF (ax (vI (ax (cS "chest") (a1 (vI (ax (cS "old") (a1 (cS "chest"))))))) (ax (vI (ax jm (a1 (vI (ax jm (a1 (cS "red"))))))) (ax (vI (ax (cS "stone") (a1 (vI (ax (cS "red") (a1 (cS "stone"))))))) (a1 (vI (ax (cS "key") (a1 (vI (a1 (cS "key")))))))))))))
 (bt (vp 4 (cL (xB aH (cL (vF (ax (vI (ax (cS "itch") (a1 (vI (ax (cS "old") (ax (cS "red") (a1 (cS "rag")))))))) (ax (vI (ax (cS "heretic") (a1 (vI (ax (cS "stone") (a1 (cS "man"))))))) (a1 (vI (ax (cS "others") (a1 (vI (ax (cS "book") (ax (cS "of") (a1 (cS "old"))))))))))))))))
 (bt (vp 5 (vY uS 0 (a1 (cC (.int 7)))))
 (bt (x9 (K' (vY uS 0 (a1 jq))) (gN 6) (bt (LY (c2 e8 aH (c2 zm (c2 xV b9 bR) (cC (.int 7)))) (gT (xA (gN 7) (xA (gN 8) G9)) 2))
 (bt (vp 9 (c2 e8 (cL (vF (ax (cS "plain") (ax dP (ax jm (ax dP (ax (cS "fixed") (a1 (cS "plain"))))))))) (vY uS 0 (a1 kJ))))
 (bt (vH (CZ 2 (vC 0 (λa=>yW (a++[])) (ax bV (ax cY (ax fC (a1 (OI 3 (vY uS 0 (a1 (CU (c1 xM ay))))))))))))
 (ew (cT (c2 (en δ) fC dP)) (vH (CZ 3 bV)) u0)))))
 (bt (vp 5 (vY uS 0 (a1 (CU (c1 xM ao)))))
 (wy (xB (cL (Iv (vl 2) (μ bR) oNo)) (cL (Iv (vl 2) oNo (μ bR))))))))))))))
def Bt:=qx 0 10 Eu
abbrev iw:=(a1 fV)
def F8:FS:=(bt (yj 1 (vF vA))
 (bt (x9 (iL (cL (Iv (cL (vF (ax (cS "gate") (ax (cS "luck") (ax (cS "tide") (a1 (cS "i"))))))) oNo (μ (vY uS 0 (a1 (cC (.int 5)))))))) (gN 2) (bt (vp 3 (c2 xV aR (vY uS 0 iw)))
 (vH (CZ 1 (vC 1 (λa=>HA (a++[])) (ax ao (ax (vY uS 0 (a1 (c2 xV ay aR))) eF)))))))
 (wy (Kr 1))))
def Cs:=qx 0 4 F8
abbrev iq:=(a1 (cC (.int 4)))
abbrev kT:=(a1 (cL (vF ju)))
abbrev kX:=(ax dP jv)
abbrev kY:=(a1 (c1 xM ay))
def Ii:FS:=(bt (vp 3 (cL (vN wj (ax ai kT))))
 (bt (vp 4 (cL (xB (cL (xB (cL (vF n6)) (cL (u7 1 [] (iL ao) (gN 0) vX (c1 (uV vg "name") ab))))) (cL (vN wj (ax ai (a1 (cL (vF kX)))))))))
 (bt (yj 5 (vF vA))
 (bt (x9 (K' (vY uS 0 (a1 (cC (.int 9))))) (gN 6) (bt (vp 7 (c2 e8 ay (vY uS 0 kY)))
 (bt (vp 8 (c2 e8 (cL (vF (ax (cS "north") (ax (cS "up") (ax (cS "outside") (a1 (cS "north"))))))) (vY uS 0 iq)))
 (bt (vp 9 (c2 e8 ay (vY uS 0 kY)))
 (bt (vp 10 (c2 e8 aH (vY uS 0 (a1 (c1 xM aH)))))
 (ew (Dg (cT (c2 ZX (vI (ax bV (a1 cY))) (cL (u7 1 [] (iL bR) (gN 0) vX (X0 ab O (Z 2))))))) (vH (CZ 5 (vI (ax bV (ax cY (ax fC (a1 (cV 10)))))))) u0))))))
 (wy (Kr 5))))))
def DO:=qx 2 11 Ii
def F9:FS:=(bt (vp 1 (cL (vF (ax (vC 2 (λa=>wc (a++[(D.str "one"),D.J])) (ax (cS "push") (a1 (vI (ax (cS "shove") (a1 (cS "p"))))))) (ax (vC 2 (λa=>wc (a++[])) (ax (cS "tie") (ax (vI vA) (ax eE (a1 (cS "to")))))) (a1 (vC 2 (λa=>wc (a++[D.J])) (ax (cS "sing") (ax (vI (a1 (cS "hum"))) (a1 ir))))))))))
 (bt (vp 1 (cL (xB ai (cL (vF (ax (vC 2 (λa=>wc (a++[D.J])) (ax (cS "swim") (ax (vI (a1 (cS "dive"))) (a1 fX)))) (ax (vC 2 (λa=>wc (a++[])) (ax (cS "takes") sr)) (a1 (vC 2 (λa=>wc (a++[D.J])) (ax (cS "w") (ax (vI vA) (a1 ir))))))))))))
 (bt (vp 2 (vY uS 0 (a1 kJ)))
 (wy (Iv (cL (xB (cL (Iv ai (μ ao) oNo)) (cL (Iv ai oNo (μ ao))))) oNo (μ (vY uS 0 (a1 (cC (.int 7))))))))))
def Ct:=qx 0 3 F9
def Ik:FS:=(bt (vp 3 (cL (xB ao (cL (vF (a1 (cS "here")))))))
 (bt (ew (cT (c2 (mn δ) ai (cL (vF kW)))) (vp 3 (cL (xB ay (cL (vF (ax b8 (a1 b8))))))) u0)
 (bt (ew (cT (c2 (en δ) ai eE)) (vp 3 (cL (xB ay (cL (vF (ax fB (a1 fB))))))) u0)
 (uU (c2 e8 ay (vY uS 0 kY))))))
def xg:=qx 2 4 Ik
def BR:FS:=(bt (yj 4 (xB (cL (u7 1 [] (iL ay) (gN 0) vX (vI (ax (c1 (uV vg "name") ab) su)))) (cL (u7 1 [] (iL (cL (vN wj (ax ao (a1 (cL (vF kX))))))) (gN 0) vX (vI (ax ab (a1 aR)))))))
 (bt (ew (cT (c2 (mn δ) ai (cL (vF kW)))) (yj 4 (xB (vl 4) (cL (vF (ax (vI (ax b8 iw)) (a1 (vI jt))))))) u0)
 (bt (ew (cT (c2 (en δ) ai eE)) (vH (CZ 4 (vI (ax fB iw)))) u0)
 (bt (ew (Dg (cT (c2 (en δ) aH (cL (vF vA))))) (uU aK) u0)
 (uU (OI 4 (vY uS 0 (a1 (CU (c1 xM aH))))))))))
def yg:=qx 3 5 BR
abbrev sg:=(ax (c2 e8 aH aO) (a1 (vY uS 0 (a1 (c2 xV (c2 e8 aH aR) aR)))))
def Ew:FS:=(bt (vp 4 (vY yg 0 fD))
 (bt (ew (cT (c2 zk aH aK)) (uU (X4 15)) u0)
 (uU (vC 6 (λa=>wN (a++[])) sg))))
def zI:=qx 3 5 Ew
abbrev kK:=(ax ai (ax ao (ax ay (a1 (c2 Nl aH aR)))))
abbrev nX:=(a1 (cL (vF (ax dh (ax dP kG)))))
abbrev lj:=(ax ai nY)
def zW(g:List D->List D->Option (D×List D)):FS:=(bt (vp 5 (cL (u7 1 [] (iL ao) (gN 0) vX (c1 (uV vg "name") ab))))
 (bt (vp 6 (cL (vN wj (ax ao nX))))
 (bt (vp 7 (vY uS 0 (a1 (c2 xV jq (c2 zL cv (c1 OK (c2 Np aH aO)))))))
 (bt (ew (cT (c2 L0 bV cv)) (uU (vC 3 (λa=>D2 (a++[])) (ax (vY xg 0 lj) (a1 (vY xg 0 (ax ai (a1 b9))))))) u0)
 (bt (ew (cT (c2 (en δ) bV cv)) (uU (vC 4 (λa=>Cb (a++[])) (a1 (vY xg 0 lj)))) u0)
 (bt (ew (cT (c2 (en δ) bV fV)) (uU (vC 5 (λa=>HC (a++[])) (a1 (vY xg 0 lj)))) u0)
 (bt (ew (cT (c2 (en δ) bV (cC (.int 4)))) (bt (vp 8 (cL (vF (ax (cS "plain") (ax (cS "fixed") (ax dP (ax jm (ax dh kG))))))))
 (uU (vC 7 (λa=>xx (a++[])) (ax (vY xg 0 lj) (a1 (c2 e8 cY (vY uS 0 (a1 kJ)))))))) u0)
 (bt (ew (cT (c2 (en δ) bV (cC (.int 5)))) (uU (X4 15)) u0)
 (bt (ew (zJ (cT (c2 (en δ) bV kJ)) (cT (c2 (en δ) ai fX))) (uU (vC 8 (λa=>DA (a++[])) (a1 (c2 e8 (cL (vF (ax (cS "north") (ax (cS "up") (ax (cS "outside") (a1 (cS "down"))))))) (vY uS 0 iq))))) u0)
 (bt (ew (cT (c2 L0 bV jq)) (uU (vY zI 0 fD)) u0)
 (bt (ew (cT (c2 (en δ) bV jq)) (uU (vC 9 (λa=>xD (a++[])) (a1 (vY g 0 kK)))) u0)
 (bt (vp 9 (vY g 0 kK))
 (uU (vC 10 (λa=>HG (a++[])) (ax fC (a1 (vY g 0 kK)))))))))))))))))
def xh:Nat->List D->List D->Option (D×List D)
 |0=>qx 4 10 Ud
 |n+1=>qx 4 10 (zW (xh n))
def Il:FS:=(bt (vp 4 (vY yg 0 fD))
 (bt (ew (zJ (cT (c2 xu aH aK)) (cT (c2 (en δ) (vY uS 0 (a1 cv)) aR))) (uU (vC 12 (λa=>zv (a++[])) sg)) u0)
 (bt (vp 5 (cL (vN wj (ax ao (a1 (cL (vF (ax (cS "plain") (ax (cS "fixed") kX)))))))))
 (bt (ew (zJ (cT (c2 (mn δ) ai (cL (vF kW)))) (xk (cT (c2 (en δ) bR (cL (vF vA)))) (cT (c2 (en δ) (vY uS 0 (a1 cv)) aR)))) (vp 5 (cL (vF (ax b8 (ax b8 (a1 (c2 e8 (cL (vF (ax b8 (a1 fB)))) (c1 OK (c2 (en δ) ai eE))))))))) u0)
 (bt (vp 6 (cL (vN wj (ax ao kT))))
 (bt (ew (xk (cT (c2 (en δ) bR (cL (vF vA)))) (cT (c2 (en δ) (vY uS 0 iq) aO))) (uU (vC 11 (λa=>x8 (a++[])) (ax (cS "me") (a1 (c2 e8 b9 (vY uS 0 (a1 (c1 xM b9)))))))) u0)
 (bt (vp 7 (cL (vN wj (ax ao nX))))
 (uU (vC 11 (λa=>x8 (a++[])) (ax (c2 e8 bR (vY uS 0 (a1 (c1 xM bR)))) (a1 (vY xg 0 (ax ai (a1 bV))))))))))))))
def DP:=qx 3 8 Il
abbrev sd:=(xA (gN 8) (xA (gN 9) G9))
abbrev sk:=(ax (c1 (uV vg "name") ab) (a1 (c1 (uV zO "form") ab)))
def Ga:FS:=(bt (vp 5 (cL (vF (ax (vI (ax jr (a1 jo))) (ax (vI (ax js (a1 jo))) (ax (vI (ax iu (a1 eE))) (ax (vI (ax (cS "go") (a1 fX))) (ax (vI (ax (cS "wait") (a1 ir))) (a1 (vI (ax (cS "drop") (a1 jo))))))))))))
 (bt (vp 5 (cL (xB bR (cL (Y' (cL (u7 1 [] (iL ay) (gN 0) vX (vI sk))) cv)))))
 (bt (yj 6 (vF vA))
 (bt (x9 (K' (vY uS 0 (a1 (c2 xV aH aR)))) (gN 7) (bt (LY (c2 e8 bR (vY uS 0 (a1 (c1 xM bR)))) (gT sd 2))
 (bt (vp 10 (cL (u7 1 [0,9,1,2] (K' (vY uS 0 iq)) (gN 0) vX (vY (xh 3) 1 (ax ao (ax ay (ax aH (a1 cv))))))))
 (bt (vp 11 (c2 (en δ) (vY uS 0 iq) aO))
 (bt (vp 12 (cL (u7 1 [0,9,1,2] (K' (c2 zL (vY uS 0 iq) (c1 OK (Gu (cV 11))))) (gN 0) vX (vY DP 1 (ax ao (ax ay eG))))))
 (vH (CZ 6 (vC 13 (λa=>zQ (a++[])) (ax cY (ax (cV 10) (ax (cV 12) (ax (c2 Fk (c2 Fk (cS "Text ") (c1 zl bV)) (c2 K0 (cS ".") (c2 xV aR (vY uS 0 (a1 (cC (.int 9))))))) (a1 (cV 11))))))))))))))
 (wy (Kr 6))))))
def Cu:=qx 4 13 Ga
def Im:FS:=(bt (vp 2 (vY Bt 0 vA))
 (bt (vp 3 (vY Cs 0 vA))
 (bt (vp 4 (cL (u7 1 [0] (iL (cL (vN wj (ax ao kT)))) (gN 0) (cT (c2 (en δ) (vY uS 1 iw) aO)) ab)))
 (bt (vp 5 (vY DO 0 (ax ao eF)))
 (bt (vp 6 (vY Ct 0 vA))
 (wy (vF (ax ao (ax ay (ax aH (ax bR (ax b9 (a1 (vY Cu 0 (ax ao (ax ay (ax b9 bP)))))))))))))))))
def zX:=qx 1 7 Im
def Gb:FS:=(bt (vp 2 (cL (u7 1 [] (iL ab) (gN 0) (cT (c2 (en γ) (c1 (uV vG "kind") ab) dh)) (vI og))))
 (bt (vp 2 (cL (xB ao (cL (u7 1 [] (iL ab) (gN 0) (cT (c2 (mn δ) (c1 (uV vG "kind") ab) (cL (vF kX)))) (vI (ax fW kO)))))))
 (wy (Dn (cL (xB ao (cL (u7 1 [] (iL ai) (gN 0) vX (vI (ax fW kO))))))))))
def Cv:=eb 2 3 Gb
def Gc:FS:=(bt (vp 3 ao)
 (bt (x9 (K' (c2 xV (c1 dLenT ab) aR)) (gN 4) (bt (ew (cT (c2 (mn δ) ay ai)) (uU cI) u0)
 (vp 3 (c2 ts ab (vI (ax gz eF))))))
 (uU bE)))
def Cw:=eb 3 5 Gc
def Ge:FS:=(bt (ew (xk (wq (cT (c1 (vZ (wC "tuple")) ao))) (cT (c2 (en γ) (cL (u7 2 [] (iT ao) (gT jl 2) vX ab)) (uQ Cv cA)))) (uU bE) u0)
 (bt (vp 3 (cL (vN wj (ax ab kT))))
 (bt (vp 4 (cL (vN wj (ax ab nX))))
 (bt (Hg 5)
 (bt (x9 (iL ai) (gN 6) (yQ 5 (c1 (uV vg "name") b9) (c1 (uV yT "most") b9)))
 (bt (vp 7 (x? ao))
 (bt (x9 (iT ao) (gT sd 2) (bt (ew (zJ (cT (c2 (en δ) (c2 e8 cY aO) gz)) (xk (cT (c2 (mn γ) fC aH)) (wq (cT (uQ Cw (ax bV (ax ay (a1 (c2 e8 cY aR))))))))) (uU bE) u0)
 (ew (zJ (cT (c2 (en δ) (c2 e8 cY aO) fW)) (xk (cT (c1 (vZ (wC "bool")) fC)) (wq (cT (xW zj zj aO fC (Hk (vl 5) (c2 e8 cY aR) aR)))))) (uU bE) u0)))
 (uU (c2 Y? (c2 ts bV (vI (ax gz (a1 (cS "me"))))) ay)))))))))
def Cy:=eb 3 10 Ge
abbrev nW:=(a1 (uQ zc (ax ab (a1 aO))))
def Vg:FS:=(bt (vp 1 (xr zX (a1 (cC (.int 12))) (vF nW)))
 (bt (LY ai (gTL (xA (gN 2) (xA (gN 3) (xA (gN 4) (xA (gN 5) (xA (gN 6) (xA (gN 7) G9)))))) 6))
 (bt (vp 8 (vC 14 (λa=>Ag (a++[])) (ax ao (ax ay (ax aH (ax bR (ax b9 (a1 bV))))))))
 (bt (vp 9 (cL (vN EX (a1 cY))))
 (bt (vp 10 (uQ Bs (a1 cY)))
 (bt (x9 (iR2 aR (c2 dMax2 cv (c2 dMin2 (cC (.int 31)) (c1 xM ab)))) (gN 11) (bt (LY (uQ Mo (ax cY (ax (cV 10) (a1 (c2 e8 fC (c2 zm (c2 xV (uQ zc (ax ab (a1 (cV 11)))) (c2 zL (cC (.int 17)) (cV 11))) (c1 xM fC))))))) (gT (xA (gN 12) (xA (gN 13) G9)) 2))
 (bt (ew (xk (wq (cT (uQ Cy (ax ao (ax ay (a1 (cV 13))))))) (cT (c2 IH (uQ EZ (ax cY (a1 (cV 13)))) cI))) (uU bE) u0)
 (bt (ew (xk (cT (c2 (mn γ) (c2 e8 (cV 12) aO) (cL (vF (ax (cS "told") (ax kI (a1 (cS "unseen")))))))) (zJ (cT (c2 (en γ) (c2 e8 (cV 12) aO) (cS "told"))) (cT (c2 (en γ) (cV 13) (cV 10))))) (uU bE) u0)
 (vp 10 (cV 13))))))
 (uU cI)))))))
def Y4:=eb 1 14 Vg
def JY{b q r n:Int}{a:Sl}(e:0<b)(o:b<1073741824):∃d c l,(bt (ew (Dg (cT (c2 Np (c2 e8 ab aO) aO))) (bt (vp 3 (CU (c2 zm (c2 e8 ab aO) ai)))
 (bt (Bh 0 0 (CU (c2 Ee (c2 e8 ab aO) ai)))
 (uU ay))) u0)
 (bt (Bh 0 2 (CU (c2 xV (c2 e8 ab cv) aR)))
 (bt (vp 4 (CU (c2 zm (c2 zL (c2 xV (c2 xV (c2 e8 ab aR) (c2 zL (cC (.int 7919)) (c2 e8 ab cv))) aR) (cC (.int 48271))) jn)))
 (bt (vp 4 (c2 zm (c2 zL aH (c2 xV (c2 Ee aH (cC (.int 1009))) (cC (.int 69621)))) jn))
 (uU (c2 zm (c2 zm (c2 zL aH (c2 xV (c2 Ee aH (cC (.int 2003))) (cC (.int 40692)))) (cC (.int 2147483399))) ai))))))
  [.pm [.int q,.int r,.int n],.I (.int b),a,.un,.un]=Z (.rt (.int d) l)/\Fg l=Z c/\0<=d/\d<b/\wu c:=by
 have f:Dg (cT (c2 Np (c2 e8 ab aO) aO)) [.pm [.int q,.int r,.int n],.I (.int b),a,.un,.un]=Z (decide (0<q),[.pm [.int q,.int r,.int n],.I (.int b),a,.un,.un]):=rfl;by_cases i:0<q
 .rw[bg i]at f;refine⟨q % b,[.int (q / b),.int r,.int n],[.pm [.int (q / b),.int r,.int n],.I (.int b),a,.I (.int (q % b)),.un],?_,J,iZ _ (by omega),iM _ e,.inr ⟨_,_,_,J⟩⟩;rw[vE];rw[vP f,uR (wa (Jr (uY J J (DU e)) J)),uR (Nv (Jr (uY J J (C' e o)) J) J J)];rfl
 .rw[bq i]at f;rw[uR (show _=Z (x3.nx [.pm [.int q,.int r,.int n],.I (.int b),a,.un,.un]) from by rw[v8 f];rfl)];rw[uR (show _=Z (x3.nx [.pm [.int q,.int r,.int (n+1)],.I (.int b),a,.un,.un]) from J)];have t:B2 7919=γ:=by decide
  have p:B2 48271=γ:=by decide
  rw[uR (wa (Jr (uY (uY (uY (uY J (uY J J (zr (.inl t))) J) J J) J (zr (.inr p))) J (DU (by decide))) J))];generalize u:(r+7919 * (n+1)+1) * 48271 % 2147483647=g;have h:0<=g/\g<2147483647:=by rw[<-u];exact⟨iZ _ (by decide),iM _ (by decide)⟩
  rw[uR (wa (uY (uY J (uY (uY J J (C' (by decide) (by decide))) J J) (zr (.inl (Nw h.1 h.2)))) J (DU (by decide))))];generalize w:g * (g / 1009+69621) % 2147483647=m;have j:0<=m/\m<2147483647:=by rw[<-w];exact⟨iZ _ (by decide),iM _ (by decide)⟩
  rw[vq (uY (uY (uY J (uY (uY J J (C' (by decide) (by decide))) J J) (zr (.inl (Nw j.1 j.2)))) J (DU (by decide))) J (DU e))];exact⟨_,[.int q,.int r,.int (n+1)],_,J,J,iZ _ (by omega),iM _ e,.inr ⟨_,_,_,J⟩⟩
def Vh{j:List L4.D}{b:Int}(h:wu j)(l:0<b)(m:b<1073741824):∃d a,uS j [.int b]=Z (.int d,a)/\0<=d/\d<b/\wu a:=by
 rcases h with ⟨c,rfl⟩|⟨q,r,n,rfl⟩
 .obtain⟨d,a,o,e,p,f,i,q3⟩:=JY l m;refine⟨d,a,OO J ?_ p,f,i,q3⟩;unfold Ai;rw[uR]
  .exact e
  .show ew _ _ _ [.pm [.int c],.I (.int b),.un,.un,.un]=_;rw[vP J,uR (show _=Z (x3.nx [.pm [.int c],.I (.int b),.I (.int c),.un,.un]) from J)];rw[uR (Nv (uY J J (zr (.inr (by split<;>decide)))) J J)];rfl
 .obtain⟨d,a,o,e,p,f,i,q3⟩:=JY l m;refine⟨d,a,OO J ?_ p,f,i,q3⟩;unfold Ai;rw[uR]
  .exact e
  .show ew _ _ _ [.pm [.int q,.int r,.int n],.I (.int b),.un,.un,.un]=_;rw[v8 J];rfl
def dgx{f:List L4.D}{b:Int}{i:Nat}{a:FE}(st:List L4.D->aP)(h:∀f,wY (st f) i=Z f)(o:∀f c,putAt (st f) i c=st c)(m:a (st f)=Z (.int b,st f))(p:wu f)(j:0<b)(l:b<1073741824):∃d c,vY uS i (a1 a) (st f)=Z (.int d,st c)/\0<=d/\d<b/\wu c:=by obtain⟨d,c,e,q,r,q3⟩:=Vh p j l;exact⟨d,c,by rw[<-o f c];exact Uj (h f) (uX m J) (h f) e,q,r,q3⟩
def pk{c:List L4.D}{L:List L4.D}{i:Nat}{a e:FE}(st:List L4.D->aP)(p:∀c,wY (st c) i=Z c)(r:∀c b,putAt (st c) i b=st b)(o:e (st c)=Z (.b4 L,st c))(l:a (st c)=Z (.int L.length,st c))(t:wu c)(j:L≠[])(w:L.length<=1000):∃d∈L,∃b,c2 e8 e (vY uS i (a1 a)) (st c)=Z (d,st b)/\wu b:=by
 have q:0<L.length:=pf.2 j;obtain⟨d,b,h,u,x,q3⟩:=dgx st p r l t (by omega) (by omega);obtain⟨m,rfl⟩:=lI u;have f:m<L.length:=by omega
 exact⟨L[m],gn f,b,uY o h (E7 (bh f)),q3⟩
section
variable{k:Nat}{d6:List Nat}{g:FG}{ft:FT}{fe e:FE}{s:FA}{ρ ρ1 ρ2:aP}{α:Type}
def xH{m:L4.D}(h:e ρ=Z (.U γ,ρ1)):vH (uQ u9 (ax e (ax (cC m) vA))) ρ=Z (.nx ρ1):=xb (uP (uX h J) J)
def xi(c h:α->L4.D)(l:List α)(f:s ρ=Z (l.map c,ρ1))(d:l.length<=1000)(st:∀a∈l,∃ρ2 b,g (c a) (Fh k d6 ρ1)=Z ρ2/\fe ρ2=Z (h a,b)/\ym d6 (b.drop k) ρ1=Z ρ1):
  u7 k d6 s g vX fe ρ=Z (l.map h,ρ1):=(II f (by rw[ag];exact d)).t (XR c h l st)
def zd(d h:α->L4.D)(p:α->Bool)(l:List α)(i:s ρ=Z (l.map d,ρ1))(f:l.length<=1000)
  (st:∀a∈l,∃ρ2 b,g (d a) (Fh k d6 ρ1)=Z ρ2/\ft ρ2=Z (p a,b)/\(p a=γ->∃c,fe b=Z (h a,c)/\ym d6 (c.drop k) ρ1=Z ρ1)/\(p a=δ->ym d6 (b.drop k) ρ1=Z ρ1)):
  u7 k d6 s g ft fe ρ=Z ((l.filter p).map h,ρ1):=(II i (by rw[ag];exact f)).t (Jx d p h l st)
def zA(c:α->L4.D)(l:List α)(f:s ρ=Z (l.map c,ρ1))(d:l.length<=1000)(st:∀a∈l,∃ρ2 b,g (c a) (Fh k d6 ρ1)=Z ρ2/\fe ρ2=Z (.U γ,b)/\ym d6 (b.drop k) ρ1=Z ρ1):
  c1 zM (cL (u7 k d6 s g vX fe)) ρ=Z (.U γ,ρ1):=
 vO (we (xi c (λy=>.U γ) l f d st)) ((Qr l λy=>γ).t (by rw[aQ.2 λy y=>J]))
def Vi(c:α->L4.D)(l:List α)(f:s ρ=Z (l.map c,ρ1))(d:l.length<=1000)(st:∀a∈l,∃ρ2 b,g (c a) (Fh k d6 ρ1)=Z ρ2/\fe ρ2=Z (.U δ,b)/\ym d6 (b.drop k) ρ1=Z ρ1):
  c1 Iu (cL (u7 k d6 s g vX fe)) ρ=Z (.U δ,ρ1):=
 vO (we (xi c (λy=>.U δ) l f d st)) ((Qs l λy=>δ).t (by rw[pJ.2 λy y=>br]))
end
inductive Kd where
 |room|you|plain|fixed|box|lamp
deriving DecidableEq
def Kd.s:Kd->Str
 |.room=>"room" |.you=>"you" |.plain=>"plain" |.fixed=>"fixed" |.box=>"box" |.lamp=>"lamp"
def Kd.pl:Kd->Bool
 |.room=>δ|.you=>δ|_=>γ
def Kd.hd:Kd->Bool
 |.room=>γ|.you=>γ|.box=>γ|_=>δ
def Kd.mk:Kd->Bool
 |.box=>γ|.lamp=>γ|_=>δ
structure Th where
 n:Str
 w:aC
 k:Kd
 s:Option Str
def oS:Option Str->L4.D
 |none=>.J
 |some x=>.str x
def eo(t:Th):L4.D:=.obj 0 ["name", "words", "kind", "start"] [.str t.n,.c4 (t.w.map D.str),.str t.k.s,oS t.s]
def AM(t:Th):uV vg "name" (eo t)=Z (.str t.n):=rfl
def Mp(t:Th):uV xK "words" (eo t)=Z (.c4 (t.w.map D.str)):=rfl
def AN(t:Th):uV vG "kind" (eo t)=Z (.str t.k.s):=rfl
def IM(t:Th):uV wF "start" (eo t)=Z (oS t.s):=rfl
def Gf(a b:Kd):en δ (.str a.s) (.str b.s)=Z (.U (decide (a=b))):=by cases a<;>cases b<;>kernel_rfl
def IP(t:Th):BK [eo t]=Z (.U t.k.hd):=by obtain⟨n,w,k,s⟩:=t;cases k<;>kernel_rfl
def QF(t:Th):BM [eo t]=Z (.U t.k.mk):=by obtain⟨n,w,k,s⟩:=t;cases k<;>kernel_rfl
def Gg(t:Th):AC [eo t]=Z (.U t.k.pl):=by obtain⟨n,w,k,s⟩:=t;cases k<;>kernel_rfl
def X7(t:Th):vS [.str t.k.s,D1]=Z (.U γ):=by obtain⟨n,w,k,s⟩:=t;cases k<;>kernel_rfl
abbrev TD(T:List Th):L4.D:=.b4 (T.map eo)
def Hj(T:List Th)(a:T.length<=1000)(k:Kd):Cc [TD T,.str k.s]=Z (.int (T.filter λt=>decide (t.k=k)).length):=by refine u6 (ρ:=[.I (TD T),.I (.str k.s)]) J ?_;refine vq (vO (we (zd eo eo (λt=>decide (t.k=k)) T J a λt y=>⟨[.I (eo t),.I (.str k.s)],[.I (eo t),.I (.str k.s)],J,vU (uY (vO J (AN t)) J (Gf t.k k)),λy=>⟨_,J,J⟩,λy=>J⟩)) ?_);show Z (D.int _)=_;rw[ag]
def Bu(T:List Th)(a:T.length<=1000):yX [TD T]=Z ((T.filter λt=>t.k.pl).map eo):=by refine As (ρ:=[.I (TD T)]) J ?_;exact xP (zd eo eo (λt=>t.k.pl) T J a λt y=>⟨[.I (eo t)],[.I (eo t)],J,vU (vz J J J J (Gg t)),λy=>⟨_,J,J⟩,λy=>J⟩)
def DQ{a b c:FE}{ρ d:aP}{x y z:Int}(h:a ρ=Z (.int x,ρ))(i:b ρ=Z (.int y,ρ))(j:c ρ=Z (.int z,d))(l:x<=y)(m:y<=z):xW zj zj a b c ρ=Z (.U γ,d):=by
 unfold xW;rw[h];simp only[i];have e:zj (.int x) (.int y)=Z (.U γ):=by show Z (D.U (decide (x<=y)))=_;rw[bg l]
 have f:zj (.int y) (.int z)=Z (.U γ):=by show Z (D.U (decide (y<=z)))=_;rw[bg m]
 simp only[e,j,f]
def QG{a b:FE}{ρ:aP}{x y:Int}(c:a ρ=Z (.int x,ρ))(d:b ρ=Z (.int y,ρ))(e:x<=y):c2 zj a b ρ=Z (.U γ,ρ):=uY c d (by
 show Z (D.U (decide (x<=y)))=_;rw[bg e])
def Iy(T:List Th)(a:T.length<=1000)(d:1<=(T.filter λt=>decide (t.k=.room)).length)(e:(T.filter λt=>decide (t.k=.room)).length<=5)(c:(T.filter λt=>decide (t.k=.you)).length=1)(f:(T.filter λt=>t.k.pl).length<=7):
  AE [TD T]=Z .J:=by
 let b:aP:=[.I (TD T),.I (.U γ)];refine Bi (ρ:=b) J ?_;unfold AD;rw[uR (show _=Z (x3.nx b) from(wa ((vd J).t (zA eo T J a λt y=>⟨_,_,J,J,J⟩))).t J)];rw[uR (xH J)];rw[uR (xH (zA eo T J a λt y=>⟨[.I (eo t)],[.I (eo t)],J,uP (uX (vO J (AN t)) J) (X7 t),J⟩))];rw[uR (xH (DQ J (uP J (Hj T a .room)) J (by omega) (by omega)))];rw[uR (xH (uY (uP J (Hj T a .you)) J (by rw[c];rfl)))];refine xH (QG (x:=(T.filter λt=>t.k.pl).length) (vO (we (uP J (Bu T a))) ?_) J (by omega));show Z (D.int _)=_;rw[ag]
structure Mk where
 n:Str
 st:Int
 mo:Int
def u5(m:Mk):L4.D:=.obj 1 ["name", "start", "most"] [.str m.n,.int m.st,.int m.mo]
def Mk.ok(m:Mk):Prop:=1<=m.mo/\m.mo<=3/\0<=m.st/\m.st<=m.mo
abbrev MD(M:List Mk):L4.D:=.b4 (M.map u5)
def Mq(m:Mk):uV vg "name" (u5 m)=Z (.str m.n):=rfl
def Pe(m:Mk)(h:m.ok):GO [u5 m]=Z (.U γ):=by obtain⟨a,b,c,d⟩:=h;refine u6 (ρ:=[.I (u5 m)]) J ?_;unfold GN;rw[uR (show _=Z (x3.nx [.I (u5 m)]) from J)];exact vq ((vd (DQ J J J a b)).t (DQ J J J c d))
def JZ(M:List Mk)(d:M.length<=4)(h:∀m∈M,m.ok):Bm [MD M]=Z .J:=by
 let a:aP:=[.I (MD M),.I (.U γ)];refine Bi (ρ:=a) J ?_;unfold Bl;have b:v7 [MD M,B9]=Z (.U γ):=by refine u6 (ρ:=[.I (MD M),.I (.int 4)]) J ?_;refine vq ((vd J).t (QG (x:=M.length) ?_ J (by omega)));refine vO J ?_;show Z (D.int _)=_;rw[ag]
 rw[uR (show _=Z (x3.nx a) from(wa ((vd (uP J b)).t (zA u5 M J (by omega) λm c=>⟨[.I (u5 m)],[.I (u5 m)],J,uP J (Pe m (h m c)),J⟩))).t J)];exact xH J
def X':aC:=["hall", "x", "cellar", "loft", "porch"]
def ri:List (Str×aC):=[("chest", ["old", "chest"]),("lamp", ["lamp", "red"]),("stone", ["red", "stone"]),("key", ["key"]),("itch", ["old", "red", "rag"]),("heretic", ["stone", "man"]),("others", ["book", "of", "old"])]
def mkL:aC:=["gate", "luck", "tide", "i"]
def nmL:aC:=X'++("me" : Str)::ri.map cF++mkL
def Nm(x:Str):Prop:=x∈nmL
def isT:Option L4.D->Bool
 |some (.U b)=>b
 |_=>δ
def CA{o:Option L4.D}(h:isT o=γ):o=Z (.U γ):=by
 unfold isT at h;split at h
 .rw[h]
 .cases h
def isF:Option L4.D->Bool
 |some (.U b)=>!b
 |_=>δ
def Pf{o:Option L4.D}(h:isF o=γ):o=Z (.U δ):=by
 unfold isF at h;split at h
 .rw[fH]at h;rw[h]
 .cases h
def Pg{x:Str}(h:Nm x):yb [.str x]=Z (.U γ):=CA (aQ.1 (show (nmL.all λx=>isT (yb [.str x]))=γ by kernel_rfl) x h)
def E1{l:aC}(h:l.Nodup)(a:l.length<=1000):xE [.b4 (l.map D.str)]=Z (.U γ):=by
 refine u6 (ρ:=[.I (.b4 (l.map D.str))]) J ?_;refine vq (uY (y:=.int l.length) (vO J (XH (NF h a))) (vO J ?_) ?_)
 .show Z (D.int _)=_;rw[ag]
 .rw[zC];simp
def J0(T:List Th)(M:List Mk)(hT:T.length<=400)(hM:M.length<=400)(h:∀x∈T.map Th.n++M.map Mk.n,Nm x)(l:(T.map Th.n++M.map Mk.n).Nodup):Bo [TD T,MD M]=Z .J:=by
 have c:(T.map Th.n++M.map Mk.n).length<=1000:=by rw[aE,ag,ag];omega
 let a:aP:=[.I (TD T),.I (MD M),.un];let b:aP:=[.I (TD T),.I (MD M),.I (.b4 ((T.map Th.n++M.map Mk.n).map D.str))];refine Bi (ρ:=b) J ?_;unfold Bn;have d:u7 1 [] (iL ab) (gN 0) vX (c1 (uV vg "name") ab) a=Z (T.map λt=>D.str t.n,a):=xi eo (λt=>D.str t.n) T J (by omega) λt y=>⟨_,_,J,vO J (AM t),J⟩;have e:u7 1 [] (iL ai) (gN 0) vX (c1 (uV vg "name") ab) a=Z (M.map λt=>D.str t.n,a):=xi u5 (λt=>D.str t.n) M J (by omega) λt y=>⟨_,_,J,vO J (Mq t),J⟩;have f:=wa (i:=2) (we (wK (we d) (we e) (by rw[ag,ag];omega)));refine(uR (ρ':=b) (f.t (by
  have:(T.map λt=>D.str t.n)++(M.map λt=>D.str t.n)=(T.map Th.n++M.map Mk.n).map D.str:=by rw[bu,aW,aW];rfl
  rw[this];rfl))).t ?_
 rw[uR (xH (zA D.str (T.map Th.n++M.map Mk.n) J c λx j=>⟨_,_,J,uP J (Pg (h x j)),J⟩))];exact xH (uP J (E1 l c))
def i0(T:List Th):aC:=(T.filter λt=>decide (t.k=.room)).map Th.n
def l0(T:List Th):aC:=(T.filter λt=>t.k.hd).map Th.n
abbrev kH:=(cC (.str "room"))
def NV{ρ:aP}(T:List Th)(b:T.length<=1000){i:Nat}(a:cV i ρ=Z (TD T,ρ)):u7 1 [] (iL (cV i)) (gN 0) (cT (c2 (en δ) (c1 (uV vG "kind") ab) kH)) (c1 (uV vg "name") ab) ρ=Z ((i0 T).map D.str,ρ):=by
 have c:iL (cV i) ρ=Z (T.map eo,ρ):=by unfold iL;rw[a]
 have:=zd (k:=1) (d6:=[]) (g:=gN 0) (ft:=cT (c2 (en δ) (c1 (uV vG "kind") ab) kH)) (fe:=c1 (uV vg "name") ab) eo (λt=>D.str t.n) (λt=>decide (t.k=.room)) T c b λt y=>⟨[.I (eo t)],[.I (eo t)],J,vU (uY (vO J (AN t)) J (Gf t.k .room)),λy=>⟨_,vO J (AM t),J⟩,λy=>J⟩
 rw[this];unfold i0;rw[aW];rfl
def Ph{ρ:aP}(T:List Th)(b:T.length<=1000){i:Nat}(a:cV i ρ=Z (TD T,ρ)):u7 1 [] (iL (cV i)) (gN 0) (cT (vh v5 "can_hold" ab vA)) (c1 (uV vg "name") ab) ρ=Z ((l0 T).map D.str,ρ):=by
 have c:iL (cV i) ρ=Z (T.map eo,ρ):=by unfold iL;rw[a]
 have:=zd (k:=1) (d6:=[]) (g:=gN 0) (ft:=cT (vh v5 "can_hold" ab vA)) (fe:=c1 (uV vg "name") ab) eo (λt=>D.str t.n) (λt=>t.k.hd) T c b λt y=>⟨[.I (eo t)],[.I (eo t)],J,vU (vz J J J J (IP t)),λy=>⟨_,vO J (AM t),J⟩,λy=>J⟩
 rw[this];unfold l0;rw[aW];rfl
def Ao{x:Str}{l:aC}(h:x∈l):vS [.str x,.b4 (l.map D.str)]=Z (.U γ):=by refine u6 (ρ:=[.I (.str x),.I (.b4 (l.map D.str))]) J ?_;refine vq ((vd J).t (uY J J ?_));rw[wU];simp[h]
def KC(a b:aC)(d:a.length<=1000)(f:a.Nodup)(h:∀x∈a,x∈b):Ce [.b4 (a.map D.str),.b4 (b.map D.str)]=Z .J:=by let i:aP:=[.I (.b4 (a.map D.str)),.I (.b4 (b.map D.str)),.un];let c:aP:=[.I (.b4 (a.map D.str)),.I (.b4 (b.map D.str)),.I (.U γ)];refine Bi (ρ:=c) J ?_;unfold Cd;rw[uR (show _=Z (x3.nx c) from(wa ((vd J).t ((vd (zA D.str a J d λx e=>⟨[.I (.str x),.I (.b4 (b.map D.str))],[.I (.str x),.I (.b4 (b.map D.str))],J,uP J (Ao (h x e)),J⟩)).t (uP J (E1 f d))))).t J)];exact xH J
def D5(T:List Th)(t:Th):Prop:=match t.k,t.s with
 |.room,O=>True
 |.room,Z _=>False
 |_,O=>False
 |.you,Z x=>x∈i0 T
 |_,Z x=>x∈l0 T
def NW(T:List Th)(b:T.length<=1000)(t:Th)(h:D5 T t):EJ [TD T,eo t]=Z (.U γ):=by
 refine u6 (ρ:=[.I (TD T),.I (eo t)]) J ?_;unfold EI;obtain⟨n,w,k,s⟩:=t;have els:∀k:Kd,k≠.room->k≠.you->∀x,x∈l0 T->(bt (ew (cT (c2 (en δ) (c1 (uV vG "kind") ai) kH)) (uU (c2 zk (c1 (uV wF "start") ai) aK)) u0)
   (bt (ew (cT (c2 (en δ) (c1 (uV vG "kind") ai) (cC (.str "you")))) (uU (uQ vS (ax (c1 (uV wF "start") ai) (ax (cL (u7 1 [] (iL ab) (gN 0) (cT (c2 (en δ) (c1 (uV vG "kind") ab) kH)) (c1 (uV vg "name") ab))) vA)))) u0)
   (uU (uQ vS (ax (c1 (uV wF "start") ai) (ax (cL (u7 1 [] (iL ab) (gN 0) (cT (vh v5 "can_hold" ab vA)) (c1 (uV vg "name") ab))) vA)))))) [.I (TD T),.I (eo ⟨n,w,k,Z x⟩)]=Z (.rt (.U γ) [.I (TD T),.I (eo ⟨n,w,k,Z x⟩)]):=λk c d x e=>by
  let a:aP:=[.I (TD T),.I (eo ⟨n,w,k,Z x⟩)];rw[uR (show _=Z (x3.nx a) from(v8 (vU (uY (vO J (AN _)) J ((Gf k .room).t (by rw[bq c]))))))];rw[uR (show _=Z (x3.nx a) from(v8 (vU (uY (vO J (AN _)) J ((Gf k .you).t (by rw[bq d]))))))];exact vq (uP (uX (vO J (IM _)) (uX (we (Ph T b J)) J)) (Ao e))
 cases k with
 |room=>
  cases s with
  |none=>rfl
  |some x=>exact h.elim
 |you=>
  cases s with
  |none=>exact h.elim
  |some x=>let a:aP:=[.I (TD T),.I (eo ⟨n,w,.you,Z x⟩)];rw[uR (show _=Z (x3.nx a) from J)];refine vE ((vP J).t ?_);exact vq (uP (uX (vO J (IM _)) (uX (we (NV T b J)) J)) (Ao h))
 |plain=>cases s with
  |none=>exact h.elim
  |some x=>exact els .plain (by decide) (by decide) x h
 |fixed=>cases s with
  |none=>exact h.elim
  |some x=>exact els .fixed (by decide) (by decide) x h
 |box=>cases s with
  |none=>exact h.elim
  |some x=>exact els .box (by decide) (by decide) x h
 |lamp=>cases s with
  |none=>exact h.elim
  |some x=>exact els .lamp (by decide) (by decide) x h
def kS(x:Str):dr:=Sum.inr x
def NX{i:Nat}{fk fv:FE}{a:aP}{b:List dr}{c:List L4.D}{x:Str}{d:L4.D}(f:fv a=Z (d,a))(h:a[i]?=Z (.dk b c))(j:fk a=Z (.str x,a))(p:kS x∉b)(o:b.length<1000)(l:c.length=b.length):
  yQ i fk fv a=Z (.nx (a.set i (.dk (b++[kS x]) (c++[d])))):=by
 have m:Ku b (kS x)=δ:=by unfold Ku;rw[jS];intro z;obtain⟨y,q,e⟩:=dH.1 z;exact p (by rw[<-bp e];exact q)
 unfold yQ;rw[f];simp only[h,j];rw[show BD (.str x)=Z (kS x) from J];simp only;rw[aj o,aj l,m];rfl
section
variable{α:Type}{g:FG}{i:Nat}{fk fv:FE}
theorem Ap(m:α->L4.D)(kf:α->Str)(j:α->L4.D)(st:List dr->List L4.D->Sl->aP)
  (r:∀(a:α) (c:List dr) (d:List L4.D) (s:Sl),∃b,g (m a) (st c d s)=Z b/\fv b=Z (j a,b)/\b[i]?=Z (.dk c d)/\fk b=Z (.str (kf a),b)/\∀f e,∃h,b.set i (.dk f e)=st f e h):
  ∀(l:List α) (c:List dr) (d:List L4.D) (s:Sl),(c++l.map λa=>kS (kf a)).Nodup->c.length+l.length<=1000->d.length=c.length->
   ∃h,fh g (yQ i fk fv) (l.map m) (st c d s)=Z (.nx (st (c++l.map λa=>kS (kf a)) (d++l.map j) h))
 |[],c,d,s,_,_,_=>⟨s,by rw[fO,fO,fO,bT,bT];rfl⟩
 |a::l,c,d,s,o,C,q=>by
  obtain⟨b,t,u,w,x,y⟩:=r a c d s;obtain⟨F,A⟩:=y (c++[kS (kf a)]) (d++[j a]);rw[aN]at C;have p:((c++[kS (kf a)])++l.map λa=>kS (kf a)).Nodup:=by rw[cc];exact o
  have E:kS (kf a)∉c:=λz=>by rw[bM]at o;exact o.2.2 _ z _ (by rw[aI];exact ba) J
  obtain⟨h,B⟩:=Ap m kf j st r l (c++[kS (kf a)]) (d++[j a]) F p (by rw[aE,di];omega) (by rw[aE,aE,q,di,di]);refine⟨h,?_⟩;rw[aI];unfold fh;rw[t];simp only[NX u w x E (by omega) q,A];rw[B,aI,aI,cc,cc];rfl
end
def nK(T:List Th):List dr:=T.map λt=>kS t.n
def Ms{a b:Str}(h:kS a=kS b):a=b:=hU h
def Vj{T:List Th}(h:(T.map Th.n).Nodup):(nK T).Nodup:=by have:=zt h;rw[aW]at this;exact this
def Gh{T:List Th}(h:(T.map Th.n).Nodup)(a:Th->L4.D){t:Th}(b:t∈T):wG (nK T) (T.map a) (kS t.n)=Z (a t):=by refine zN (Vj h) ?_;unfold nK;rw[gw];exact bQ b
def Mu(T:List Th)(r:Str->Nat):Prop:=∀t∈T,r t.n<T.length/\∀p,t.s=Z p->r p<r t.n/\∃u∈T,u.n=p
def sx(T:List Th):L4.D:=.Y (nK T) (T.map λt=>oS t.s)
def Vk(T:List Th)(M:T.length<=1000)(B:(T.map Th.n).Nodup)(r:Str->Nat)(w:Mu T r)(t:Th)(z:t∈T):xF [sx T,.str t.n]=Z (.U γ):=by
 have loop:∀(m:Nat) (l:List L4.D),l.length=m->∀(a:Option Str) (s:Sl),(∀x,a=Z x->(∃u∈T,u.n=x)/\r x<m)->
   (∃b,fh (gN 3) (bt (ew (cT (c2 zk ao aK)) (uU cI) u0) (vp 2 (c2 Ef ab ao))) l [.I (sx T),.I (.str t.n),.I (oS a),s]=Z (.rt (.U γ) b))\/
   (∃j,fh (gN 3) (bt (ew (cT (c2 zk ao aK)) (uU cI) u0) (vp 2 (c2 Ef ab ao))) l [.I (sx T),.I (.str t.n),.I (oS a),s]=Z (.nx [.I (sx T),.I (.str t.n),.I .J,j])):=by
  intro m
  induction m with
  |zero=>
   intro l h a s f;cases l with
   |cons d l=>cases h
   |nil=>
    cases a with
    |none=>exact .inr ⟨s,J⟩
    |some x=>exact ar (f x J).2 (Nat.not_lt_zero _)
  |succ m G=>
   intro l h a s f;cases l with
   |nil=>cases h
   |cons d l=>
    cases a with
    |none=>refine .inl ⟨[.I (sx T),.I (.str t.n),.I .J,.I d],?_⟩;unfold fh;rw[show gN 3 d [.I (sx T),.I (.str t.n),.I (oS O),s]=Z [.I (sx T),.I (.str t.n),.I .J,.I d] from J];rfl
    |some x=>
     obtain⟨⟨u,A,rfl⟩,i⟩:=f x J;have e:bt (ew (cT (c2 zk ao aK)) (uU cI) u0) (vp 2 (c2 Ef ab ao)) [.I (sx T),.I (.str t.n),.I (.str u.n),.I d]=Z (.nx [.I (sx T),.I (.str t.n),.I (oS u.s),.I d]):=by refine(uR J).t ?_;exact(wa (uY J J (Gh B (λt=>oS t.s) A))).t J
     have key:=G l (by simpa using h) u.s (.I d) λy F=>by obtain⟨C,c⟩:=w u A;obtain⟨I,E⟩:=c y F;exact⟨E,by omega⟩
     unfold fh;rw[show gN 3 d [.I (sx T),.I (.str t.n),.I (oS (Z u.n)),s]=Z [.I (sx T),.I (.str t.n),.I (.str u.n),.I d] from J];simp only[e];exact key
 obtain⟨C,c⟩:=w t z;have H:=loop T.length (Jk 0 T.length) (by unfold Jk;simp) t.s .un λx i=>⟨(c x i).2,by have:=(c x i).1;omega⟩;have o:vp 2 (c2 Ef ab ai) [.I (sx T),.I (.str t.n),.un,.un]=Z (.nx [.I (sx T),.I (.str t.n),.I (oS t.s),.un]):=(wa (uY J J (Gh B (λt=>oS t.s) z))).t J;have p:K' (c1 xM ab) [.I (sx T),.I (.str t.n),.I (oS t.s),.un]=Z (Jk 0 T.length,[.I (sx T),.I (.str t.n),.I (oS t.s),.un]):=by unfold K';rw[show c1 xM ab [.I (sx T),.I (.str t.n),.I (oS t.s),.un]=Z (.int T.length,[.I (sx T),.I (.str t.n),.I (oS t.s),.un]) from vO J (by show Z (D.int _)=_;unfold nK;rw[ag])];simp only;rw[aj (by omega),gj]
 rcases H with ⟨b,q⟩|⟨j,q⟩
 .refine u6 (ρ:=b) J ?_;refine(uR o).t (vE ((xX p).t q))
 .refine u6 (ρ:=[.I (sx T),.I (.str t.n),.I .J,j]) J ?_;refine(uR o).t ((uR ((xX p).t q)))
def IA(T:List Th)(u:T.length<=900)(f:(T.map Th.n).Nodup)(r:Str->Nat)(l:Mu T r)(m:∀t∈T,D5 T t):AG [TD T]=Z .J:=by
 obtain⟨b,j⟩:=Ap (g:=gN 2) (i:=1) (fk:=c1 (uV vg "name") ao) (fv:=c1 (uV wF "start") ao) eo Th.n (λt=>oS t.s) (λe c s=>[.I (TD T),.dk e c,s])
  (λt e c s=>⟨[.I (TD T),.dk e c,.I (eo t)],J,vO J (IM t),J,vO J (AM t),λo h=>⟨_,J⟩⟩) T [] [] .un (by rw[cg];exact Vj f) (by simp;omega) J
 refine Bi (ρ:=[.I (TD T),.I (sx T),b]) J ?_;unfold AF;refine(uR (xH (zA eo T J (by omega) λt d=>⟨[.I (eo t),.I (TD T)],[.I (eo t),.I (TD T)],J,uP J (NW T (by omega) t (m t d)),J⟩))).t ?_;refine(uR J).t ?_;refine(uR ((xX J).t j)).t ?_;have src:iD (vl 1) [.I (TD T),.dk ([]++T.map λa=>kS a.n) ([]++T.map λt=>oS t.s),b]=Z ((T.map λt=>D.str t.n),[.I (TD T),.I (sx T),b]):=by rw[cg,cg];unfold iD;rw[show vl 1 [.I (TD T),.dk (T.map λa=>kS a.n) (T.map λt=>oS t.s),b]=Z (sx T,[.I (TD T),.I (sx T),b]) from J];show (if (nK T).length=(T.map λt=>oS t.s).length then Z ((nK T).map keyV,_)else O)=_;unfold nK;rw[aj (by rw[ag,ag]),aW];rfl
 exact xH (zA (λt:Th=>D.str t.n) T src (by omega) λt d=>⟨[.I (.str t.n),.I (sx T)],[.I (.str t.n),.I (sx T)],J,uP J (Vk T (by omega) f r l t d),J⟩)
def NY(l:List Th)(r:Th):Prop:=(r.k=.room/\r.s=O)\/(r.k=.you/\∃u∈l,r.s=Z u.n/\u.k=.room)\/(r.k.pl=γ/\∃u∈l,r.s=Z u.n/\u.k.hd=γ)
inductive Ord:List Th->Prop
 |nil:Ord []
 |snoc {l:List Th} {r:Th} (h:Ord l) (h':NY l r):Ord (l++[r])
def NY.mono{l e:List Th}{r:Th}(h:NY l r)(d:∀u∈l,u∈e):NY e r:=by
 rcases h with h|⟨a,u,b,c⟩|⟨a,u,b,c⟩
 .exact .inl h
 .exact .inr (.inl ⟨a,u,d u b,c⟩)
 .exact .inr (.inr ⟨a,u,d u b,c⟩)
def Ord.all{l:List Th}(h:Ord l):∀r∈l,NY l r:=by
 induction h with
 |nil=>exact λr hr=>(cw hr).elim
 |snoc h b c=>
  intro r hr;rcases aV.1 hr with hr|hr
  .exact(c r hr).mono λu a=>bI _ a
  .rw[bj]at hr;subst hr;exact b.mono λu a=>bI _ a
def NY.start{l:List Th}{r:Th}(h:NY l r){p:Str}(a:r.s=Z p):∃u∈l,u.n=p:=by
 rcases h with ⟨_,h⟩|⟨_,u,b,c,_⟩|⟨_,u,b,c,_⟩
 .rw[h]at a;cases a
 .rw[c]at a;cases a;exact⟨u,b,J⟩
 .rw[c]at a;cases a;exact⟨u,b,J⟩
def Ord.rank{l:List Th}(h:Ord l):(l.map Th.n).Nodup->∃c:Str->Nat,∀t∈l,c t.n<l.length/\∀p,t.s=Z p->c p<c t.n/\∃u∈l,u.n=p:=by
 induction h with
 |nil=>exact λy=>⟨λy=>0,λt a=>(cw a).elim⟩
 |@snoc l r h j q=>
  intro e;rw[bu,bM]at e;obtain⟨c,i⟩:=q e.1;have f:∀u∈l,u.n≠r.n:=λu b z=>e.2.2 _ (bQ b) _ (by simp) z;refine⟨λx=>if x=r.n then l.length else c x,λt a=>?_⟩;rw[aE,di];dsimp only;rcases aV.1 a with a|a
  .obtain⟨w,m⟩:=i t a;rw[ak (f t a)];refine⟨by omega,λp d=>?_⟩;obtain⟨o,u,b,rfl⟩:=m p d;rw[ak (f u b)];exact⟨o,u,bI _ b,J⟩
  .rw[bj]at a;subst a;rw[aj J];refine⟨by omega,λp d=>?_⟩;obtain⟨u,b,rfl⟩:=j.start d;rw[ak (f u b)];exact⟨(i u b).1,u,bI _ b,J⟩
def J1{a:List L4.D}(k:Nat)(h:k<=a.length):mq a O (Z (k:Int))=a.take k:=by unfold mq;rw[HT.MU,HT.PN,qI h,qV,Nat.sub_zero]
def Vl{a:List L4.D}(k:Nat)(h:k<=a.length):mq a (Z (k:Int)) O=a.drop k:=by unfold mq;rw[HT.MU,HT.PN,qI h,gO (by rw[fI];omega)]
def wdL:List (Str×aC):=X'.map (λx:Str=>(x,([x,"place"]:aC)))++(("me", ["me", "self"]):Str×aC)::ri
def Th.nw(t:Th):Str×aC:=(t.n,t.w)
def D6(t:Th):Prop:=t.nw∈wdL/\(t.k.pl=γ->t.nw∈ri)
def Mx{t:Th}(h:D6 t):A3 [.c4 (t.w.map D.str)]=Z (.U γ):=CA (aQ.1 (show (wdL.all λq=>isT (A3 [.c4 (q.2.map D.str)]))=γ by kernel_rfl) t.nw h.1)
def Pi(t u:Th)(a:t.nw∈ri)(b:u.nw∈ri)(hne:u.n≠t.n):BN [.c4 (u.w.map D.str),.c4 (t.w.map D.str)]=Z (.U δ):=by
 have h:=aQ.1 (aQ.1 (show (ri.all λp=>ri.all λq=>decide (q.1=p.1)||isF (BN [.c4 (q.2.map D.str),.c4 (p.2.map D.str)]))=γ by kernel_rfl) t.nw a) u.nw b;rw[jZ]at h;rcases h with h|h
 .exact ar (bp h) hne
 .exact Pf h
def KD(P:List Th)(d:P.length<=900)(h:∀t∈P,t.nw∈ri)(t:Th)(f:t.nw∈ri):z9 [TD P,eo t]=Z (.U γ):=by
 let b:=P.filter λu=>!decide (u.n=t.n);let a:aP:=[.I (TD P),.I (eo t),.I (TD b)];have hO:b.length<=900:=bC (cB _ _) d;refine u6 (ρ:=a) J ?_;unfold z8;refine(uR (ρ':=a) ((wa (we (zd eo eo (λu=>!decide (u.n=t.n)) P J (by omega) λu y=>⟨[.I (eo u),.I (eo t)],[.I (eo u),.I (eo t)],J,vU (uY (vO J (AM u)) (vO J (AM t)) (wX γ u.n t.n)),λy=>⟨_,J,J⟩,λy=>J⟩))).t J)).t ?_;have e:c1 Iu (cL (u7 1 [1] (iL ao) (gN 0) vX (uQ BN (ax (c1 (uV xK "words") ab) (ax (c1 (uV xK "words") ai) vA))))) a=Z (.U δ,a):=
  Vi eo b J (by omega) λu c=>⟨[.I (eo u),.I (eo t)],[.I (eo u),.I (eo t)],J,uP (uX (vO J (Mp u)) (uX (vO J (Mp t)) J)) (Pi t u f (h u (aS.1 c).1) (by simpa using (aS.1 c).2)),J⟩
 refine vq ?_;unfold Gu;rw[e];rfl
def J2(T:List Th)(d:T.length<=900)(b:∀t∈T,D6 t):xq [TD T]=Z .J:=by let P:=T.filter λt=>t.k.pl;have hP:P.length<=900:=bC (cB _ _) d;have hwP:∀t∈P,t.nw∈ri:=λt a=>(b t (aS.1 a).1).2 (aS.1 a).2;let c:aP:=[.I (TD T),.I (TD P)];refine Bi (ρ:=c) J ?_;unfold xp;refine(uR (xH (zA eo T J (by omega) λt a=>⟨[.I (eo t)],[.I (eo t)],J,uP (uX (vO J (Mp t)) J) (Mx (b t a)),J⟩))).t ?_;refine(uR ((wa (we (uP J (Bu T (by omega))))))).t ?_;exact xH (zA eo P J (by omega) λt a=>⟨[.I (eo t),.I (TD P)],[.I (eo t),.I (TD P)],J,uP J (KD P hP hwP t (hwP t a)),J⟩)
def My{e:FE}{b:Bool}{ρ a:aP}(h:e ρ=Z (.U b,a)):Gu e ρ=Z (.U !b,a):=by unfold Gu;rw[h]
def J3{l m:aC}{d:L4.D}(hd:d=.b4 (m.map D.str)\/d=.c4 (m.map D.str))(c:l.length<=900)(h:∀x∈l,x∉m):zR [.b4 (l.map D.str),d]=Z (.U γ):=by
 let a:aP:=[.I (.b4 (l.map D.str)),.I d];refine u6 (ρ:=a) J ?_;have e:c1 Iu (cL (u7 1 [1] (iL ab) (gN 0) vX (c2 (mn δ) ab ai))) a=Z (.U δ,a):=Vi D.str l J (by omega) λx b=>⟨[.I (.str x),.I d],[.I (.str x),.I d],J,uY J J (by
  rcases hd with rfl|rfl
  .rw[wU];simp[h x b]
  .rw[UN];simp[h x b]),J⟩
 exact vq (My e)
structure Vb where
 n:Str
 o:aC
 f:Str
 j:Option Str
def kh(v:Vb):L4.D:=.obj 2 ["name", "others", "form", "joining"] [.str v.n,.c4 (v.o.map D.str),.str v.f,oS v.j]
def v6:List Vb:=[⟨"push", ["shove", "p"],"one", O⟩,⟨"tie", [],"two", Z "to"⟩,⟨"sing", ["hum"],"alone", O⟩,⟨"swim", ["dive"],"way", O⟩,⟨"takes", [],"two", Z "in"⟩,⟨"w", [],"alone", O⟩]
def v9:List Vb:=[⟨"take", [],"one", O⟩,⟨"drop", [],"one", O⟩,⟨"open", [],"one", O⟩,⟨"shut", [],"one", O⟩,⟨"light", [],"one", O⟩,⟨"douse", [],"one", O⟩,⟨"put", [],"two", Z "in"⟩,⟨"go", [],"way", O⟩,⟨"wait", [],"alone", O⟩]
abbrev VD(V:List Vb):L4.D:=.b4 (V.map kh)
def vL(t n:Nat):List Vb:=(v6.drop t++v6.take t).take n
def Vm:y4 []=Z (v9.map kh):=by kernel_rfl
def Vb.ws(v:Vb):aC:=v.n::v.o
def vW:aC:=(v6++v9).flatMap Vb.ws
def bW:aC:=["to", "in", "north", "up", "outside"]
def V42(p:List Vb->Bool):Bool:=(bf 6).all λt=>(bf 7).all λn=>p (vL t n)
def v42{p:List Vb->Bool}(h:V42 p=γ){t n:Nat}(b:t<6)(a:n<7):p (vL t n)=γ:=aQ.1 (aQ.1 h t (bN.2 b)) n (bN.2 a)
def Mz{t n:Nat}{v:Vb}(h:v∈vL t n):v∈v6:=by
 rcases aV.1 (gR h)with h|h
 .exact oY h
 .exact gR h
def J4(t n:Nat):(vL t n).length<=6:=by unfold vL;exact bC (List.length_take_le' _ _) (by rw[aE,kj,<- aE,oU];decide)
def isN:Option L4.D->Bool
 |some .J=>γ
 |_=>δ
def acA{o:Option L4.D}(h:isN o=γ):o=Z .J:=by
 unfold isN at h;split at h
 .rfl
 .cases h
def J5{t n:Nat}(b:t<6)(a:n<7):zD [VD (vL t n)]=Z .J:=acA (v42 (p:=λV=>isN (zD [VD V])) (by kernel_rfl) b a)
def QH{t n:Nat}(b:t<6)(a:n<7):((vL t n++v9).flatMap Vb.ws).Nodup:=bp (v42 (p:=λV=>decide ((V++v9).flatMap Vb.ws).Nodup) (by kernel_rfl) b a)
def vws{V:List Vb}(h:∀v∈V,v∈v6):∀x∈(V++v9).flatMap Vb.ws,x∈vW:=λx b=>by
 obtain⟨v,a,b⟩:=dX.1 b;refine dX.2 ⟨v,?_,b⟩;rcases aV.1 a with a|a
 .exact bI _ (h v a)
 .exact bB _ a
structure Wy where
 r:Str
 w:Str
 g:Str
 m:Option Str
def tp(w:Wy):L4.D:=.c4 [.str w.r,.str w.w,.str w.g,oS w.m]
abbrev WD(W:List Wy):L4.D:=.b4 (W.map tp)
def pw(T:List Th)(M:List Mk):aC:=(T.filter λt=>t.k.mk).map Th.n++M.map Mk.n
structure Sv(T:List Th)(M:List Mk)(w:Wy):Prop where
 hr:w.r∈i0 T
 hw:w.w∈(["north", "up", "outside"]:aC)
 hg:w.g∈i0 T
 hm:∀x,w.m=Z x->x∈pw T M
def QI(l:List L4.D)(n:Int)(h:(l.length:Int)<=n):v7 [.b4 l,.int n]=Z (.U γ):=by
 have e:v7 [.b4 l,.int n]=Z (.U (decide ((l.length:Int)<=n))):=by kernel_rfl
 rw[e,bg h]
def Gi{e b:FE}{ρ a:aP}(c:e ρ=Z (.U δ,a)):J' e b ρ=b a:=by unfold J';rw[c]
def MA{e b:FE}{ρ a:aP}(c:e ρ=Z (.U γ,a)):J' e b ρ=Z (.U γ,a):=by unfold J';rw[c]
def Sw{T:List Th}{M:List Mk}{w:Wy}(h:Sv T M w):JN [tp w,.b4 ((i0 T).map D.str),.b4 ((pw T M).map D.str)]=Z (.U γ):=by
 let R:L4.D:=.b4 ((i0 T).map D.str);let K:L4.D:=.b4 ((pw T M).map D.str);let a:aP:=[.I (tp w),.I R,.I K,.un];let d:aP:=[.I (tp w),.I R,.I K,.I (.U γ)];refine u6 (ρ:=d) J ?_;unfold JM;refine(uR J).t ?_;have b:J' (c2 zk (c2 e8 ab fV) aK) (uQ vS sF) a=Z (.U γ,a):=by
  obtain⟨r,x,g,m⟩:=w;cases m with
  |none=>rfl
  |some y=>exact(Gi J).t (uP J (Ao (h.hm y J)))
 refine(uR ((wa b))).t (vq ?_);have c:yc [.str w.w]=Z (.U γ):=CA (aQ.1 (show ((["north", "up", "outside"]:aC).all λx=>isT (yc [.str x]))=γ by kernel_rfl) w.w h.hw);exact(vd (uP J (Ao h.hr))).t ((vd (uP J c)).t ((vd (uP J (Ao h.hg))).t J))
theorem QJ:∀W:List Wy,zp (W.map λw=>D.c4 [.str w.r,.str w.w])=Z (W.map λw=>[w.r,w.w])
 |[]=>rfl
 |w::W=>by rw[aI];unfold zp;rw[QJ W];rfl
def KE{T:List Th}{M:List Mk}{W:List Wy}(b:W.length<=8)(h:∀w∈W,Sv T M w)(d:(W.map λw=>[w.r,w.w]).Nodup):Cg [WD W,.b4 ((i0 T).map D.str),.b4 ((pw T M).map D.str)]=Z .J:=by
 let R:L4.D:=.b4 ((i0 T).map D.str);let K:L4.D:=.b4 ((pw T M).map D.str);let e:aP:=[.I (WD W),.I R,.I K,.un];let f:aP:=[.I (WD W),.I R,.I K,.I (.U γ)];refine Bi (ρ:=f) J ?_;unfold Cf;refine(uR ((wa ((vd (uP J (QI _ _ (by rw[ag];omega)))).t (zA tp W J (by omega) λw c=>⟨[.I (tp w),.I R,.I K],[.I (tp w),.I R,.I K],J,uP J (Sw (h w c)),J⟩))))).t ?_;refine(uR (xH J)).t (xH (uP (uX (we (xi tp (λw=>.c4 [.str w.r,.str w.w]) W J (by omega) λw v=>⟨[.I (tp w)],[.I (tp w)],J,J,J⟩)) J) ?_));refine u6 J (vq (uY (x:=.int W.length) (y:=.int W.length) (vO J ?_) (vO J ?_) ?_))
 .have a:xQ (W.map λw=>D.c4 [.str w.r,.str w.w])=O\/xQ (W.map λw=>D.c4 [.str w.r,.str w.w])=Z (.int W.length):=by
   cases W with
   |nil=>exact .inr J
   |cons w W=>exact .inl J
  show (match xQ (W.map λw:Wy=>D.c4 [.str w.r,.str w.w])with|some r=>Z r|none=>EG (W.map λw:Wy=>D.c4 [.str w.r,.str w.w]))=_;rcases a with a|a
  .rw[a];show EG _=_;unfold EG;rw[QJ];dsimp only;rw[aj ⟨d,by rw[ag];exact b⟩,ag]
  .rw[a]
 .show Z (D.int _)=_;rw[ag]
 .rw[zC];simp
def acB{t:Th}(h:t.nw∈ri):t.w.length<=3:=bp (aQ.1 (show (ri.all λq=>decide (q.2.length<=3))=γ by kernel_rfl) t.nw h)
theorem J6{a b c f h i:Sl}:∀(P:List Th) (acc:aC) (s:Sl),acc.length+3 * P.length<=900->(∀t∈P,t.nw∈ri)->
  ∃j,fh (gN 4) (vH (Dk 3 (c1 (uV xK "words") aH))) (P.map eo) [a,b,c,.ls (acc.map D.str),s,f,h,i]=Z (.nx [a,b,c,.ls ((acc++P.flatMap Th.w).map D.str),j,f,h,i])
 |[],acc,s,_,_=>⟨s,by simp;rfl⟩
 |t::P,acc,s,o,l=>by
  have q:=acB (l t ba);rw[aN]at o;obtain⟨j,e⟩:=J6 P (acc++t.w) (.I (eo t)) (by rw[aE];omega) λu p=>l u (bc _ p);refine⟨j,?_⟩;rw[aI];unfold fh;have m:vH (Dk 3 (c1 (uV xK "words") aH)) [a,b,c,.ls (acc.map D.str),.I (eo t),f,h,i]=Z (.nx [a,b,c,.ls ((acc++t.w).map D.str),.I (eo t),f,h,i]):=by refine(xb (d:=.J) ?_);unfold Dk;show (if (acc.map D.str).length+(t.w.map D.str).length<=1000 then Z (D.J,[a,b,c,.ls (acc.map D.str++t.w.map D.str),.I (eo t),f,h,i])else O)=_;rw[aj (by rw[ag,ag];omega),bu]
  rw[show gN 4 (eo t) [a,b,c,.ls (acc.map D.str),s,f,h,i]=Z [a,b,c,.ls (acc.map D.str),.I (eo t),f,h,i] from J];simp only[m];rw[e,gm,cc]
theorem QK{a b c f h i:Sl}:∀(V:List Vb) (acc:aC) (s:Sl),acc.length+3 * V.length<=900->(∀v∈V,v.o.length<=2)->
  ∃l,fh (gN 6) (vH (Dk 5 (Hh (vI kF) (c1 (uV x6 "others") b9)))) (V.map kh) [a,b,c,f,h,.ls (acc.map D.str),s,i]=Z (.nx [a,b,c,f,h,.ls ((acc++V.flatMap Vb.ws).map D.str),l,i])
 |[],acc,s,_,_=>⟨s,by simp;rfl⟩
 |v::V,acc,s,r,m=>by
  have w:=m v ba;rw[aN]at r;have x:v.ws.length<=3:=by unfold Vb.ws;rw[aN];omega
  obtain⟨l,e⟩:=QK V (acc++v.ws) (.I (kh v)) (by rw[aE];omega) λu t=>m u (bc _ t);refine⟨l,?_⟩;rw[aI];unfold fh;let j:aP:=[a,b,c,f,h,.ls (acc.map D.str),.I (kh v),i];have p:Hh (vI kF) (c1 (uV x6 "others") b9) j=Z (.c4 (v.ws.map D.str),j):=by show (if ([]:List L4.D).length+(v.o.map D.str).length<=900 then Z (D.c4 (.str v.n::[]++v.o.map D.str),j)else O)=_;rw[aj (by rw[ag];simp only[gV];omega)];rfl
  have q:vH (Dk 5 (Hh (vI kF) (c1 (uV x6 "others") b9))) j=Z (.nx [a,b,c,f,h,.ls ((acc++v.ws).map D.str),.I (kh v),i]):=by refine xb (d:=.J) ?_;unfold Dk;rw[p];show (if (acc.map D.str).length+(v.ws.map D.str).length<=1000 then Z (D.J,[a,b,c,f,h,.ls (acc.map D.str++v.ws.map D.str),.I (kh v),i])else O)=_;rw[aj (by rw[ag,ag];omega),bu]
  rw[show gN 6 (kh v) [a,b,c,f,h,.ls (acc.map D.str),s,i]=Z j from J];simp only[q];rw[e,gm,cc]
def jsN(V:List Vb):aC:=V.filterMap Vb.j
def v_o2{V:List Vb}(h:∀v∈V,v∈v6):∀v∈V++v9,v.o.length<=2:=λv b=>by
 have a:=aQ.1 (show ((v6++v9).all λv=>decide (v.o.length<=2))=γ by kernel_rfl) v (by
  rcases aV.1 b with b|b
  .exact bI _ (h v b)
  .exact bB _ b)
 exact bp a
def aeE{e:FE}{c a:aP}{b:List L4.D}(h:e c=Z (.b4 b,a)):iL e c=Z (b,a):=by unfold iL;rw[h]
def aeF{ρ:aP}(V:List Vb)(d:V.length<=900)(a:cV 2 ρ=Z (VD V,ρ)):u7 1 [] (iL ao) (gN 0) (cT (c2 xu (c1 (uV x4 "joining") ab) aK)) (c1 (uV x4 "joining") ab) ρ=Z ((jsN V).map D.str,ρ):=by
 have b:iL ao ρ=Z (V.map kh,ρ):=aeE a;refine(zd kh (λv=>oS v.j) (λv=>v.j.isSome) V b (by omega) λv y=>⟨[.I (kh v)],[.I (kh v)],J,?_,λy=>⟨[.I (kh v)],J,J⟩,λy=>J⟩).t ?_
 .obtain⟨n,o,f,j⟩:=v;cases j<;>rfl
 .congr 2;unfold jsN;clear b a d
  induction V with
  |nil=>rfl
  |cons v V c=>
   obtain⟨n,o,f,j⟩:=v;cases j with
   |none=>rw[oG (by simp),List.filterMap_cons_none J];exact c
   |some x=>rw[lQ (by simp)];exact bw (D.str x::·) c
def J7{T:List Th}{W:List Wy}{t n:Nat}(H:T.length<=200)(m:∀t∈T,D6 t)(hW:W.length<=8)(S:∀w∈W,w.w∈(["north", "up", "outside"]:aC))(d:t<6)(u:n<7):yD [TD T,WD W,VD (vL t n++v9)]=Z .J:=by
 let V:=vL t n++v9;have v6m:∀v∈vL t n,v∈v6:=λv f=>Mz f;have lV:V.length<=15:=by show (vL t n++v9).length<=15;rw[aE];have:=J4 t n;show (vL t n).length+9<=15;omega
 let P:=T.filter λt=>t.k.pl;have hP:P.length<=200:=bC (cB _ _) H;have hwP:∀t∈P,t.nw∈ri:=λt d=>(m t (aS.1 d).1).2 (aS.1 d).2;let A:Sl:=.I (TD T);let B:Sl:=.I (WD W);let C:Sl:=.I (VD V);obtain⟨i,E⟩:=J6 P [] .un (by simp;omega) hwP;let l:=P.flatMap Th.w;let U:=V.flatMap Vb.ws;let o:Sl:=.ls (l.map D.str);obtain⟨z,F⟩:=QK V [] .un (by simp;omega) (v_o2 v6m);let c:aC:=jsN V++W.map Wy.w;let AT:Sl:=.I (.b4 (c.map D.str));have lU:U.length<=100:=by have h:=vws v6m;have G:=NJ (QH d u) h;exact bC G (lY (by kernel_rfl))
 have lJ:(jsN V).length<=15:=bC (List.length_filterMap_le _ _) lV;have lB:c.length<=100:=by show (jsN V++W.map Wy.w).length<=100;rw[aE,ag];omega
 have bIn:∀x∈c,x∈bW:=λx b=>by
  rcases aV.1 b with b|b
  .obtain⟨v,f,e⟩:=iJ.1 b;have a:=aQ.1 (show ((v6++v9).all λv=>match v.j with|some x=>decide (x∈bW)|none=>γ)=γ by kernel_rfl) v (by
    rcases aV.1 f with f|f
    .exact bI _ (v6m v f)
    .exact bB _ f)
   rw[e]at a;exact bp a
  .obtain⟨w,m,rfl⟩:=au.1 b;exact(show ∀x∈(["north", "up", "outside"]:aC),x∈bW by decide) _ (S w m)
 have oIn:∀x∈l,x∈ri.flatMap bD:=λx b=>by obtain⟨t,d,hxt⟩:=dX.1 b;exact dX.2 ⟨t.nw,hwP t d,hxt⟩
 have uIn:∀x∈U,x∈vW:=vws v6m;have N:∀x∈vW++bW,x∉ri.flatMap bD:=by decide +kernel
 have Q:∀x∈vW++bW,x∉(["the", "a", "undo", "restart"]:aC):=by decide +kernel
 have R:∀x∈bW,x∉vW:=by decide +kernel
 have y:∀x∈U++c,x∈vW++bW:=λx b=>by
  rcases aV.1 b with b|b
  .exact bI _ (uIn x b)
  .exact bB _ (bIn x b)
 have lUB:(U++c).length<=900:=by rw[aE];omega
 let UL:L4.D:=.b4 (U.map D.str);refine Bi (ρ:=[A,B,C,.I (.b4 (l.map D.str)),i,.I UL,z,AT]) J ?_;unfold yC;refine(uR J).t ?_;refine(uR ((xX (ρ1:=[A,B,C,.ls [],.un,.un,.un,.un]) ?_).t E)).t ?_
 .unfold iL;rw[we (uP (ρ1:=[A,B,C,.ls [],.un,.un,.un,.un]) J (Bu T (by omega)))]
 refine(uR J).t ?_;refine(uR ((xX J).t F)).t ?_;refine(uR (ρ':=[A,B,C,o,i,.ls (U.map D.str),z,AT]) ((wa (we (wK (we (aeF V (by omega) J)) (we (xi tp (λw=>.str w.w) W J (by omega) λw s=>⟨[.I (tp w)],[.I (tp w)],J,J,J⟩)) (by rw[ag,ag];omega)))).t ?_)).t ?_
 .show Z (x3.nx [A,B,C,o,i,.ls (U.map D.str),z,.I (.b4 ((jsN V).map D.str++W.map λw=>.str w.w))])=_;rw[show (jsN V).map D.str++(W.map λw=>D.str w.w)=c.map D.str by show _=(jsN V++W.map Wy.w).map D.str;rw[bu,aW];rfl]
 refine(uR (xH (uP (ds:=[UL]) J (E1 (QH d u) (by omega))))).t ?_;have r:∀(q:Sl),cL (xB (vl 5) bV) [A,B,C,q,i,.I UL,z,AT]=Z (.b4 ((U++c).map D.str),[A,B,C,q,i,.I UL,z,AT]):=λq=>(we (wK J J (by rw[ag,ag];omega))).t (by rw[<-bu]);refine(uR (xH (uP (uX (r o) J) (J3 (.inl J) lUB λx b I=>N x (y x b) (oIn x I))))).t ?_;refine(uR (xH (uP (uX (r _) J) (J3 (.inr J) lUB λx b=>Q x (y x b))))).t ?_;exact xH (uP J (J3 (.inl J) (by omega) λx b M=>R x (bIn x b) (uIn x M)))
structure d?(T:List Th)(M:List Mk)(dk:aC)(W:List Wy):Prop where
 len:T.length<=13
 r1:1<=(T.filter λt=>decide (t.k=.room)).length
 r5:(T.filter λt=>decide (t.k=.room)).length<=5
 y1:(T.filter λt=>decide (t.k=.you)).map Th.n=(["me"]:aC)
 p7:(T.filter λt=>t.k.pl).length<=7
 m4:M.length<=4
 mo:∀m∈M,m.ok
 nm:∀x∈T.map Th.n++M.map Mk.n,Nm x
 nd:(T.map Th.n++M.map Mk.n).Nodup
 st:∀t∈T,D5 T t
 rk:∃r,Mu T r
 wd:∀t∈T,D6 t
 d0:dk.length<=5
 d1:dk.Nodup
 d2:∀x∈dk,x∈i0 T
 w8:W.length<=8
 wo:∀w∈W,Sv T M w
 wn:(W.map λw=>[w.r,w.w]).Nodup
section
variable{T:List Th}{M:List Mk}{dk:aC}{W:List Wy}
def d?.r?(g:d? T M dk W):(T.map Th.n).Nodup:=(bM.1 g.nd).1
def Ex(T:List Th)(M:List Mk)(a:T.length<=200)(hM:M.length<=4):yY [TD T,MD M]=Z ((pw T M).map D.str):=by
 let b:aP:=[.I (TD T),.I (MD M)];have h:=cB (λt:Th=>t.k.mk) T;refine(As J (xP (wK (we (zd eo (λt=>D.str t.n) (λt=>t.k.mk) T J (by omega) λt y=>⟨[.I (eo t)],[.I (eo t)],J,vU (vz J J J J (QF t)),λy=>⟨_,vO J (AM t),J⟩,λy=>J⟩))
  (we (xi u5 (λt=>D.str t.n) M J (by omega) λt y=>⟨_,_,J,vO J (Mq t),J⟩)) (by rw[ag,ag];omega)))).t ?_
 unfold pw;rw[bu,aW,aW];rfl
def J8(g:d? T M dk W){t n:Nat}(c:t<6)(b:n<7):Bq [TD T,MD M,.b4 (dk.map D.str),WD W,VD (vL t n),VD v9]=Z .J:=by
 have l:=g.len;have d:=g.m4;have hdk:dk.length<=1000:=by have:=g.d0;omega
 have h:(T.filter λt=>decide (t.k=.you)).length=1:=by have:=bw cK g.y1;rw[ag]at this;exact this
 obtain⟨r,e⟩:=g.rk;let i:aP:=[.I (TD T),.I (MD M),.I (.b4 (dk.map D.str)),.I (WD W),.I (VD (vL t n)),.I (VD v9),.un];let a:aP:=[.I (TD T),.I (MD M),.I (.b4 (dk.map D.str)),.I (WD W),.I (VD (vL t n)),.I (VD v9),.I (.b4 ((i0 T).map D.str))];refine Bi (ρ:=a) J ?_;unfold Bp;refine(uR (xb (uP J (Iy T (by omega) g.r1 g.r5 h g.p7)))).t ?_;refine(uR (xb (uP J (JZ M g.m4 g.mo)))).t ?_;refine(uR (xb (uP J (J0 T M (by omega) (by omega) g.nm g.nd)))).t ?_;refine(uR (xb (uP J (IA T (by omega) g.r? r e g.st)))).t ?_;refine(uR (xb (uP J (J2 T (by omega) g.wd)))).t ?_;refine(uR ((wa (we (NV T (by omega) J))))).t ?_;refine(uR (xb (uP J (KC dk (i0 T) hdk g.d1 g.d2)))).t ?_;refine(uR (xb (uP (uX J (uX J (uX (we (uP J (Ex T M (by omega) d))) J))) (KE g.w8 g.wo g.wn)))).t ?_;refine(uR (xb (uP J (J5 c b)))).t ?_;refine xb (uP (uX J (uX J (uX ((we (wK (ρ1:=a) J J ?_)).t (by rw[<-bu])) J))) (J7 (by omega) g.wd g.w8 (λw f=>(g.wo w f).hw) c b));have:=J4 t n;rw[ag,ag];show (vL t n).length+9<=1000;omega
def Pj(T:List Th)(m:T.length<=900)(f:(T.map Th.n).Nodup):GQ [TD T]=Z (.Y (nK T) (T.map eo)):=by
 obtain⟨h,d⟩:=Ap (g:=gN 2) (i:=1) (fk:=c1 (uV vg "name") ao) (fv:=cV 2) eo Th.n eo (λb a s=>[.I (TD T),.dk b a,s])
  (λt b a s=>⟨[.I (TD T),.dk b a,.I (eo t)],J,J,J,vO J (AM t),λe c=>⟨_,J⟩⟩) T [] [] .un (by rw[cg];exact Vj f) (by simp;omega) J
 refine u6 (ρ:=[.I (TD T),.I (.Y (nK T) (T.map eo)),h]) J ?_;unfold GP;refine(uR J).t ?_;refine(uR ((xX J).t d)).t ?_;rw[cg,cg];rfl
def mP(T:List Th)(M:List Mk):List (Str×Int):=(T.filter λt=>t.k.mk).map (λt=>(t.n,1))++M.map λm=>(m.n,m.mo)
def MB(T:List Th)(M:List Mk):(mP T M).map cF=pw T M:=by unfold mP pw;rw[bu,aW,aW];rfl
def X8(m:Mk):uV yT "most" (u5 m)=Z (.int m.mo):=rfl
theorem G0{a b e:Sl}:∀(l:List Th) (c:List dr) (d:List L4.D) (s:Sl),(c++(l.filter λt=>t.k.mk).map λt=>kS t.n).Nodup->c.length+l.length<=900->d.length=c.length->
  ∃j,fh (gN 3) (ew (cT (vh xn "has_mark" ay vA)) (yQ 2 (c1 (uV vg "name") ay) aR) u0) (l.map eo) [a,b,.dk c d,s,e]=Z (.nx [a,b,.dk (c++(l.filter λt=>t.k.mk).map λt=>kS t.n) (d++(l.filter λt=>t.k.mk).map λy=>.int 1),j,e])
 |[],c,d,s,_,_,_=>⟨s,by simp;rfl⟩
 |t::l,c,d,s,f,u,o=>by
  rw[aN]at u;let r:aP:=[a,b,.dk c d,.I (eo t),e];have m:cT (vh xn "has_mark" ay vA) r=Z (t.k.mk,r):=vU (vz J J J J (QF t));rw[aI];unfold fh;rw[show gN 3 (eo t) [a,b,.dk c d,s,e]=Z r from J];cases h:t.k.mk with
  |true=>
   rw[h]at m;rw[lQ (p:=λt:Th=>t.k.mk) h,aI]at f;rw[lQ (p:=λt:Th=>t.k.mk) h];have w:kS t.n∉c:=λz=>by rw[bM]at f;exact f.2.2 _ z _ ba J
   obtain⟨j,q⟩:=G0 l (c++[kS t.n]) (d++[.int 1]) (.I (eo t)) (by rw[cc];exact f) (by rw[aE,di];omega) (by simp[o]);refine⟨j,?_⟩;simp only[(vP m).t (NX (i:=2) (fk:=c1 (uV vg "name") ay) (fv:=cC (.int 1)) J J (vO J (AM t)) w (by omega) o)];refine Eq.t q ?_;rw[cc,cc];rfl
  |false=>rw[h]at m;rw[oG (by rw[h];exact br)]at f ⊢;obtain⟨j,q⟩:=G0 l c d (.I (eo t)) f (by omega) o;refine⟨j,?_⟩;simp only[v8 m,u0];exact q
def mD(T:List Th)(M:List Mk):L4.D:=.Y ((mP T M).map λq=>kS q.1) ((mP T M).map λq=>.int q.2)
def d?.ndK(g:d? T M dk W):(pw T M).Nodup:=by unfold pw;have h:=bM.1 g.nd;refine bM.2 ⟨uG (iI.map _) h.1,h.2.1,λx b y c=>h.2.2 x ?_ y c⟩;obtain⟨t,a,rfl⟩:=au.1 b;exact bQ (aS.1 a).1
def QL(g:d? T M dk W):((mP T M).map λq=>kS q.1).Nodup:=by have:=zt g.ndK;rw[<-MB,aW]at this;exact this
def Vn(g:d? T M dk W):Ab [TD T,MD M]=Z (mD T M):=by
 have d:=QL g;have x:=g.len;have y:=g.m4;have f:(mP T M).map (λq=>kS q.1)=(T.filter λt=>t.k.mk).map (λt=>kS t.n)++M.map λm=>kS m.n:=by unfold mP;rw[bu,aW,aW];rfl
 have b:(mP T M).map (λq=>D.int q.2)=(T.filter λt=>t.k.mk).map (λv=>D.int 1)++M.map λm=>D.int m.mo:=by unfold mP;rw[bu,aW,aW];rfl
 rw[f]at d;have w:=cB (λt:Th=>t.k.mk) T;obtain⟨e,h⟩:=G0 T [] [] .un (by rw[cg];exact(bM.1 d).1) (by simp;omega) J;rw[cg,cg]at h;obtain⟨p,l⟩:=Ap (g:=gN 4) (i:=2) (fk:=c1 (uV vg "name") aH) (fv:=c1 (uV yT "most") aH) u5 Mk.n (λm=>.int m.mo) (λc a s=>[.I (TD T),.I (MD M),.dk c a,e,s])
  (λm c a s=>⟨[.I (TD T),.I (MD M),.dk c a,e,.I (u5 m)],J,vO J (X8 m),J,vO J (Mq m),λo j=>⟨_,J⟩⟩) M ((T.filter λt=>t.k.mk).map λt=>kS t.n) ((T.filter λt=>t.k.mk).map λv=>.int 1) .un d (by rw[ag];omega) (by rw[ag,ag])
 refine u6 (ρ:=[.I (TD T),.I (MD M),.I (mD T M),e,p]) J ?_;unfold Aa;refine(uR J).t ?_;refine(uR ((xX J).t h)).t ((uR ((xX J).t l)).t ?_);unfold mD;rw[f,b];rfl
def J9(T:List Th)(c:T.length<=1000)(a:aC)(ey:List L4.D)(k:Kd):CL [.obj 14 ("kept_things" ::a) (TD T::ey),.str k.s]=Z (.b4 ((T.filter λt=>decide (t.k=k)).map λt=>D.str t.n)):=by let b:aP:=[.I (.obj 14 ("kept_things" ::a) (TD T::ey)),.I (.str k.s)];refine EF (ρ:=b) J ?_;exact xP (zd eo (λt=>D.str t.n) (λt=>decide (t.k=k)) T J c λt y=>⟨[.I (eo t),.I (.str k.s)],[.I (eo t),.I (.str k.s)],J,vU (uY (vO J (AN t)) J (Gf t.k k)),λy=>⟨_,vO J (AM t),J⟩,λy=>J⟩)
end
def vwD(V:List Vb):L4.D:=.Y (V.flatMap λv=>v.ws.map kS) (V.flatMap λv=>v.ws.map λy=>kh v)
def p42:List (Nat×Nat):=(bf 6).flatMap λt=>(bf 7).map λn=>(t,n)
def acC{t n:Nat}(b:t<6)(a:n<7):(t,n)∈p42:=dX.2 ⟨t,bN.2 b,au.2 ⟨n,bN.2 a,J⟩⟩
def acD:(p42.map λq=>yt [VD (vL q.1 q.2++v9)])=p42.map λq=>Z (vwD (vL q.1 q.2++v9)):=by kernel_rfl
def aeG{t n:Nat}(b:t<6)(a:n<7):yt [VD (vL t n++v9)]=Z (vwD (vL t n++v9)):=List.map_inj_left.1 acD (t,n) (acC b a)
theorem Vo:∀V:List Vb,(V.flatMap λv=>v.ws.map kS).zip (V.flatMap λv=>v.ws.map λy=>kh v)=V.flatMap λv=>v.ws.map λx=>(kS x,kh v)
 |[]=>rfl
 |v::V=>by rw[gm,gm,gm,mJ (by rw[ag,ag]),Vo V,gw]
def MC{V:List Vb}(b:(V.flatMap Vb.ws).Nodup){v:Vb}(a:v∈V):Dj (vwD V) (.str v.n)=Z (kh v):=by
 show Z ((wG (V.flatMap λv=>v.ws.map kS) (V.flatMap λv=>v.ws.map λy=>kh v) (kS v.n)).getD .J)=_;rw[zN]
 .rfl
 .have:=zt b;rw[List.map_flatMap]at this;exact this
 .rw[Vo];exact dX.2 ⟨v,a,au.2 ⟨v.n,ba,J⟩⟩
def wNs:aC:=["kept_things", "kept_marks", "kept_dark", "kept_ways", "kept_verbs", "shared_verbs", "your_name", "things_by_name", "mosts_by_name", "verbs_by_word", "kept_rules", "shared_rules", "copied_rules", "rules_by_verb"]
def fx(T:List Th)(M:List Mk)(dk:aC)(W:List Wy)(V:List Vb):L4.D:=.obj 14 (wNs.take 10) [TD T,MD M,.b4 (dk.map D.str),WD W,VD V,VD v9,.str "me", .Y (nK T) (T.map eo),mD T M,vwD (V++v9)]
def l3:aC:=["one", "two", "alone", "way"]
def xL:aC:="here" ::nmL
def acE:(l3.all λf=>xL.all λx=>isF (wg [.str f,.str x]))=γ:=by kernel_rfl
def Lv{f x:Str}(a:f∈l3)(b:x∈xL):wg [.str f,.str x]=Z (.U δ):=Pf (aQ.1 (aQ.1 acE f a) x b)
def acF:(l3.all λf=>nmL.all λx=>isF (zx [.str f,.str x]))=γ:=by kernel_rfl
def Y5{f x:Str}(a:f∈l3)(b:x∈nmL):zx [.str f,.str x]=Z (.U δ):=Pf (aQ.1 (aQ.1 acF f a) x b)
def Vp{f:Str}(a:f∈l3):zx [.str f,.str "here"]=Z (.U γ):=CA (aQ.1 (show (l3.all λf=>isT (zx [.str f,.str "here"]))=γ by kernel_rfl) f a)
def By(f x:Str):Prop:=(x="it" /\ f∈(["one", "two"]:aC))\/(x="other" /\ f="two")
def ME{f x:Str}(h:By f x):wg [.str f,.str x]=Z (.U γ):=by
 rcases h with ⟨rfl,h⟩|⟨rfl,rfl⟩
 .exact CA (aQ.1 (show ((["one", "two"]:aC).all λf=>isT (wg [.str f,.str "it"]))=γ by kernel_rfl) f h)
 .kernel_rfl
def Tm(f:Str)(N:aC)(x:Str):Prop:=x∈N\/x="here" \/ By f x
section
variable{T:List Th}{M:List Mk}{dk:aC}{W:List Wy}{V:List Vb}{f:Str}
def Vq(g:d? T M dk W){t:Th}(h:t∈T):t.n∈nmL:=g.nm _ (bI _ (bQ h))
def aeH(g:d? T M dk W){t:Th}(h:t∈T):xt [fx T M dk W V,.str t.n]=Z (eo t):=by
 have e:xt [fx T M dk W V,.str t.n]=Z ((wG (nK T) (T.map eo) (kS t.n)).getD .J):=by kernel_rfl
 rw[e,Gh g.r? eo h];rfl
def aeI(g:d? T M dk W){q:Str×Int}(h:q∈mP T M):wL [fx T M dk W V,.str q.1]=Z (.int q.2):=by
 have e:wL [fx T M dk W V,.str q.1]=Z ((wG ((mP T M).map λq=>kS q.1) ((mP T M).map λq=>.int q.2) (kS q.1)).getD .J):=by kernel_rfl
 rw[e,zN (QL g)]
 .rfl
 .rw[gw];exact bQ h
def DR{c:FT}{e b:FE}{ρ a:aP}(h:c ρ=Z (γ,a)):rr c e b ρ=e a:=by unfold rr;rw[h]
def nmd(g:d? T M dk W){t:Th}(h:t∈T):A6 [fx T M dk W V,.str t.n]=Z (eo t):=by let a:aP:=[.I (fx T M dk W V),.I (.str t.n)];refine u6 (ρ:=a) J (vq ?_);refine(DR J).t ?_;exact vz J J J J (aeH g h)
def CB(g:d? T M dk W)(a:f∈l3){x:Str}(h:Tm f (T.map Th.n) x):BP [fx T M dk W V,.str f,.str x]=Z (.U γ):=by
 let c:aP:=[.I (fx T M dk W V),.I (.str f),.I (.str x)];refine u6 (ρ:=c) J (vq ?_);rcases h with h|rfl|h
 .obtain⟨t,b,rfl⟩:=au.1 h;refine(Gi (uP J (Lv a (bc _ (Vq g b))))).t ((Gi (uP J (Y5 a (Vq g b)))).t ?_);exact uY (uP J (nmd g b)) J J
 .exact(Gi (uP J (Lv a ba))).t (MA (uP J (Vp a)))
 .exact MA (uP J (ME h))
def hd_T{x:Str}(h:x∈l0 T):∃t∈T,t.n=x/\t.k.hd=γ:=by obtain⟨t,a,rfl⟩:=au.1 h;exact⟨t,(aS.1 a).1,J,(aS.1 a).2⟩
def NZ{c b:FT}{ρ a:aP}(d:c ρ=Z (γ,a)):xk c b ρ=Z (γ,a):=by unfold xk;rw[d]
def Io(g:d? T M dk W)(b:f∈l3){x:Str}(h:Tm f (l0 T) x):Cj [fx T M dk W V,.str f,.str x]=Z (.U γ):=by
 let c:aP:=[.I (fx T M dk W V),.I (.str f),.I (.str x)];refine u6 (ρ:=c) J ?_;unfold EM;rcases h with h|rfl|h
 .obtain⟨t,d,rfl,j⟩:=hd_T h;refine(uR ((v8 (xN (vU (uP J (Lv b (bc _ (Vq g d))))) (vU (uP J (Y5 b (Vq g d)))))))).t (vq ?_);have e:=nmd (V:=V) g d;refine(vd (uY (uP J e) J J)).t ?_;have i:=vz (g:=v5) (m:="can_hold") (a:=vA) (uP (a:=ax ab cj) (ρ:=c) J e) J J J (IP t);rw[j]at i;exact i
 .exact vE ((vP (xN (vU (uP J (Lv b ba))) (vU (uP J (Vp b))))))
 .exact vE ((vP (NZ (vU (uP J (ME h))))))
def Y6(g:d? T M dk W){t:Th}(h:t∈T)(k:Kd):Ae [fx T M dk W V,.str t.n,.str k.s]=Z (.U (decide (t.k=k))):=by let a:aP:=[.I (fx T M dk W V),.I (.str t.n),.I (.str k.s)];refine u6 (ρ:=a) J (vq ?_);have e:=nmd (V:=V) g h;exact(vd (uY (uP J e) J J)).t (uY (vO (uP J e) (AN t)) J (Gf t.k k))
def Mv(T:List Th)(f x:Str):Prop:=(∃t∈T,t.n=x/\t.k≠.room)\/By f x
def N0(g:d? T M dk W)(c:f∈l3){x:Str}(h:Mv T f x):EO [fx T M dk W V,.str f,.str x]=Z (.U γ):=by
 let b:aP:=[.I (fx T M dk W V),.I (.str f),.I (.str x)];refine u6 (ρ:=b) J ?_;unfold EN;rcases h with ⟨t,a,rfl,d⟩|h
 .refine(uR ((v8 (vU (uP J (Lv c (bc _ (Vq g a)))))))).t (vq ?_);refine(vd (uY (uP J (nmd g a)) J J)).t ((My (uP J (Y6 g a .room))).t ?_);rw[bq d];rfl
 .exact vE ((vP (vU (uP J (ME h)))))
def Mt(T:List Th)(M:List Mk)(f:Str)(q:Str×Int):Prop:=q∈mP T M\/(By f q.1/\q.2<=3)
def Vr(g:d? T M dk W){q:Str×Int}(h:q∈mP T M):q.1∈nmL:=by
 refine g.nm _ ?_;have h1:q.1∈pw T M:=by rw[<-MB];exact bQ h
 rcases aV.1 h1 with h1|h1
 .obtain⟨t,a,e⟩:=au.1 h1;exact bI _ (by rw[<-e];exact bQ (aS.1 a).1)
 .exact bB _ h1
def Ey(g:d? T M dk W)(j:f∈l3){q:Str×Int}(h:Mt T M f q){v:Int}(m:0<=v)(i:v<=q.2):yy [fx T M dk W V,.str f,.str q.1,.int v]=Z (.U γ):=by
 let a:aP:=[.I (fx T M dk W V),.I (.str f),.I (.str q.1),.I (.int v),.un];have d:cT (c2 L0 ay aO) a=Z (δ,a):=by show Z (decide (v<0),a)=_;rw[bq (by omega)]
 have c:ew (xk (wq (cT (uQ zu eF))) (cT (c2 L0 ay aO))) (uU bE) u0 a=Z (.nx a):=(v8 (xN (wW (b:=γ) (vU (uP J (by kernel_rfl)))) d));rcases h with h|⟨h,o⟩
 .let l:aP:=[.I (fx T M dk W V),.I (.str f),.I (.str q.1),.I (.int v),.I (.int q.2)];refine u6 (ρ:=l) J ?_;unfold yx;refine(uR c).t ((uR ((v8 (vU (uP J (Lv j (bc _ (Vr g h)))))))).t ?_);have e:rr (cT (c1 (vZ (wC "str")) ao)) (vh wH "most_of" ab cj) aK a=Z (.int q.2,a):=by refine(DR J).t ?_;exact vz J J J J (aeI g h)
  refine(uR ((wa e))).t (vq ((vd J).t (QG J J i)))
 .refine u6 (ρ:=a) J ?_;unfold yx;refine(uR c).t (vE ((vP (vU (uP J (ME h)))).t (vq (QG J J (by omega)))))
def atO(a b:Str):L4.D:=.obj 3 ["term", "place"] [.str a,.str b]
def hsO(a:Str):L4.D:=.obj 4 ["term"] [.str a]
def seO(a:Str):L4.D:=.obj 5 ["term"] [.str a]
def mkO(a:Str)(v:Int):L4.D:=.obj 6 ["term", "value"] [.str a,.int v]
def kiO(a k:Str):L4.D:=.obj 7 ["term", "kind"] [.str a,.str k]
def woO(a:Str):L4.D:=.obj 8 ["word"] [.str a]
def noO(d:L4.D):L4.D:=.obj 9 ["inner"] [d]
def boO(d e:L4.D):L4.D:=.obj 10 ["one", "other"] [d,e]
def θ(a b:Str):L4.D:=.obj 11 ["term", "place"] [.str a,.str b]
def puO(a:Str)(v:Int):L4.D:=.obj 12 ["term", "value"] [.str a,.int v]
def liO:L4.D:=.obj 15 [] []
def Tk(w:L4.D)(f:Str)(n:Nat)(d:L4.D):Prop:=vu 16 14 d=γ/\∀j:Nat,n<j->j<=4->yH j [w,.str f,d,.int j]=Z (.U γ)
def Vs{w:L4.D}{a b:Sl}(j:Nat):ew (cT (c2 (en δ) ay aO)) (uU bE) u0 [.I w,a,b,.I (.int ((j+1:Nat):Int))]=Z (.nx [.I w,a,b,.I (.int ((j+1:Nat):Int))]):=
 (v8 (vU (uY J J ((zC δ _ 0).t (by rw[bq (by omega:¬((j+1:Nat):Int)=0)];rfl)))))
def yF{w d:L4.D}{n:Nat}(b:vZ U6 d=Z (.U δ))(c:vZ Pd d=Z (.U δ))(e:vu 16 14 d=γ)(h:Ac [w,.str f,d]=Z (.U γ)):Tk w f n d:=⟨e,λj i y=>by
 obtain⟨j,rfl⟩:∃k,j=k+1:=⟨j - 1,by omega⟩;let a:aP:=[.I w,.I (.str f),.I d,.I (.int ((j+1:Nat):Int))];refine u6 (ρ:=a) J ?_;unfold yG;exact(uR (Vs j)).t ((uR ((v8 (vU (vO J b))))).t ((uR ((v8 (vU (vO J c))))).t (vq (uP J h))))⟩
def sub1{ρ:aP}{j:Nat}(h:cV 3 ρ=Z (.int ((j+1:Nat):Int),ρ)):c2 Nl ay aR ρ=Z (.int j,ρ):=(uY h J J).t (by
 show Z (D.int (((j+1:Nat):Int) - 1),ρ)=_;rw[show ((j+1:Nat):Int) - 1=j by omega])
def Vt{w d:L4.D}{n:Nat}(h:Tk w f n d):Tk w f (n+1) (noO d):=⟨by
 have e:vu 16 14 (noO d)=(vu 16 14 d&&γ):=by kernel_rfl
 rw[e,h.1];rfl,λj c b=>by
 obtain⟨j,rfl⟩:∃k,j=k+1:=⟨j - 1,by omega⟩;let a:aP:=[.I w,.I (.str f),.I (noO d),.I (.int ((j+1:Nat):Int))];refine u6 (ρ:=a) J ?_;unfold yG;refine(uR (Vs j)).t (vE ((vP J).t (vq ?_)));exact uP (uX J (uX J (uX J (uX (sub1 J) J)))) (h.2 j (by omega) (by omega))⟩
def Sx{w d e:L4.D}{n:Nat}(h:Tk w f n d)(b:Tk w f n e):Tk w f (n+1) (boO d e):=⟨by
 have q:vu 16 14 (boO d e)=(vu 16 14 d&&(vu 16 14 e&&γ)):=by kernel_rfl
 rw[q,h.1,b.1];rfl,λj l i=>by
 obtain⟨j,rfl⟩:∃k,j=k+1:=⟨j - 1,by omega⟩;let a:aP:=[.I w,.I (.str f),.I (boO d e),.I (.int ((j+1:Nat):Int))];refine u6 (ρ:=a) J ?_;unfold yG;refine(uR (Vs j)).t ((uR ((v8 J))).t (vE ((vP J).t (vq ((vd (ρ1:=a) ?_).t ?_)))))
 .exact uP (uX J (uX J (uX J (uX (sub1 J) J)))) (h.2 j (by omega) (by omega))
 .exact uP (uX J (uX J (uX J (uX (sub1 J) J)))) (b.2 j (by omega) (by omega))⟩
end
def W2{c d:Type}(x:Option (c×d))(k:c->d->Prop):Prop:=∃a b,x=Z (a,b)/\k a b
def Rk(r:L4.D->List L4.D->Prop)(d:L4.D)(ρ:aP):Prop:=∃a s,ρ=.pm a::s/\r d a
def Ws(x:Option x3)(n:aP->Prop)(r:L4.D->aP->Prop):Prop:=∃o,x=Z o/\match o with
 |.nx a=>n a
 |.rt d a=>r d a
 |.rn l a=>r (.b4 l) a
 |_=>False
def uT{c d:Type}{x:Option (c×d)}{a:c}{b:d}{k:c->d->Prop}(h:x=Z (a,b))(p:k a b):W2 x k:=⟨a,b,h,p⟩
def w_mo{c d:Type}{x:Option (c×d)}{k:c->d->Prop}(R:c->d->Prop)(w:W2 x R)(p:∀a b,R a b->k a b):W2 x k:=by obtain⟨a,b,h,q⟩:=w;exact⟨a,b,h,p a b q⟩
section
variable{f g:FS}{c c':FT}{e e':FE}{a:FA}{ρ ρ':aP}{n:aP->Prop}{r k:L4.D->aP->Prop}{kb:Bool->aP->Prop}{kl:List L4.D->aP->Prop}{i:Nat}
def vc(w:Ws (f ρ) (λρ=>Ws (g ρ) n r) r):Ws (bt f g ρ) n r:=by
 obtain⟨o,e,p⟩:=w;cases o with
 |nx ρ=>obtain⟨o,b,p⟩:=p;exact⟨o,(uR e).t b,p⟩
 |rt d ρ=>exact⟨_,vE e,p⟩
 |rn d ρ=>exact⟨_,by unfold bt;rw[e],p⟩
 |_=>exact p.elim
def xI(h:f ρ=Z (.nx ρ'))(p:n ρ'):Ws (f ρ) n r:=⟨_,h,p⟩
def s_y(h:c ρ=Z (γ,ρ'))(w:Ws (f ρ') n r):Ws (ew c f g ρ) n r:=by unfold Ws;rw[vP h];exact w
def s_n(h:c ρ=Z (δ,ρ'))(w:Ws (g ρ') n r):Ws (ew c f g ρ) n r:=by unfold Ws;rw[v8 h];exact w
def E2(w:W2 (c ρ) λb ρ=>(b=γ->Ws (f ρ) n r)/\(b=δ->Ws (g ρ) n r)):Ws (ew c f g ρ) n r:=by
 obtain⟨b,ρ',e,y,z⟩:=w;cases b with
 |true=>exact s_y e (y J)
 |false=>exact s_n e (z J)
def vK(w:W2 (e ρ) λd ρ=>n (ρ.set i (.I d))):Ws (vp i e ρ) n r:=by obtain⟨d,ρ',h,p⟩:=w;exact⟨_,wa h,p⟩
def X9(w:W2 (a ρ) λd ρ=>n (ρ.set i (.ls d))):Ws (yj i a ρ) n r:=by obtain⟨d,ρ',h,p⟩:=w;exact⟨_,Xx h,p⟩
def N1(w:W2 (e ρ) λy ρ=>n ρ):Ws (vH e ρ) n r:=by obtain⟨d,ρ',h,p⟩:=w;exact⟨_,xb h,p⟩
def wm(w:W2 (e ρ) r):Ws (uU e ρ) n r:=by obtain⟨d,ρ',h,p⟩:=w;exact⟨_,vq h,p⟩
def Pk(w:W2 (a ρ) λd=>r (.b4 d)):Ws (wy a ρ) n r:=by obtain⟨d,ρ',h,p⟩:=w;exact⟨_,xP h,p⟩
def s_as{g:FG}(w:W2 (e ρ) λd ρ=>∃ρ',g d ρ=Z ρ'/\n ρ'):Ws (LY e g ρ) n r:=by obtain⟨d,ρ',h,b,j,p⟩:=w;exact⟨.nx b,by unfold LY;rw[h];simp only[j],p⟩
def N2{g:L4.D->L4.D->Option L4.D}(w:W2 (e ρ) λx ρ=>W2 (e' ρ) λy ρ=>∃z,g x y=Z z/\k z ρ):W2 (c2 g e e' ρ) k:=by obtain⟨x,j,b,y,l,d,z,h,p⟩:=w;exact⟨_,_,uY b d h,p⟩
def w_T(w:W2 (e ρ) λd ρ=>∃b,d=.U b/\kb b ρ):W2 (cT e ρ) kb:=by obtain⟨_,ρ',h,b,rfl,p⟩:=w;exact⟨b,_,vU h,p⟩
def tm(w:W2 (a ρ) λd ρ=>k (.b4 d) ρ):W2 (cL a ρ) k:=by obtain⟨d,ρ',h,p⟩:=w;exact⟨_,_,we h,p⟩
def xJ(w:W2 (e ρ) λd ρ=>W2 (a ρ) λb ρ=>kl (d::b) ρ):W2 (ax e a ρ) kl:=by obtain⟨d,l,h,b,m,j,p⟩:=w;exact⟨_,_,uX h j,p⟩
def m?{c:Nat}{g:List L4.D->Option (aC×List L4.D)}(w:W2 (a ρ) λj ρ=>W2 (g j) λb xs=>k (.obj c b xs) ρ):W2 (vC c g a ρ) k:=by obtain⟨d,m,h,b,xs,l,p⟩:=w;exact⟨_,_,Qt h l,p⟩
def Pl{j:List L4.D}(l:wY ρ i=Z j)(w:W2 (e ρ) λd ρ=>∃b,wY ρ i=Z b/\b.length<1000/\k .J (putAt ρ i (b++[d]))):W2 (CZ i e ρ) k:=by obtain⟨d,q,h,b,m,o,p⟩:=w;exact⟨_,_,Uk l h m o,p⟩
def IB{g:List L4.D->List L4.D->Option (L4.D×List L4.D)}{j:List L4.D}(o:wY ρ i=Z j)(w:W2 (a ρ) λl ρ=>∃b,wY ρ i=Z b/\W2 (g b l) λd b=>k d (putAt ρ i b)):W2 (vY g i a ρ) k:=by obtain⟨d,u,h,b,q,x,m,t,p⟩:=w;exact⟨_,_,Uj o h q t,p⟩
def Pm(w:W2 (e ρ) λd ρ=>∃m:Nat,d=.int m/\m<=100/\kl ((bf m).map λj:Nat=>D.int j) ρ):W2 (K' e ρ) kl:=by obtain⟨_,b,h,m,rfl,l,p⟩:=w;refine⟨_,b,?_,p⟩;unfold K';rw[h];dsimp only;rw[aj (by omega),gj];unfold Jk;simp
def CS{b:List L4.D}(h:e ρ=Z (.b4 b,ρ')):iL e ρ=Z (b,ρ'):=by unfold iL;rw[h]
def s_g{R:aP->Prop}(p:R ρ)(k:∀ρ,R ρ->Ws (f ρ) n r):Ws (f ρ) n r:=k _ p
def QM(R:aP->Prop)(w:Ws (f ρ) R r)(k:∀ρ,R ρ->Ws (g ρ) n r):Ws (bt f g ρ) n r:=by
 refine vc ?_;obtain⟨o,e,p⟩:=w;refine⟨o,e,?_⟩;cases o with
 |nx ρ=>exact k ρ p
 |_=>exact p
def kc{h:FS}(q:c ρ=Z (δ,ρ'))(w:Ws (g ρ') n r):Ws (bt (ew c h u0) g ρ) n r:=vc (s_n q (xI J w))
def zh{h:FS}(q:c ρ=Z (γ,ρ'))(w:Ws (f ρ') (λρ=>Ws (g ρ) n r) r):Ws (bt (ew c f h) g ρ) n r:=vc (s_y q w)
def w_iL(w:W2 (e ρ) λd ρ=>∃b,d=.b4 b/\kl b ρ):W2 (iL e ρ) kl:=by obtain⟨_,ρ',h,b,rfl,p⟩:=w;exact⟨b,_,CS h,p⟩
def w_oA{k:Option Int->aP->Prop}(w:W2 (e ρ) λd ρ=>∃j,d=.int j/\k (Z j) ρ):W2 (μ e ρ) k:=by obtain⟨_,ρ',h,j,rfl,p⟩:=w;exact⟨Z j,ρ',by unfold μ;rw[h],p⟩
def w_sx{lo j:FO}(w:W2 (e ρ) λd ρ=>∃b,d=.b4 b/\W2 (lo ρ) λl ρ=>W2 (j ρ) λu ρ=>kl (mq b l u) ρ):W2 (Iv e lo j ρ) kl:=by obtain⟨_,q,h,b,rfl,l,t,m,u,x,o,p⟩:=w;exact⟨_,_,by unfold Iv;rw[h];simp only[m,o],p⟩
def w_ls(w:W2 (a ρ) λd ρ=>d.length<=1000/\kl d ρ):W2 (vF a ρ) kl:=by obtain⟨d,ρ',h,q,p⟩:=w;exact⟨_,_,Ui h q,p⟩
def w_an(w:W2 (c ρ) λb ρ=>(b=γ->W2 (c' ρ) kb)/\(b=δ->kb δ ρ)):W2 (zJ c c' ρ) kb:=by
 obtain⟨b,d,h,y,z⟩:=w;unfold zJ;rw[h];cases b with
 |true=>exact y J
 |false=>exact⟨_,_,J,z J⟩
def w_or(w:W2 (c ρ) λb ρ=>(b=δ->W2 (c' ρ) kb)/\(b=γ->kb γ ρ)):W2 (xk c c' ρ) kb:=by
 obtain⟨b,d,h,y,z⟩:=w;unfold xk;rw[h];cases b with
 |false=>exact y J
 |true=>exact⟨_,_,J,z J⟩
theorem s_fl{a:FG}{q:Nat->aP->Prop}:∀(b:List L4.D) (i:Nat) (ρ:aP),q i ρ->(∀m d ρ,b[m]?=Z d->q (i+m) ρ->∃l,a d ρ=Z l/\Ws (f l) (q (i+m+1)) r)->Ws (fh a f b ρ) (q (i+b.length)) r
 |[],i,ρ,j,_=>⟨_,J,j⟩
 |d::b,i,ρ,j,st=>by
  obtain⟨l,u,o,w,p⟩:=st 0 d ρ J j;unfold Ws fh;simp only[u,w];cases o with
  |nx t=>rw[aN,show i+(b.length+1)=i+1+b.length by omega];exact s_fl b (i+1) t p λm d ρ h j=>by rw[show i+1+m=i+(m+1) by omega]at j ⊢;exact st (m+1) d ρ h j
  |rt d ρ=>exact⟨_,J,p⟩
  |rn d ρ=>exact⟨_,J,p⟩
  |_=>exact p.elim
def G1{s:FA}{a:FG}(w:W2 (s ρ) λl ρ=>∃b:Nat->aP->Prop,b 0 ρ/\(∀m d ρ,l[m]?=Z d->b m ρ->∃ρ1,a d ρ=Z ρ1/\Ws (f ρ1) (b (m+1)) r)/\∀ρ,b l.length ρ->n ρ):Ws (x9 s a f ρ) n r:=by
 obtain⟨l,ρ',q,b,j,st,fin⟩:=w;obtain⟨o,e,p⟩:=s_fl l 0 ρ' j λm d ρ h j=>by rw[i5]at j ⊢;exact st m d ρ h j
 rw[i5]at p;refine⟨o,(xX q).t e,?_⟩;cases o with
 |nx ρ=>exact fin ρ p
 |_=>exact p
def w_cp{u:Nat}{d6:List Nat}{s:FA}{g:FG}(w:W2 (s ρ) λt ρ=>t.length<=1000/\∃m:List L4.D->aP->Prop,m [] ρ/\(∀xs d ρ,m xs ρ->∃o,g d (Fh u d6 ρ)=Z o/\W2 (e o) λx b=>∃p,ym d6 (b.drop u) ρ=Z p/\m (xs++[x]) p)/\∀xs ρ,xs.length=t.length->m xs ρ->kl xs ρ):W2 (u7 u d6 s g vX e ρ) kl:=by
 obtain⟨t,ρ',q,E,m,j,st,fin⟩:=w;have key:∀(l:List L4.D) (xs:List L4.D) (ρ:aP),m xs ρ->∃h b,AV u d6 g vX e l ρ=Z (h,b)/\h.length=l.length/\m (xs++h) b:=λl=>by
  induction l with
  |nil=>intro xs ρ j;exact⟨[],ρ,J,J,by rw[bT];exact j⟩
  |cons d l F=>intro xs ρ j;obtain⟨o,A,x,b,y,p,B,H⟩:=st xs d ρ j;obtain⟨h,z,C,N,I⟩:=F _ _ H;refine⟨x::h,z,?_,by rw[aN,aN,N],by rw[qp];exact I⟩;unfold AV;rw[A];simp only[vX,y,B,C]
 obtain⟨h,b,y,M,G⟩:=key t [] ρ' j;exact⟨h,b,(II q E).t y,fin h b M G⟩
end
section
variable{es:List L4.D}{k:L4.D->aP->Prop}{s:aP}{e a:FE}
def Ka{h n:Nat}{b:FS}{c:List L4.D}{k:L4.D->List L4.D->Prop}(f:c.length=h)(w:Ws (b (stM n es c)) (λy=>False) (Rk k)):W2 (qx h n b es c) k:=by
 obtain⟨o,e,p⟩:=w;cases o with
 |rt d i=>obtain⟨es,s,rfl,p⟩:=p;exact⟨d,es,OO f e J,p⟩
 |rn d i=>obtain⟨es,s,rfl,p⟩:=p;exact⟨_,es,aaQ f e J,p⟩
 |_=>exact p.elim
def Ya{h n:Nat}{b:FS}{c:List L4.D}{Q:L4.D->Prop}(f:c.length=h)(w:Ws (b (A? n c)) (λy=>False) λd y=>Q d):∃d,eb h n b c=Z d/\Q d:=by
 obtain⟨o,e,p⟩:=w;cases o with
 |rt d i=>exact⟨d,u6 f e,p⟩
 |rn d i=>exact⟨_,EF f e,p⟩
 |_=>exact p.elim
def xR{f n:Nat}{b:FS}{c:List L4.D}{z:L4.D}(h:c.length=f)(w:Ws (b (A? n c)) (λy=>False) λd y=>d=z):eb f n b c=Z z:=by obtain⟨_,e,rfl⟩:=Ya h w;exact e
def Vu{b:Int}(h:wu es)(l:a (.pm es::s)=Z (.int b,.pm es::s))(j:0<b)(q:b<=1000)(w:∀m es,0<=m->m<b->wu es->k (.int m) (.pm es::s)):W2 (vY uS 0 (a1 a) (.pm es::s)) k:=by obtain⟨d,c,x,o,p,f⟩:=dgx (i:=0) (λes=>.pm es::s) (λy=>J) (λy y=>J) l h j (by omega);exact⟨_,_,x,w d c o p f⟩
def Eb{b:Nat}(h:wu es)(c:a (.pm es::s)=Z (.int b,.pm es::s))(f:0<b)(i:b<=1000)(w:∀(m:Nat) es,m<b->wu es->k (.int m) (.pm es::s)):W2 (vY uS 0 (a1 a) (.pm es::s)) k:=by refine Vu h c (by omega) (by omega) λm es d j h=>?_;obtain⟨m,rfl⟩:=lI d;exact w m es (by omega) h
def IC{L:List L4.D}(h:wu es)(m:e (.pm es::s)=Z (.b4 L,.pm es::s))(l:a (.pm es::s)=Z (.int L.length,.pm es::s))(f:L≠[])(j:L.length<=1000)(w:∀d∈L,∀es,wu es->k d (.pm es::s)):W2 (c2 e8 e (vY uS 0 (a1 a)) (.pm es::s)) k:=by obtain⟨d,hd,b,x,c⟩:=pk (i:=0) (λes=>.pm es::s) (λy=>J) (λy y=>J) m l h f j;exact⟨_,_,x,w d hd b c⟩
def w_iS{L:List L4.D}{j:Nat}(h:wu es)(f:∀es,wY (.pm es::s) j=Z L)(o:cV j (cG Sl.ν (.pm es::s))=Z (.b4 L,cG Sl.ν (.pm es::s)))(l:L≠[])(q:L.length<=1000)(w:∀d∈L,∀es,wu es->k d (.pm es::s)):W2 (OI j (vY uS 0 (a1 (CU (c1 xM (cV j))))) (.pm es::s)) k:=by have p:0<L.length:=pf.2 l;obtain⟨_,_,x,m,b,rfl,rfl,c,i⟩:=Eb (k:=λd t=>∃(m:Nat) (es:List L4.D),d=.int m/\t=.pm es::s/\m<L.length/\wu es) h (Jr (vO (g:=xM) o J) J) p (by omega) λm es c h=>⟨m,es,J,J,c,h⟩;refine⟨L[m],_,?_,w _ (gn c) b i⟩;unfold OI;rw[f es];simp only[x,f b];rw[show t? L (m:Int)=Z L[m] from E7 (bh c)]
end
section
variable{T:List Th}{M:List Mk}{dk:aC}{W:List Wy}{V:List Vb}{f:Str}{n:Nat}
def aeN(g:d? T M dk W)(c:f∈l3){a b:Str}(e:Tm f (T.map Th.n) a)(h:Tm f (l0 T) b):Tk (fx T M dk W V) f n (atO a b):=yF J J J (by
 let d:aP:=[.I (fx T M dk W V),.I (.str f),.I (atO a b)];refine u6 (ρ:=d) J ?_;unfold wz;exact vE ((vP J).t (vq ((vd (uP J (CB g c e))).t (uP J (Io g c h))))))
def yh{c:FT}{e:FS}{ρ:aP}{h:FS}(q:c ρ=Z (δ,ρ)):bt (ew c e u0) h ρ=h ρ:=uR ((v8 q))
def acL(g:d? T M dk W)(d:f∈l3){a:Str}(c:Tm f (T.map Th.n) a):Tk (fx T M dk W V) f n (hsO a):=yF J J J (by
 let b:aP:=[.I (fx T M dk W V),.I (.str f),.I (hsO a)];refine u6 (ρ:=b) J ?_;unfold wz;exact(yh J).t (vE ((vP J).t (vq (uP J (CB g d c))))))
def Yc(g:d? T M dk W)(d:f∈l3){a:Str}(c:Tm f (T.map Th.n) a):Tk (fx T M dk W V) f n (seO a):=yF J J J (by
 let b:aP:=[.I (fx T M dk W V),.I (.str f),.I (seO a)];refine u6 (ρ:=b) J ?_;unfold wz;exact(yh J).t (vE ((vP J).t (vq (uP J (CB g d c))))))
def Yd(g:d? T M dk W)(d:f∈l3){q:Str×Int}(h:Mt T M f q){v:Int}(b:0<=v)(c:v<=q.2):Tk (fx T M dk W V) f n (mkO q.1 v):=yF J J J (by
 let a:aP:=[.I (fx T M dk W V),.I (.str f),.I (mkO q.1 v)];refine u6 (ρ:=a) J ?_;unfold wz;exact(yh J).t ((yh J).t (vE ((vP J).t (vq (uP J (Ey g d h b c)))))))
def Ye(g:d? T M dk W)(e:f∈l3){a k:Str}(d:Tm f (T.map Th.n) a)(h:k∈(["plain", "fixed", "box", "lamp", "room", "you"]:aC)):Tk (fx T M dk W V) f n (kiO a k):=yF J J J (by
 let b:aP:=[.I (fx T M dk W V),.I (.str f),.I (kiO a k)];refine u6 (ρ:=b) J ?_;unfold wz;have c:vS [.str k,D1]=Z (.U γ):=CA (aQ.1 (show ((["plain", "fixed", "box", "lamp", "room", "you"]:aC).all λx=>isT (vS [.str x,D1]))=γ by kernel_rfl) k h);exact(yh J).t ((yh J).t ((yh J).t (vE ((vP J).t (vq ((vd (uP J (CB g e d))).t (uP J c))))))))
def Yf{w:L4.D}{x:Str}(c:x∈(["north", "up", "outside", "down"]:aC)):Tk w "way" n (woO x):=yF J J J (by
 let a:aP:=[.I w,.I (.str "way"),.I (woO x)];refine u6 (ρ:=a) J ?_;unfold wz;have b:yc [.str x]=Z (.U γ):=CA (aQ.1 (show ((["north", "up", "outside", "down"]:aC).all λx=>isT (yc [.str x]))=γ by kernel_rfl) x c);exact(yh J).t ((yh J).t ((yh J).t ((yh J).t (vE ((vP J).t (vq ((vd J).t (uP J b)))))))))
def Vv{w:L4.D}:Tk w f n liO:=yF J J J (by kernel_rfl)
def Dd(w:L4.D)(f:Str)(d:L4.D):Prop:=vu 16 14 d=γ/\GV [w,.str f,d]=Z (.U γ)
def acM(g:d? T M dk W)(d:f∈l3){q:Str×Int}(h:Mt T M f q){v:Int}(b:0<=v)(c:v<=q.2):Dd (fx T M dk W V) f (puO q.1 v):=⟨J,by
 let a:aP:=[.I (fx T M dk W V),.I (.str f),.I (puO q.1 v)];refine u6 (ρ:=a) J ?_;unfold D3;exact vE ((vP J).t (vq (uP J (Ey g d h b c))))⟩
def QN(g:d? T M dk W)(i:f∈l3){a b:Str}(m:Mv T f a)(o:Tm f (l0 T) b)(p:a="me" -> ∃t∈T,t.n=b/\t.k=.room):Dd (fx T M dk W V) f (θ a b):=⟨J,by
 let c:aP:=[.I (fx T M dk W V),.I (.str f),.I (θ a b)];have e:GU [fx T M dk W V,.str f,θ a b]=Z (.U γ):=by
  refine u6 (ρ:=c) J ?_;unfold GT;refine(yh (xN (wW (vU (uP J (N0 g i m)))) (wW (vU (uP J (Io g i o)))))).t (vq ?_);have d:c2 (en γ) (c1 (uV BI "term") ao) (vh zw "you" ab vA) c=Z (.U (!decide (a="me")),c):=uY J J (wX γ a "me");by_cases h:a="me"
  .obtain⟨t,q,j,l⟩:=p h;rw[bg h]at d;refine(Gi d).t (uP (ds:=[fx T M dk W V,.str b,.str Kd.room.s]) J ?_);rw[<-j,Y6 g q .room,bg l]
  .rw[bq h]at d;exact MA d
 refine u6 (ρ:=c) J ?_;unfold D3;exact(yh J).t (vq ((vd J).t (uP J e)))⟩
end
inductive Ts(T:List Th) (M:List Mk) (f:Str):Nat->L4.D->Prop
 |ats {n:Nat} {a b:Str} (ha:Tm f (T.map Th.n) a) (hb:Tm f (l0 T) b):Ts T M f n (atO a b)
 |has {n:Nat} {a:Str} (ha:Tm f (T.map Th.n) a):Ts T M f n (hsO a)
 |seen {n:Nat} {a:Str} (ha:Tm f (T.map Th.n) a):Ts T M f n (seO a)
 |mark {n:Nat} {q:Str×Int} {v:Int} (h:Mt T M f q):Ts T M f n (mkO q.1 v)
 |kind {n:Nat} {a k:Str} (ha:Tm f (T.map Th.n) a):Ts T M f n (kiO a k)
 |word {n:Nat} {x:Str} (hf:f="way"):Ts T M f n (woO x)
 |lit {n:Nat}:Ts T M f n liO
 |no {n:Nat} {d:L4.D} (h:Ts T M f n d):Ts T M f (n+1) (noO d)
 |bo {n:Nat} {d e:L4.D} (h:Ts T M f n d) (h':Ts T M f n e):Ts T M f (n+1) (boO d e)
def Tq(T:List Th)(M:List Mk)(w:L4.D)(f:Str)(n:Nat)(d:L4.D):Prop:=Tk w f n d/\Ts T M f n d
def Mr(T:List Th)(M:List Mk)(m:Str->Int):Prop:=∀q∈mP T M,0<=m q.1/\m q.1<=q.2
inductive Ds(T:List Th) (M:List Mk) (f:Str):L4.D->Prop
 |put {q:Str×Int} {v:Int} (h:Mt T M f q) (h0:0<=v):Ds T M f (puO q.1 v)
 |Rn {a b:Str} (ha:Mv T f a) (hb:Tm f (l0 T) b) (hm:a="me" -> ∃t∈T,t.n=b/\t.k=.room):Ds T M f (θ a b)
def Dq(T:List Th)(M:List Mk)(w:L4.D)(f:Str)(d:L4.D):Prop:=Dd w f d/\Ds T M f d
def yq(T:List Th)(c:T.length<=900)(a:aC)(p:Kd->Bool)(b:∀k:Kd,decide (k.s∈a)=p k):wj [TD T,.b4 (a.map D.str)]=Z (((T.filter λt=>p t.k).map Th.n).map D.str):=by let K:L4.D:=.b4 (a.map D.str);let d:aP:=[.I (TD T),.I K];refine(As J (xP (zd eo (λt=>D.str t.n) (λt=>p t.k) T J (by omega) λt y=>⟨[.I (eo t),.I K],[.I (eo t),.I K],J,vU (uY J J ((wU δ _ _).t (by rw[<-b t.k];rfl))),λy=>⟨_,vO J (AM t),J⟩,λy=>J⟩))).t ?_;rw[aW];rfl
def Kb{P:Kd->Prop}(a:P .room)(b:P .you)(c:P .plain)(d:P .fixed)(e:P .box)(f:P .lamp):∀k,P k:=λk=>by cases k<;>assumption
def MF:∀k:Kd,decide (k.s∈(["room"]:aC))=decide (k=.room):=Kb J J J J J J
def Pn:∀k:Kd,decide (k.s∈(["room", "box", "you"]:aC))=k.hd:=Kb J J J J J J
def Po:∀k:Kd,decide (k.s∈(["box", "lamp"]:aC))=k.mk:=Kb J J J J J J
def n_pl:∀k:Kd,decide (k.s∈(["plain", "fixed", "box", "lamp"]:aC))=k.pl:=Kb J J J J J J
def eq_nil{b:List L4.D}{l:List L3.Dq}(h:yP b=Z l)(hd:wJ l<=19):en δ (.b4 b) (.b4 [])=Z (.U (decide (b=[]))):=by
 cases b with
 |nil=>rfl
 |cons x c=>
  rw[bq (List.cons_ne_nil x c)];obtain⟨y,a,rfl⟩:∃y a,l=y::a:=by
   unfold yP at h;split at h
   .split at h
    .cases h;exact⟨_,_,J⟩
    .cases h
   .cases h
  have d:Jn δ (.b4 (x::c)) (.b4 [])=O:=rfl;have e:ll (.b4 (x::c))=Z (.b4 (y::a)):=by unfold ll;rw[h]
  have f:fy (.b4 (y::a))<=20:=by rw[fy];omega
  unfold en;rw[d];show Nq δ _ _=_;unfold Nq;rw[e,show ll (.b4 [])=Z (.b4 []) from J];show (if P2 (.b4 (y::a)) (.b4 [])&&decide (fy (.b4 (y::a))<=20)&&decide (fy (.b4 [])<=20)then Z (D.U (m3 (.b4 (y::a)) (.b4 [])))else O)=_;rw[bg f];rfl
theorem D7:∀l:aC,yP (l.map D.str)=Z (l.map L3.Dq.str)/\wJ (l.map L3.Dq.str)=0
 |[]=>⟨J,J⟩
 |x::l=>by obtain⟨a,b⟩:=D7 l;rw[aI,aI];refine⟨by unfold yP;rw[a];rfl,by unfold wJ;rw[b];unfold fy;rfl⟩
def pD(q:Str×Int):L4.D:=.c4 [.str q.1,.int q.2]
theorem N3:∀l:List (Str×Int),∃m,yP (l.map pD)=Z m/\wJ m<=1
 |[]=>⟨[],J,by decide⟩
 |x::l=>by obtain⟨m,a,b⟩:=N3 l;refine⟨.c4 [.str x.1,.int x.2]::m,by rw[aI];unfold yP;rw[a];rfl,?_⟩;unfold wJ;exact rY.2 ⟨aJ 1,b⟩
section
variable{T:List Th}{M:List Mk}{dk:aC}{W:List Wy}{V:List Vb}{f:Str}{es:List L4.D}{k:L4.D->List L4.D->Prop}
def w_tm{N:aC}(h:wu es)(i:f∈l3)(o:N.length<=100)(w:∀x es,wu es->Tm f N x->k (.str x) es):W2 (xg es [.str f,.b4 (N.map D.str)]) k:=by
 let Q:L4.D->Prop:=λd=>∃x,d=.str x/\Tm f N x;have fin:∀L:List L4.D,L≠[]->L.length<=110->(∀d∈L,Q d)->Ws (uU (c2 e8 ay (vY uS 0 kY)) [.pm es,.I (.str f),.I (.b4 (N.map D.str)),.I (.b4 L)]) (λv=>False) (Rk k):=λL j l a=>wm (IC h J J j (by omega) λd hd es h=>by
  obtain⟨x,rfl,t⟩:=a d hd;exact⟨es,_,J,w x es h t⟩)
 have c:∀{X:List L4.D} {y:L4.D},(∀d∈X,Q d)->Q y->∀d∈X++[y,y],Q d:=λa b d hd=>(aV.1 hd).elim (a d) λh=>by rw[show d=_ by simpa using h];exact b
 have e:∀d∈N.map D.str++[.str "here"],Q d:=λd hd=>(aV.1 hd).elim (λh=>by
  obtain⟨x,m,rfl⟩:=au.1 h;exact⟨x,J,.inl m⟩) λh=>⟨"here", bj.1 h,.inr (.inl J)⟩
 refine Ka J (vc (vK (tm (uT (wK J J (by simp;omega)) ?_))));simp only[l3,aM,cw,or_false]at i;rcases i with rfl|rfl|rfl|rfl
 .exact zh J (vK (tm (uT (wK J J (by simp;omega)) (kc J (fin _ (by simp) (by simp;omega) (c e ⟨_,J,.inr (.inr (.inl ⟨J,by decide⟩))⟩))))))
 .exact zh J (vK (tm (uT (wK J J (by simp;omega)) (zh J (vK (tm (uT (wK J J (by simp;omega)) (fin _ (by simp) (by simp;omega) (c (c e ⟨_,J,.inr (.inr (.inl ⟨J,by decide⟩))⟩) ⟨_,J,.inr (.inr (.inr ⟨J,J⟩))⟩)))))))))
 all_goals exact kc J (kc J (fin _ (by simp) (by simp;omega) e))
def Sy{N:aC}{s:aP}{i:Nat}{k:L4.D->aP->Prop}(h:wu es)(a:f∈l3)(c:N.length<=100)(b:cV i (.pm es::.I (.str f)::s)=Z (.b4 (N.map D.str),.pm es::.I (.str f)::s))(w:∀x es,wu es->Tm f N x->k (.str x) (.pm es::.I (.str f)::s)):W2 (vY xg 0 (ax ai (a1 (cV i))) (.pm es::.I (.str f)::s)) k:=IB J (uT (uX J (uX b J)) ⟨_,J,w_tm h a c w⟩)
def okQ(T:List Th)(M:List Mk)(f:Str)(q:Str×Int):Prop:=Mt T M f q/\0<=q.2/\q.2<=3
def w_mm(g:d? T M dk W)(C:f∈l3)(h:wu es)(w:∀r es,wu es->(r=.J\/∃q,r=pD q/\okQ T M f q)->k r es):W2 (yg es [.str f,TD T,MD M]) k:=by
 have o:=g.len;have p:=g.m4;let K:=T.filter λt=>t.k.mk;have lK:K.length<=13:=bC (cB _ _) o;let R:Nat->aP->Prop:=λn A=>∃L:List (Str×Int),A=[.pm es,.I (.str f),.I (TD T),.I (MD M),.ls (L.map pD)]/\L.length<=n/\∀q∈L,okQ T M f q;have add:∀{n:Nat} {L X:List (Str×Int)},L.length<=n->(∀q∈L,okQ T M f q)->(∀q∈X,okQ T M f q)->R (n+X.length) [.pm es,.I (.str f),.I (TD T),.I (MD M),.ls (L.map pD++X.map pD)]:=λ{n L X} l a b=>⟨L++X,by rw[bu],by rw[aE];omega,λq c=>(aV.1 c).elim (a q) (b q)⟩;refine Ka J (vc (X9 (uT (wK (we (xi u5 (λm=>pD (m.n,m.mo)) M J (by omega) λm s=>⟨_,_,J,J,J⟩)) (we (xi D.str (λx=>pD (x,1)) (K.map Th.n) (CS (we (uP J (yq T (by omega) ["box", "lamp"] Kd.mk Po)))) (by rw[ag];omega) λx s=>⟨_,_,J,J,J⟩)) (by simp only[ag];omega)) ?_)));refine s_g (R:=R 17) ⟨M.map (λm=>(m.n,m.mo))++K.map λt=>(t.n,1),by simp only[bu,aW];rfl,by simp only[aE,ag];omega,λq c=>?_⟩ ?_
 .rcases aV.1 c with c|c
  .obtain⟨m,i,rfl⟩:=au.1 c;obtain⟨B,j,_⟩:=g.mo m i;exact⟨.inl (bB _ (au.2 ⟨m,i,J⟩)),by show 0<=m.mo;omega,j⟩
  .obtain⟨t,u,rfl⟩:=au.1 c;exact⟨.inl (bI _ (au.2 ⟨t,u,J⟩)),(by decide:(0:Int)<=1),(by decide:(1:Int)<=3)⟩
 rintro _ ⟨L,rfl,l,a⟩;refine QM (R 19) (E2 (uT (vU (uY J J (wU δ f ["one", "two"]))) ⟨λb=>X9 (uT (wK J J (by simp;omega)) (add l a (X:=[("it", 3),("it", 1)]) λq c=>?_)),λs=>xI J ⟨L,J,by omega,a⟩⟩)) ?_
 .have y:∀v:Int,0<=v->v<=3->okQ T M f ("it", v):=λv a e=>⟨.inr ⟨.inl ⟨J,bp b⟩,e⟩,a,e⟩;simp only[aM,cw,or_false]at c;rcases c with rfl|rfl<;>exact y _ (by decide) (by decide)
 rintro _ ⟨L,rfl,l,a⟩;refine QM (R 20) (E2 (uT (vU (uY J J (wX δ f "two"))) ⟨λb=>N1 (Pl J (uT J ⟨_,J,by simp;omega,add l a (X:=[("other", 3)]) λq c=>?_⟩)),λs=>xI J ⟨L,J,by omega,a⟩⟩)) ?_
 .rw[bj.1 c];exact⟨.inr ⟨.inr ⟨J,bp b⟩,by decide⟩,by decide,by decide⟩
 rintro _ ⟨L,rfl,l,a⟩;obtain⟨m,z,E⟩:=N3 L;exact vc (E2 (uT (Qf (vU (uY J J (eq_nil z (by omega))))) ⟨λs=>wm (uT J ⟨_,_,J,w _ _ h (.inl J)⟩),λb=>xI J (wm (w_iS h (λs=>J) J (of_decide_eq_false b) (by simp;omega) λd hd es h=>by
  obtain⟨q,c,rfl⟩:=au.1 hd;exact⟨_,_,J,w _ _ h (.inr ⟨q,J,a q c⟩)⟩))⟩))
def w_mr(g:d? T M dk W)(a:f∈l3)(h:wu es)(w:∀d es,wu es->(∀n,Tq T M (fx T M dk W V) f n d)->k d es):W2 (zI es [.str f,TD T,MD M]) k:=by
 refine Ka J (vc (vK (IB J (uT J ⟨_,J,w_mm g a h λr es h c=>?_⟩))));rcases c with rfl|⟨q,rfl,b,i,q3⟩
 .exact zh J (wm (uT J ⟨_,_,J,w _ _ h λn=>⟨Vv,.lit⟩⟩))
 .exact kc J (wm (m? (xJ (uT J (xJ (Vu h J (by omega) (by omega) λv es e j h=>uT J (uT J ⟨_,_,J,w _ _ h λn=>⟨Yd g a b e (by omega),.mark b⟩⟩)))))))
end
section
variable{T:List Th}{M:List Mk}{dk:aC}{W:List Wy}{V:List Vb}{f:Str}{es:List L4.D}{k:L4.D->List L4.D->Prop}
def acN(n:Nat):∃b:Int,(b=8\/(b=10/\∃m,n=m+1))/\∀a:aP,cV 4 a=Z (.int (n:Nat),a)->c2 xV jq (c2 zL cv (c1 OK (c2 Np aH aO))) a=Z (.int b,a):=by
 have c:∀a:aP,cV 4 a=Z (.int (n:Nat),a)->c2 Np aH aO a=Z (.U (decide ((0:Int)<(n:Nat))),a):=λa h=>uY h J J;cases n with
 |zero=>exact⟨8,.inl J,λa h=>uY J (uY J (vO (c a h) J) J) J⟩
 |succ m=>exact⟨10,.inr ⟨J,m,J⟩,λa h=>uY J (uY J (vO ((c a h).t (by rw[bg (by omega)])) J) J) J⟩
def c8{v:Int}(h:0<=v):v=0\/v=1\/v=2\/v=3\/v=4\/v=5\/v=6\/v=7\/8<=v:=by
 obtain⟨n,rfl⟩:=lI h;rcases n with _|_|_|_|_|_|_|_|n
 iterate 8 decide
 iterate 8 right
 exact Int.ofNat_le.2 (Nat.le_add_left 8 n)
def w_tb(g:d? T M dk W)(i:f∈l3)(n:Nat)(o:List L4.D->List L4.D->Option (L4.D×List L4.D))(A:∀m,n=m+1->∀{es} {k:L4.D->List L4.D->Prop},wu es->(∀d es,wu es->Tq T M (fx T M dk W V) f m d->k d es)->W2 (o es [.str f,TD T,MD M,.int (m:Nat)]) k)(h:wu es)(w:∀d es,wu es->Tq T M (fx T M dk W V) f n d->k d es):
  W2 (qx 4 10 (zW o) es [.str f,TD T,MD M,.int (n:Nat)]) k:=by
 have F:=g.len;have lP:(T.map Th.n).length<=100:=by rw[ag];omega
 have lH:(l0 T).length<=100:=by unfold l0;rw[ag];exact bC (cB _ _) (by omega)
 refine Ka J (vc (vK (tm (uT (xi eo (λt=>D.str t.n) T J (by omega) λt _=>⟨_,_,J,J,J⟩) ?_))));rw[show (T.map λt=>D.str t.n)=(T.map Th.n).map D.str by rw[aW];rfl];refine vc (vK (tm (uT (uP J (yq T (by omega) ["room", "box", "you"] Kd.hd Pn)) ?_)));obtain⟨b,u,r⟩:=acN n;refine vc (vK (Vu h (r _ J) (by omega) (by omega) λv es B C h=>?_));have j:∀{d es s},wu es->Tq T M (fx T M dk W V) f n d->Rk k d (.pm es::s):=λ{d es s} h t=>⟨es,s,J,w d es h t⟩;have mk:∀{es s},wu es->W2 (vY zI 0 fD (.pm es::.I (.str f)::.I (TD T)::.I (MD M)::s)) (Rk k):=λh=>IB J (uT J ⟨_,J,w_mr g i h λd es h t=>j h (t n)⟩);have p:∀{m:Nat} {es s k},n=m+1->wu es->(∀d es,wu es->Tq T M (fx T M dk W V) f m d->k d (.pm es::.I (.str f)::.I (TD T)::.I (MD M)::.I (.int (n:Nat))::s))->W2 (vY o 0 kK (.pm es::.I (.str f)::.I (TD T)::.I (MD M)::.I (.int (n:Nat))::s)) k:=λ{m es s k} e h w=>IB J (uT (show _=Z ([.str f,TD T,MD M,.int (((n:Nat):Int) - 1)],_) from J) ⟨_,J,by rw[show ((n:Nat):Int) - 1=(m:Nat) by omega];exact A m e h w⟩);obtain rfl|rfl|rfl|rfl|rfl|rfl|rfl|rfl|G:=c8 B
 iterate 2 exact zh J (wm (m? (xJ (Sy h i lP J λx es h a=>xJ (Sy h i lH J λy es h l=>uT J (uT J (j h ⟨aeN g i a l,.ats a l⟩)))))))
 .exact kc J (zh J (wm (m? (xJ (Sy h i lP J λx es h a=>uT J (uT J (j h ⟨acL g i a,.has a⟩)))))))
 .exact kc J (kc J (zh J (wm (m? (xJ (Sy h i lP J λx es h a=>uT J (uT J (j h ⟨Yc g i a,.seen a⟩))))))))
 .exact kc J (kc J (kc J (zh J (vc (xI J (wm (m? (xJ (Sy h i lP J λx es h a=>xJ (IC (L:=(["plain", "fixed", "box", "lamp", "room", "you"]:aC).map D.str) h J J (by decide) (by decide) λd hd es h=>by
   obtain⟨y,l,rfl⟩:=au.1 hd;exact uT J (uT J (j h ⟨Ye g i a l,.kind a⟩))))))))))))
 .iterate 4 refine kc J ?_
  exact zh J (wm (uT J (j h ⟨Vv,.lit⟩)))
 .iterate 5 refine kc J ?_
  refine vc (E2 (w_an (uT J ⟨λ_=>uT (vU (uY J J (wX δ f "way"))) ⟨λc=>?_,λ_=>xI J (zh J (wm (mk h)))⟩,λz=>by cases z⟩)));have c:=bp c;exact wm (m? (xJ (IC (L:=(["north", "up", "outside", "down"]:aC).map D.str) h J J (by decide) (by decide) λd hd es h=>by
   obtain⟨y,l,rfl⟩:=au.1 hd;exact uT J (uT J (j h ⟨by rw[c];exact Yf l,.word c⟩)))))
 .iterate 6 refine kc J ?_
  exact zh J (wm (mk h))
 .obtain⟨m,e⟩:∃m,n=m+1:=by
   rcases u with rfl|⟨_,h⟩
   .exact ar C (by omega)
   .exact h
  obtain rfl|rfl:v=8\/v=9:=by omega
  .iterate 7 refine kc J ?_
   exact zh J (wm (m? (xJ (p e h λd es h t=>uT J (uT J (j h (by rw[e];exact⟨Vt t.1,.no t.2⟩)))))))
  .iterate 8 refine kc J ?_
   exact vc (vK (p e h λd es h t=>wm (m? (xJ (uT J (xJ (p e h λE es h q=>uT J (uT J (j h (by rw[e];exact⟨Sx t.1 q.1,.bo t.2 q.2⟩))))))))))
theorem w_ts(g:d? T M dk W)(a:f∈l3):∀(n:Nat) {es:List L4.D} {k:L4.D->List L4.D->Prop},wu es->(∀d es,wu es->Tq T M (fx T M dk W V) f n d->k d es)->W2 (xh (n+1) es [.str f,TD T,MD M,.int (n:Nat)]) k
 |0,es,k,h,w=>w_tb g a 0 (xh 0) (λm b=>by cases b) h w
 |n+1,es,k,h,w=>w_tb g a (n+1) (xh (n+1)) (λm b es k h w=>by cases b;exact w_ts g a n h w) h w
end
section
variable{T:List Th}{M:List Mk}{dk:aC}{W:List Wy}{V:List Vb}{f:Str}{es:List L4.D}{k:L4.D->List L4.D->Prop}
def me_T(g:d? T M dk W):∃t∈T,t.n="me" /\ t.k=.you:=by
 have h:("me" : Str)∈(T.filter λt=>decide (t.k=.you)).map Th.n:=by rw[g.y1];exact bj.2 J
 obtain⟨t,a,e⟩:=au.1 h;exact⟨t,(aS.1 a).1,e,bp (aS.1 a).2⟩
def rm_T{x:Str}(h:x∈i0 T):∃t∈T,t.n=x/\t.k=.room:=by obtain⟨t,a,rfl⟩:=au.1 h;exact⟨t,(aS.1 a).1,J,bp (aS.1 a).2⟩
def Y7{x:Str}(h:x∈i0 T):x∈l0 T:=by obtain⟨t,b,rfl,a⟩:=rm_T h;exact bQ (aS.2 ⟨b,by rw[a];rfl⟩)
def aeR(g:d? T M dk W):i0 T≠[]:=λz=>by have:=g.r1;unfold i0 at z;rw[ph]at z;rw[z]at this;exact ar this (by decide)
def Mw(T:List Th)(f:Str)(L:aC):Prop:=∀x∈L,Mv T f x/\x≠"me"
def aeS(g:d? T M dk W):Mw T f ((T.filter λt=>t.k.pl).map Th.n):=λx d=>by obtain⟨t,c,rfl⟩:=au.1 d;obtain⟨b,a⟩:=aS.1 c;refine⟨.inl ⟨t,b,J,λz=>by rw[z]at a;cases a⟩,?_⟩;have:=(g.wd t b).2 a;exact bp (aQ.1 (show (ri.all λq=>decide (q.1≠"me"))=γ by kernel_rfl) t.nw this)
def w_dd(g:d? T M dk W)(o:f∈l3)(h:wu es)(w:∀d es,wu es->Dq T M (fx T M dk W V) f d->k d es):W2 (DP es [.str f,TD T,MD M]) k:=by
 have E:=g.len;let X:Sl->Sl->Sl->aP:=λa b c=>[.I (.str f),.I (TD T),.I (MD M),a,b,c,.un];refine Ka J (vc (vK (IB J (uT J ⟨_,J,w_mm g o h λr es h I=>?_⟩))));have u:∀{b c:Nat} {es s C},0<b->b<=1000->wu es->(∀p es,wu es->C p (.pm es::s))->W2 (cT (c2 (en δ) (vY uS 0 (a1 (cC (.int b)))) (cC (.int c))) (.pm es::s)) C:=λ{b c es s C} A H h w=>w_T (N2 (Eb h J A H λm es _ h=>uT J ⟨_,zC δ _ _,_,J,w _ es h⟩));refine QM (λl=>∃es,l=.pm es::X (.I r) .un .un/\wu es) ?_ ?_
 .rcases I with rfl|⟨q,rfl,F,Q,q3⟩
  .exact s_n J (xI J ⟨es,J,h⟩)
  .exact E2 (w_an (uT J ⟨λ_=>u (by decide) (by decide) h λp es h=>⟨λ_=>wm (m? (xJ (uT J (xJ (Vu h J (by omega) (by omega) λv es G R h=>uT J (uT J ⟨_,_,J,w _ _ h ⟨acM g o F G (by omega),.put F G⟩⟩)))))),λ_=>xI J ⟨es,J,h⟩⟩,λz=>by cases z⟩))
 rintro _ ⟨es,rfl,h⟩;let PL:aC:=(T.filter λt=>t.k.pl).map Th.n;have lPL:PL.length<=7:=by show (cG Th.n _).length<=7;rw[ag];exact g.p7
 refine vc (vK (tm (uT (uP J (yq T (by omega) ["plain", "fixed", "box", "lamp"] Kd.pl n_pl)) ?_)));let S:aC->Sl:=λL=>.I (.b4 (L.map D.str));have nilT:∀{es} (L:aC) (s:aP),cT (c2 (en δ) bR (cL (vF vA))) (.pm es::.I (.str f)::.I (TD T)::.I (MD M)::.I r::S L::s)=Z (decide (L.map D.str=[]),.pm es::.I (.str f)::.I (TD T)::.I (MD M)::.I r::S L::s):=λL s=>vU (uY J J (eq_nil (D7 L).1 (by rw[(D7 L).2];decide)));refine QM (λl=>∃es L,l=.pm es::X (.I r) (S L) .un/\wu es/\Mw T f L/\L.length<=10) (E2 (w_mo (λb l=>∃es,l=.pm es::X (.I r) (S PL) .un/\wu es/\(b=γ->f∈(["one", "two"]:aC))) ?_ ?_)) ?_
 .exact w_an (uT (vU (uY J J (wU δ f ["one", "two"]))) ⟨λi=>w_or (uT (nilT PL _) ⟨λ_=>u (by decide) (by decide) h λp es h=>⟨es,J,h,λ_=>bp i⟩,λ_=>⟨es,J,h,λ_=>bp i⟩⟩),λ_=>⟨es,J,h,λz=>(by cases z)⟩⟩)
 .rintro b _ ⟨es,rfl,h,i⟩;refine⟨λb=>?_,λ_=>xI J ⟨es,PL,J,h,aeS g,by omega⟩⟩;have i:=i b;have B:Mv T f "it" /\ ("it" : Str)≠"me" := ⟨.inr (.inl ⟨J,i⟩),by decide⟩;simp only[aM,cw,or_false]at i;rcases i with rfl|rfl
  .exact xI J ⟨es,["it", "it", "it"],J,h,λx e=>by rw[show x="it" by simpa using e];exact B,by decide⟩
  .exact xI J ⟨es,["it", "it", "other"],J,h,λx e=>by
    simp only[aM,cw,or_false]at e;rcases e with rfl|rfl|rfl
    .exact B
    .exact B
    .exact⟨.inr (.inr ⟨J,J⟩),by decide⟩,by decide⟩
 rintro _ ⟨es,L,rfl,h,mL,lL⟩;have lR:(i0 T).length<=13:=by unfold i0;rw[ag];exact bC (cB _ _) E
 have lH:(l0 T).length<=13:=by unfold l0;rw[ag];exact bC (cB _ _) E
 refine vc (vK (tm (uT (uP J (yq T (by omega) ["room"] (λk=>decide (k=.room)) MF)) ?_)));obtain⟨P,htm,ntm,ktm⟩:=me_T g;have meM:Mv T f "me" := .inl ⟨P,htm,ntm,λz=>by rw[ktm]at z;cases z⟩;refine vc (E2 (w_mo (λb l=>∃es,l=.pm es::X (.I r) (S L) (S (i0 T))/\wu es/\(b=δ->L≠[])) (w_or (uT (nilT L _) ⟨λb=>u (by decide) (by decide) h λp es h=>⟨es,J,h,λ_ z=>of_decide_eq_false b (by rw[z];rfl)⟩,λ_=>⟨es,J,h,λz=>(by cases z)⟩⟩)) ?_));rintro b _ ⟨es,rfl,h,A⟩;refine⟨λ_=>?_,λb=>xI J ?_⟩
 .exact wm (m? (xJ (uT J (xJ (IC h J J (by simpa using aeR g) (by rw[ag];omega) λd hd es h=>by
   obtain⟨y,j,rfl⟩:=au.1 hd;exact uT J (uT J ⟨_,_,J,w _ _ h ⟨QN g o meM (.inl (Y7 j)) λ_=>rm_T j,.Rn meM (.inl (Y7 j)) λ_=>rm_T j⟩⟩))))))
 .refine vc (vK (tm (uT (uP J (yq T (by omega) ["room", "box", "you"] Kd.hd Pn)) ?_)));exact wm (m? (xJ (IC h J J (by simpa using A b) (by rw[ag];omega) λd hd es h=>by
   obtain⟨x,e,rfl⟩:=au.1 hd;exact xJ (Sy (N:=l0 T) h o (by omega) J λy es h j=>uT J (uT J ⟨_,_,J,w _ _ h ⟨QN g o (mL x e).1 j λz=>ar z (mL x e).2,.Rn (mL x e).1 j λz=>ar z (mL x e).2⟩⟩)))))
end
def gl:List dr->List (List L4.D)->dr->List L4.D
 |k::b,a::dss,j=>if k=j then a else gl b dss j
 |_,_,_=>[]
theorem QO:∀(a:List dr) (dss:List (List L4.D)) (j:dr),(wG a (dss.map .b4) j).getD (.b4 [])=.b4 (gl a dss j)
 |[],dss,j=>by cases dss<;>rfl
 |k::a,[],j=>rfl
 |k::a,b::dss,j=>by
  rw[aI];unfold wG gl;by_cases h:k=j
  .rw[aj h,aj h];rfl
  .rw[ak h,ak h];exact QO a dss j
theorem Vw{d:L4.D}{k j:dr}:∀(a:List dr) (dss:List (List L4.D)),a.length=dss.length->(k=j->k∈a)->gl a (fP (λi c=>if i=k then c++[d]else c) a dss) j=gl a dss j++if k=j then [d]else []
 |[],[],_,f=>by rw[ak λh=>(by cases f h)];rfl
 |[],_::_,h,_=>by cases h
 |_::_,[],h,_=>by cases h
 |k0::a,c::dss,h,f=>by
  rw[gL];unfold gl;by_cases e:k0=j
  .subst e;rw[aj J,aj J];by_cases b:k0=k
   .rw[aj b,aj b.symm]
   .rw[ak b,ak λz=>b z.symm,bT]
  .rw[ak e,ak e];exact Vw a dss (by simpa using h) λz=>by
    rcases aM.1 (f z)with y|y
    .exact ar (y.symm.t z) e
    .exact y
theorem Vx{d:L4.D}{k j:dr}:∀(a:List dr) (dss:List (List L4.D)),a.length=dss.length->k∉a->gl (a++[k]) (dss++[[d]]) j=gl a dss j++if k=j then [d]else []
 |[],[],_,_=>rfl
 |[],_::_,h,_=>by cases h
 |_::_,[],h,_=>by cases h
 |k0::a,c::dss,h,b=>by
  rw[mF,mF];unfold gl;by_cases e:k0=j
  .rw[aj e,aj e,ak λz=>b (by rw[z,e];exact ba),bT]
  .rw[ak e,ak e];exact Vx a dss (by simpa using h) λz=>b (bc _ z)
theorem Vy{d:L4.D}{k:dr}{P Q:List L4.D->Prop}(e:∀a,P a->Q a)(f:∀a,P a->Q (a++[d])):∀(c:List dr) (dss:List (List L4.D)),(∀a∈dss,P a)->∀x∈fP (λi a=>if i=k then a++[d]else a) c dss,Q x
 |[],_,_,x,b=>by cases b
 |_::_,[],_,x,b=>by cases b
 |k0::c,a::dss,h,x,b=>by
  rw[gL]at b;rcases aM.1 b with rfl|b
  .have:=h a ba;split
   .exact f _ this
   .exact e _ this
  .exact Vy e f c dss (λa hd=>h a (bc _ hd)) x b
theorem Kc{d:L4.D}(hd:vu 16 14 d=γ):∀a:List L4.D,z7 16 14 a=γ->z7 16 14 (a++[d])=γ
 |[],_=>by rw[cg];unfold z7;rw[hd];rfl
 |x::a,h=>by rw[mF];unfold z7 at h ⊢;rw[aU]at h ⊢;exact⟨h.1,Kc hd a h.2⟩
theorem BS:∀a:List L4.D,(∀d∈a,vu 16 14 d=γ)->z7 16 14 a=γ
 |[],_=>by unfold z7;rfl
 |x::a,h=>by unfold z7;rw[aU];exact⟨h x ba,BS a λd hd=>h d (bc _ hd)⟩
def kv(d:L4.D):dr:=match uV yV "verb" d with
 |some x=>(BD x).getD (.inl 0)
 |none=>.inl 0
def gK(d:L4.D):Bool:=(match uV yV "verb" d with
 |some x=>(BD x).isSome
 |none=>δ)&&vu 16 14 d
set_option tactic.hygienic true
def aeT{d:L4.D}(h:gK d=γ):∃x,uV yV "verb" d=Z x/\BD x=Z (kv d):=by
 unfold gK at h;rw[aU]at h;obtain⟨h,_⟩:=h;unfold kv;split at h
 .rename_i x e;rw[e];cases a:BD x with
  |none=>rw[a]at h;cases h
  |some y=>exact⟨x,J,a⟩
 .cases h
set_option tactic.hygienic false
theorem Vz:∀(L:List L4.D) (b:List dr) (dss:List (List L4.D)),(∀d∈L,gK d=γ)->b.length=dss.length->b.length+L.length<1000->(∀a∈dss,a.length+L.length<1000/\z7 16 14 a=γ)->
  ∃e dss',Dl (uV yV "verb") L b dss=Z (e,dss')/\(∀j,gl e dss' j=gl b dss j++L.filter λd=>decide (kv d=j))/\∀a∈dss',z7 16 14 a=γ
 |[],b,dss,_,_,_,h=>⟨b,dss,J,λj=>by rw[List.filter_nil,bT],λa hd=>(h a hd).2⟩
 |d::L,b,dss,l,i,q,h=>by
  rw[aN]at q;have hL:∀a∈dss,a.length+L.length+1<1000/\z7 16 14 a=γ:=λa hd=>⟨by have:=(h a hd).1;rw[aN]at this;omega,(h a hd).2⟩;have f:=l d ba;have m:vu 16 14 d=γ:=by unfold gK at f;rw[aU]at f;exact f.2
  obtain⟨x,o,p⟩:=aeT f;have st:(B5 b dss (kv d) d).1.length=(B5 b dss (kv d) d).2.length/\(B5 b dss (kv d) d).1.length+L.length<1000/\(∀a∈(B5 b dss (kv d) d).2,a.length+L.length<1000/\z7 16 14 a=γ)/\∀j,gl (B5 b dss (kv d) d).1 (B5 b dss (kv d) d).2 j=gl b dss j++if kv d=j then [d]else []:=by
   unfold B5;by_cases c:Ku b (kv d)=γ
   .rw[aj c];refine⟨by simp only[jK];omega,by simp only;omega,Vy (λa h=>⟨by omega,h.2⟩) (λa h=>⟨by rw[aE,di];omega,Kc m a h.2⟩) b dss hL,λj=>Vw b dss i λv=>Fs.1 c⟩
   .rw[ak c];refine⟨by simp[i],by simp only[aE,di];omega,λa hd=>?_,λj=>Vx b dss i λz=>c (Fs.2 z)⟩;rcases aV.1 hd with hd|hd
    .exact⟨by have:=(hL a hd).1;omega,(hL a hd).2⟩
    .rw[bj.1 hd];exact⟨by simp only[di];omega,Kc m [] (by unfold z7;rfl)⟩
  obtain⟨w,y,A,B⟩:=st;obtain⟨e,dss',t,u,q3⟩:=Vz L (B5 b dss (kv d) d).1 (B5 b dss (kv d) d).2 (λx r=>l x (bc _ r)) w y A;refine⟨e,dss',?_,λj=>?_,q3⟩
  .unfold Dl;simp only[o,p];rw[aj]
   .exact t
   .rw[aU];refine⟨bg (by omega),aQ.2 λa hd=>bg (by have:=(hL a hd).1;omega)⟩
  .rw[u j,B j,gU,cc];by_cases c:kv d=j
   .simp[c]
   .simp[c]
def ruN:aC:=["verb", "tests", "deeds", "text", "refuses"]
def p0(v:Str)(c a:List L4.D)(d:Str)(b:Bool):L4.D:=.obj 13 ruN [.str v,.b4 c,.b4 a,.str d,.U b]
structure RuOk(w d:L4.D):Prop where
 r:GY [w,d]=Z (.U γ)
 g:gK d=γ
 c:GR [d]=Z d
def RuS(T:List Th)(M:List Mk)(V:List Vb)(d:L4.D):Prop:=∃v∈V++v9,∃b a h c,d=p0 v.n b a h c/\(∀t∈b,Ts T M v.f 2 t)/\∀e∈a,Ds T M v.f e
def RuQ(T:List Th)(M:List Mk)(V:List Vb)(w d:L4.D):Prop:=RuOk w d/\RuS T M V d
section
variable{T:List Th}{M:List Mk}{dk:aC}{W:List Wy}{V:List Vb}{f:Str}{es:List L4.D}
def Pp(b:((V++v9).flatMap Vb.ws).Nodup){v:Vb}(a:v∈V++v9):yw [fx T M dk W V,.str v.n]=Z (kh v):=by
 have e:yw [fx T M dk W V,.str v.n]=Dj (vwD (V++v9)) (.str v.n):=by kernel_rfl
 rw[e,MC b a]
def Yg(A:∀v∈V,v∈v6)(E:((V++v9).flatMap Vb.ws).Nodup){v:Vb}(i:v∈V++v9){b a:List L4.D}(p:∀t∈b,Tk (fx T M dk W V) v.f 2 t)(lt:b.length<=3)(hd:∀d∈a,Dd (fx T M dk W V) v.f d)(ld:a.length<=3){l:Bool}(B:l=γ->a=[]){j:Str}(C:BQ [.str j]=Z (.U γ)):RuOk (fx T M dk W V) (p0 v.n b a j l):=by
 let w:=fx T M dk W V;let r:=p0 v.n b a j l;have o:v∈v6++v9:=by
  rcases aV.1 i with i|i
  .exact bI _ (A v i)
  .exact bB _ i
 have evo:=Pp (T:=T) (M:=M) (dk:=dk) (W:=W) E i;have y:AJ [w,.str v.n]=Z (.U γ):=by let m:aP:=[.I w,.I (.str v.n)];have F:yb [.str v.n]=Z (.U γ):=CA (aQ.1 (show ((v6++v9).all λv=>isT (yb [.str v.n]))=γ by kernel_rfl) v o);have mt:vh wQ "verb_of" ab bP m=Z (kh v,m):=vz J J J J evo;refine u6 J (vq ((vd (uP J F)).t ((vd (uY mt J J)).t (uY (vO mt J) J ?_))));rw[wX];simp
 refine⟨?_,?_,by kernel_rfl⟩
 .let m:aP:=[.I w,.I r,.un];let G:aP:=[.I w,.I r,.I (.str v.f)];refine u6 (ρ:=G) J ?_;unfold GW;refine(yh (xN J (xN (wW (vU (uP J y))) (wW (vU (uP J C)))))).t ?_;refine(uR ((wa (vO (z:=.str v.f) (vz J J J J evo) J)))).t (vq ?_);have q:DI [w,.str v.f,.b4 b]=Z (.U γ):=u6 J (vq ((vd (uP J (QI _ _ (by omega)))).t (zA id b (by rw[hZ];rfl) (by omega) λt c=>⟨[.I t,.I w,.I (.str v.f)],[.I t,.I w,.I (.str v.f)],J,uP J ((p t c).2 4 (by decide) (by decide)),J⟩)));have u:DJ [w,.str v.f,.b4 a]=Z (.U γ):=u6 J (vq ((vd (uP J (QI _ _ (by omega)))).t (zA id a (by rw[hZ];rfl) (by omega) λt c=>⟨[.I t,.I w,.I (.str v.f)],[.I t,.I w,.I (.str v.f)],J,uP J (hd t c).2,J⟩)));have x:y6 [r]=Z (.U γ):=by
   cases l with
   |false=>kernel_rfl
   |true=>rw[show r=p0 v.n b [] j γ from by show p0 v.n b a j γ=_;rw[B J]];kernel_rfl
  exact(vd (uP J q)).t ((vd (uP J u)).t (uP J x))
 .have e:gK r=(z7 16 14 b&&(z7 16 14 a&&γ)):=by kernel_rfl
  rw[e,BS b λt h=>(p t h).1,BS a λt h=>(hd t h).1];rfl
end
def nf(v:Vb):Str×Str:=(v.n,v.f)
def prS(q:Str×Str):L4.D:=.c4 [.str q.1,.str q.2]
def bsL:List (Str×Str):=[("take", "one"),("open", "one"),("put", "two"),("go", "way"),("wait", "alone"),("drop", "one")]
def fmL(V:List Vb):List (Str×Str):=bsL++(V.map nf++V.map nf)
def v_fm{v:Vb}(h:v∈v6++v9):v.f∈l3:=bp (aQ.1 (show ((v6++v9).all λv=>decide (v.f∈l3))=γ by kernel_rfl) v h)
def fm_v{V:List Vb}{q:Str×Str}(h:q∈fmL V):∃v∈V++v9,nf v=q:=by
 rcases aV.1 h with h|h
 .have:=(show ∀q∈bsL,q∈v9.map nf by decide +kernel) q h;obtain⟨v,a,e⟩:=au.1 this;exact⟨v,bB _ a,e⟩
 .have h:q∈V.map nf:=(aV.1 h).elim id id;obtain⟨v,a,e⟩:=au.1 h;exact⟨v,bI _ a,e⟩
def tx1(k:Nat):Option L4.D:=(zl (.int (k:Nat))).bind (Fk (.str "Text "))
def tx2(d:Nat):Option L4.D:=K0 (.str ".") (.int (1+(d:Nat)))
def isS:Option L4.D->Bool
 |some (.str x)=>isT (BQ [.str x])
 |_=>δ
def acQ:((bf 12).all λk=>(bf 9).all λd=>isS ((tx1 k).bind λx=>(tx2 d).bind λy=>Fk x y))=γ:=by kernel_rfl
set_option tactic.hygienic true
def aeV{k:Nat}(m:k<12):∃x a,zl (.int (k:Nat))=Z x/\Fk (.str "Text ") x=Z a/\∀d:Nat,d<9->∃y b,K0 (.str ".") (.int (1+(d:Nat)))=Z y/\Fk a y=Z (.str b)/\BQ [.str b]=Z (.U γ):=by
 have h:=λd hd=>aQ.1 (aQ.1 acQ k (bN.2 m)) d (bN.2 hd);cases c:tx1 k with
 |none=>have:=h 0 (by decide);rw[c]at this;cases this
 |some a=>
  obtain⟨x,f,i⟩:=lG.1 c;refine⟨x,a,f,i,λd hd=>?_⟩;have h:=h d hd;rw[c]at h;unfold isS at h;split at h
  .rename_i b e;obtain⟨y,j,l⟩:=lG.1 (show (tx2 d).bind _=Z _ from e);exact⟨y,b,j,l,CA h⟩
  .cases h
set_option tactic.hygienic false
def snoc{a:Type}{P:a->Prop}{l:List a}{x:a}(h:∀y∈l,P y)(b:P x):∀y∈l++[x],P y:=λy c=>(aV.1 c).elim (h y) λh=>by rw[bj.1 h];exact b
def Pq{n m:Nat}{d:L4.D}(h:((bf n).map λj:Nat=>D.int j)[m]?=Z d):m<n/\d=.int m:=by have a:=(bX.1 h).1;rw[ag,bS]at a;rw[bx,l9 a]at h;cases h;exact⟨a,J⟩
def w_rl{T:List Th}{M:List Mk}{A:aC}{W:List Wy}{V:List Vb}{c:List L4.D}{k:L4.D->List L4.D->Prop}(g:d? T M A W)(P:∀v∈V,v∈v6)(lV:V.length<=6)(nd:((V++v9).flatMap Vb.ws).Nodup)(h:wu c)(w:∀R c,wu c->R.length<=12->(∀r∈R,RuQ T M V (fx T M A W V) r)->k (.b4 R) c):W2 (Cu c [TD T,MD M,VD V,.int 12]) k:=by
 let Q:L4.D:=.b4 ((fmL V).map prS);have Y:∀e:aP,cV 3 e=Z (VD V,e)->cL (Y' (cL (u7 1 [] (iL ay) (gN 0) vX (vI sk))) cv) e=Z (.b4 ((V.map nf++V.map nf).map prS),e):=λe hρ=>by refine we ?_;unfold Y';rw[we (xi kh (λv=>prS (nf v)) V (CS hρ) (by omega) λv s=>⟨[.I (kh v)],[.I (kh v)],J,J,J⟩)];show (if (V.map λv=>prS (nf v)).length * 2<=1000/\(-1000:Int)<=2/\(2:Int)<=1000 then Z ((b0 2 (V.map λv=>prS (nf v))).flatten,e)else O)=_;rw[aj ⟨by rw[ag];omega,by decide,by decide⟩,bu,aW];simp[b0,pZ]
 refine Ka J (vc (xI J (vc (vK (tm (uT (wK (xs:=bsL.map prS) J (Y _ J) (by simp[bsL];omega)) ?_))))));rw[<-bu];let u:=λ(i:Nat) (e:aP)=>∃c R E F G l o j,e=[.pm c,.I (TD T),.I (MD M),.I (VD V),.I (.int 12),.I Q,.ls R,E,F,G,l,o,j]/\wu c/\R.length<=i/\∀r∈R,RuQ T M V (fx T M A W V) r;refine vc (xI J (vc (G1 (Pm (Eb (b:=13) h J (by decide) (by decide) λm c hm h=>⟨m,J,by omega,u,⟨c,[],_,_,_,_,_,_,J,h,aJ _,λr hr=>(by cases hr)⟩,?_,?_⟩)))))
 .rintro i _ _ hd ⟨c,R,E,F,G,l,o,j,rfl,h,lR,ok⟩;obtain⟨hi,rfl⟩:=Pq hd;have lF:(fmL V).length<=18:=by unfold fmL;rw[aE,aE,ag];show 6+_<=18;omega
  refine⟨_,J,vc (s_as (IC h J J (by unfold fmL bsL;simp) (by rw[ag];omega) λd hd c h=>?_))⟩;obtain⟨q,hq,rfl⟩:=au.1 hd;obtain⟨v,B,rfl⟩:=fm_v hq;have S:=v_fm ((aV.1 B).elim (λB=>bI _ (P v B)) (bB _));let u:=λ(xs:List L4.D) (e:aP)=>∃c,e=[.pm c,.I (TD T),.I (MD M),.I (VD V),.I (.int 12),.I Q,.ls R,.I (.int i),.I (.str v.n),.I (.str v.f),l,o,j]/\wu c/\∀x∈xs,Tq T M (fx T M A W V) v.f 2 x;refine⟨_,J,vc (vK (tm (w_cp (Pm (Eb (b:=4) h J (by decide) (by decide) λm2 c hm2 h=>⟨m2,J,by omega,by rw[ag,bS];omega,u,⟨c,J,h,λx C=>(by cases C)⟩,?_,?_⟩)))))⟩
  .rintro xs d _ ⟨c,rfl,h,a⟩;exact⟨_,J,IB J (uT J ⟨_,J,w_ts g S 2 h λx c h t=>⟨_,J,c,J,h,snoc a t⟩⟩)⟩
  rintro H _ lts ⟨c,rfl,h,hts⟩;rw[ag,bS]at lts;refine vc (vK (N2 (Eb h J (by decide) (by decide) λI c s h=>uT J ⟨_,zC δ _ _,?_⟩)));generalize hrf:(if δ then !decide ((I:Int)=0)else decide ((I:Int)=0))=p;let u:=λ(xs:List L4.D) (e:aP)=>∃c,e=[.pm c,.I (TD T),.I (MD M),.I (VD V),.I (.int 12),.I Q,.ls R,.I (.int i),.I (.str v.n),.I (.str v.f),.I (.b4 H),.I (.U p),j]/\wu c/\∀x∈xs,Dq T M (fx T M A W V) v.f x;refine vc (vK (tm (w_cp (Pm (N2 (Eb (b:=4) h J (by decide) (by decide) λU c hm3 h=>uT J ⟨.int ((if p then 0 else U:Nat):Int),?_,if p then 0 else U,J,by split<;>omega,by rw[ag,bS];split<;>omega,u,⟨c,J,h,λx C=>(by cases C)⟩,?_,?_⟩))))))
  .rw[zr (.inr (by cases p<;>decide))];cases p<;>simp
  .rintro xs d _ ⟨c,rfl,h,a⟩;exact⟨_,J,IB J (uT J ⟨_,J,w_dd g S h λx c h t=>⟨_,J,c,J,h,snoc a t⟩⟩)⟩
  rintro N _ lds ⟨c,rfl,h,hds⟩;rw[ag,bS]at lds;obtain⟨x,a,w1,w2,w3⟩:=aeV (k:=i) (by omega);refine N1 (Pl J (m? (xJ (uT J (xJ (uT J (xJ (uT J (xJ (N2 (uT (uY J (vO J w1) w2) (N2 (uT J (N2 (uT J (Eb h J (by decide) (by decide) λn7 c hn h=>?_))))))))))))))));obtain⟨y,X,y1,y2,y3⟩:=w3 n7 hn;refine⟨_,J,y,y1,_,y2,uT J (uT (by kernel_rfl) ⟨_,J,by omega,c,R++[p0 v.n H N X p],_,_,_,_,_,_,J,h,by rw[aE];exact qq lR,snoc ok ⟨Yg P nd B (λt h=>(hts t h).1) (by omega) (λt h=>(hds t h).1) (by split at lds<;>omega) (λz=>?_) y3,v,B,H,N,X,p,J,λt h=>(hts t h).2,λt h=>(hds t h).2⟩⟩)⟩;rw[aj z]at lds;exact jE.1 lds
 .rintro _ ⟨c,R,E,F,G,l,o,j,rfl,h,lR,ok⟩;rw[ag,bS]at lR;exact Pk (uT J ⟨_,_,J,w R c h (by omega) ok⟩)
section
variable{es:List L4.D}{k:L4.D->List L4.D->Prop}
def w_vb(h:wu es)(w:∀t n es,t<6->n<7->wu es->k (VD (vL t n)) es):W2 (Ct es []) k:=by
 refine Ka J (vc (xI (ρ':=[.pm es,.I (VD (v6.take 3)),.un]) (by kernel_rfl) (vc (xI (ρ':=[.pm es,.I (VD v6),.un]) (by kernel_rfl) (vc (vK (Eb h J (by decide) (by decide) λt es a h=>Pk (w_sx (uT (b:=[.pm es,.I (VD v6),.I (.int t)]) (we (wK (xs:=(v6.map kh).drop t) (ys:=(v6.map kh).take t) (ρ1:=[.pm es,.I (VD v6),.I (.int t)]) (we ?_) (we ?_) ?_)) ⟨_,J,uT J (w_oA (Eb (b:=7) h J (by decide) (by decide) λn es d h=>⟨_,J,?_⟩))⟩)))))))))
 .show Z (mq (v6.map kh) (Z (t:Int)) O,_)=_;rw[Vl t (by rw[ag];exact gx a)];rfl
 .show Z (mq (v6.map kh) O (Z (t:Int)),_)=_;rw[J1 t (by rw[ag];exact gx a)]
 .rw[fI,bZ,ag];show 6 - t+min t 6<=1000;omega
 .rw[J1 n (by rw[aE,fI,bZ,ag];show n<=6 - t+min t 6;omega),<- m5,<- i4,<- bu,<- i4];exact⟨_,_,J,w t n es a d h⟩
def w_ms(h:wu es)(w:∀M es,wu es->(∀m∈M,Mk.ok m)->(∃n,M.map Mk.n=mkL.take n)->k (MD M) es):W2 (Cs es []) k:=by
 refine Ka J (vc (xI J (vc (G1 (w_iL (tm (w_sx (uT J ⟨mkL.map D.str,J,uT J (w_oA (Eb (b:=5) h J (by decide) (by decide) λn es q h=>⟨_,J,_,J,?_⟩))⟩))))))));rw[J1 n (by rw[ag];show n<=4;omega),<- i4];let f:=λ(i:Nat) (p:aP)=>∃es M a e,p=[.pm es,.ls (cG u5 M),a,e]/\wu es/\(∀m∈M,Mk.ok m)/\M.map Mk.n=(mkL.take n).take i;refine⟨f,⟨_,[],_,_,J,h,λm l=>(by cases l),J⟩,?_,?_⟩
 .rintro i _ _ hd ⟨es,M,a,e,rfl,h,ok,eM⟩;rw[bx]at hd;obtain⟨x,o,rfl⟩:=f7.1 hd;have lM:M.length<=4:=by have:=bw cK eM;rw[ag]at this;rw[this,bZ,bZ];show min _ (min _ 4)<=4;omega
  exact⟨_,J,vc (vK (N2 (uT J (Eb (b:=3) h J (by decide) (by decide) λd es hd h=>⟨_,J,N1 (Pl J (m? (xJ (uT J (xJ (Vu h J (by omega) (by omega) λc es j c1 h=>uT J (uT J ⟨M.map u5,J,by rw[ag];omega,es,M++[⟨x,c,1+(d:Int)⟩],_,_,by rw[bu];rfl,h,snoc ok ⟨by show 1<=1+(d:Int);omega,by show 1+(d:Int)<=3;omega,j,by show c<=1+(d:Int);omega⟩,by rw[bu,eM,iP,o];rfl⟩)))))))⟩))))⟩
 .rintro _ ⟨es,M,a,e,rfl,h,ok,eM⟩;exact Pk (uT J ⟨_,_,J,w M es h ok ⟨n,by rw[eM,ag,List.take_length]⟩⟩)
end
def ID(i:Nat):Str×aC:=ri.getD i ("key", ["key"])
def plD(q:Str×aC):L4.D:=.c4 [.str q.1,.c4 (q.2.map D.str)]
def kL:List Kd:=[.plain,.box,.lamp,.box,.fixed,.plain]
def VA{i:Nat}(h:i<7):ID i∈ri/\t? (ri.map plD) (i:Int)=Z (plD (ID i)):=by
 have e:ri[i]?=Z (ID i):=by unfold ID;rw[cZ,bh (show i<ri.length from h)];rfl
 exact⟨bL e,E7 (by rw[bx,e];rfl)⟩
def R?(x:Str):Th:=⟨x,[x,"place"],.room,O⟩
structure VB(T:List Th):Prop where
 gf:Ord T
 ex:∃(r tn n:Nat) (y:Str) (P:List Th),1<=r/\r<=5/\tn<7/\n<8/\T=(X'.take r).map R?++⟨"me", ["me", "self"],.you,Z y⟩::P/\P.map Th.nw=(bf n).map (λk=>ID ((k+tn) % 7))/\∀t∈P,t.k.pl=γ
theorem Lw:∀(l:aC) (B:List Th),Ord B->Ord (B++l.map R?)
 |[],B,h=>by rw[fO,bT];exact h
 |x::l,B,h=>by rw[aI,qp];exact Lw l _ (h.snoc (.inl ⟨J,J⟩))
def w_th{a:List L4.D}{k:L4.D->List L4.D->Prop}(h:wu a)(w:∀T j a,VB T->j<T.length->wu a->k (TD (T.drop j++T.take j)) a):W2 (Bt a []) k:=by
 refine Ka J (vc (vK (tm (w_sx (uT J ⟨X'.map D.str,J,uT J (w_oA (N2 (uT J (Eb (b:=5) h J (by decide) (by decide) λr a hr h=>⟨_,J,_,J,?_⟩))))⟩)))));let R:aC:=X'.take (1+r);have lR:R.length=1+r:=by show (X'.take (1+r)).length=_;rw[bZ];show min (1+r) 5=_;omega
 rw[show (1+(r:Int))=((1+r:Nat):Int) from J,J1 (1+r) (by rw[ag];show 1+r<=5;omega),<- i4];refine vc (X9 (uT (xi D.str (λx=>eo (R? x)) R J (by omega) λx _=>⟨_,_,J,J,J⟩) (vc (N1 (Pl J (m? (xJ (uT J (xJ (uT J (xJ (uT J (xJ (IC (L:=R.map D.str) h J J (λz=>by have:=bw cK z;rw[ag,lR]at this;simp at this) (by rw[ag];omega) λd hd a h=>?_))))))))))))));obtain⟨y,hy,rfl⟩:=au.1 hd;let m:Th:=⟨"me", ["me", "self"],.you,Z y⟩;let c:List Th:=R.map R?++[m];have o1:Ord c:=(by have:=Lw R [] .nil;rw[cg]at this;exact this:Ord (R.map R?)).snoc (.inr (.inl ⟨J,R? y,bQ hy,J,J⟩));have lP:c.length=2+r:=by show (R.map R?++[m]).length=_;rw[aE,ag,lR];show 1+r+1=_;omega
 refine uT J (uT J ⟨_,J,by rw[ag];show R.length<1000;omega,vc (X9 (uT (wK J J (by rw[ag];show R.length+1<=1000;omega)) ?_))⟩);refine s_g (R:=λI=>I=[.pm a,.I (.b4 (R.map D.str)),.ls (c.map eo),.ls ((R++(["me"]:aC)).map D.str),.un,.un,.un,.un,.un,.un]) ?_ ?_
 .rw[show c.map eo=(R.map λx=>eo (R? x))++[eo m] by show (R.map R?++[m]).map eo=_;rw[bu,aW];rfl,bu];rfl
 rintro _ rfl;refine vc (xI J (vc (xI J (vc (vK (Eb h J (by decide) (by decide) λf a htn h=>?_))))));let Q:=λ(i:Nat) (I:aP)=>∃a P e B C E F,I=[.pm a,.I (.b4 (R.map D.str)),.ls (cG eo (c++P)),.ls (cG D.str e),.I (.b4 (ri.map plD)),.I (.int f),B,C,E,F]/\wu a/\Ord (c++P)/\P.map Th.nw=(bf i).map (λk=>ID ((k+f) % 7))/\(∀t∈P,t.k.pl=γ)/\e≠[]/\e.length<=7+i/\∀x∈e,∃u∈c++P,u.n=x/\u.k.hd=γ;refine vc (G1 (Pm (Eb (b:=8) h J (by decide) (by decide) λn a U h=>⟨n,J,by omega,Q,⟨a,[],R++(["me"]:aC),_,_,_,_,by rw[bT];rfl,h,by rw[bT];exact o1,J,λt X=>(by cases X),by simp,by rw[aE,lR];show 1+r+1<=7;omega,?_⟩,?_,?_⟩)))
 .rw[bT];exact λx l=>(aV.1 l).elim (λl=>⟨R? x,bI _ (bQ l),J,J⟩) λl=>⟨m,bB _ (bj.2 J),(bj.1 l).symm,J⟩
 .rintro i _ _ hd ⟨a,P,e,B,C,E,F,rfl,h,o,eP,pl,H,lH,hH⟩;obtain⟨hi,rfl⟩:=Pq hd;have lP':P.length=i:=by have:=bw cK eP;rw[ag,ag,bS]at this;exact this
  refine⟨_,J,vc (s_as (uT (uY (z:=plD (ID ((i+f) % 7))) J (uY J J (DU (by decide))) ?_) ⟨_,J,vc (vK (IC (L:=kL.map λk=>D.str k.s) h J J (by decide) (by decide) λd hd a h=>?_))⟩))⟩
  .rw[show ((i:Int)+f) % 7=(((i+f) % 7:Nat):Int) from J];exact(VA (gy _ (by decide))).2
  obtain⟨G,hkd,rfl⟩:=au.1 hd;have hpl:G.pl=γ:=(show ∀k∈kL,Kd.pl k=γ by decide) _ hkd;refine vc (N1 (Pl J (m? (xJ (uT J (xJ (uT J (xJ (uT J (xJ (w_iS h (λ_=>J) J (by simpa using H) (by rw[ag];omega) λd hd a h=>?_)))))))))));obtain⟨p,W,rfl⟩:=au.1 hd;obtain⟨u,Y,hun,huk⟩:=hH p W;let q:=ID ((i+f) % 7);let t:Th:=⟨q.1,q.2,G,Z p⟩;have N:Ord (c++(P++[t])):=by rw[<-cc];exact o.snoc (.inr (.inr ⟨hpl,u,Y,by rw[hun],huk⟩))
  have M:(P++[t]).map Th.nw=(bf (i+1)).map λk=>ID ((k+f) % 7):=by rw[bu,eP,qD,bu];rfl
  have eT:(c++P).map eo++[eo t]=(c++(P++[t])).map eo:=by rw[<-cc,bu (l₂:=[t])];rfl
  have hH':∀x∈e,∃u∈c++(P++[t]),u.n=x/\u.k.hd=γ:=λx l=>by obtain⟨v,hv,h⟩:=hH x l;exact⟨v,by rw[<-cc];exact bI _ hv,h⟩
  refine uT J (uT J ⟨_,J,by rw[ag,aE];omega,E2 (uT (vU (uY J J (Gf G .box))) ⟨λb=>N1 (Pl J (uT J ⟨e.map D.str,J,by rw[ag];omega,a,P++[t],e++[q.1],_,_,_,_,by rw[<-eT,bu (l₂:=[q.1])];rfl,h,N,M,snoc pl hpl,by simp,by rw[aE];show _+1<=_;omega,snoc hH' ⟨t,by simp,J,?_⟩⟩)),λ_=>xI J ⟨a,P++[t],e,_,_,_,_,by rw[<-eT];rfl,h,N,M,snoc pl hpl,H,by omega,hH'⟩⟩)⟩);show G.hd=γ;rw[bp b];rfl
 .rintro _ ⟨a,P,e,B,C,E,F,rfl,h,o,eP,pl,H,lH,hH⟩;rw[ag,bS]at eP;have lT:(c++P).length=2+r+n:=by have:=bw cK eP;rw[ag,ag,bS]at this;rw[aE,lP,this]
  refine vc (vK (Eb h (Jr (vO J (by show Z (D.int _)=_;rw[ag])) J) (by omega) (by omega) λj a S h=>Pk (uT (b:=[.pm a,.I (.b4 (R.map D.str)),.I (TD (c++P)),.ls (e.map D.str),.I (.b4 (ri.map plD)),.I (.int j),B,C,E,F]) (wK (xs:=((c++P).map eo).drop j) (ys:=((c++P).map eo).take j) (ρ1:=[.pm a,.I (.b4 (R.map D.str)),.I (TD (c++P)),.ls (e.map D.str),.I (.b4 (ri.map plD)),.I (.int j),B,C,E,F]) (we ?_) (we ?_) ?_) ?_)))
  .show Z (mq ((c++P).map eo) (Z (j:Int)) O,_)=_;rw[Vl j (by rw[ag];omega)];rfl
  .show Z (mq ((c++P).map eo) O (Z (j:Int)),_)=_;rw[J1 j (by rw[ag];omega)]
  .rw[fI,bZ,ag];omega
  .rw[<-m5,<- i4,<- bu];exact⟨_,_,J,w (c++P) j a ⟨o,1+r,f,n,y,P,by omega,by omega,htn,U,by show (R.map R?++[m])++P=_;rw[cc];rfl,eP,pl⟩ S h⟩
def rwD(w:Wy):L4.D:=.c4 [.str w.r,.str w.w]
theorem QP:∀W:List Wy,yP (W.map rwD)=Z (W.map λw=>L3.Dq.c4 [.str w.r,.str w.w])
 |[]=>rfl
 |w::W=>by rw[aI];unfold yP;rw[QP W];rfl
def aeW(r x:Str)(W:List Wy):ZX (.c4 [.str r,.str x]) (.b4 (W.map rwD))=Z (.U (!decide ([r,x]∈W.map λw=>[w.r,w.w]))):=by
 unfold ZX;dsimp only;rw[show ll (.c4 [.str r,.str x])=Z (.c4 [.str r,.str x]) from J,QP];dsimp only;rw[aj]
 .congr 3;rw[du,dH,bY,au];constructor
  .rintro⟨e,b,h⟩;obtain⟨w,a,rfl⟩:=au.1 b;have h:((w.r==r)&&((w.w==x)&&γ))=γ:=h;rw[aU,aU,beq_iff_eq,beq_iff_eq]at h;exact⟨w,a,by rw[h.1,h.2.1]⟩
  .rintro⟨w,a,h⟩;refine⟨_,au.2 ⟨w,a,J⟩,?_⟩;have c:w.r=r/\w.w=x:=by simpa using h
   show ((w.r==r)&&((w.w==x)&&γ))=γ;rw[c.1,c.2];simp
 .rw[aU];refine⟨J,aQ.2 λe b=>?_⟩;obtain⟨w,a,rfl⟩:=au.1 b;rfl
section
variable{T:List Th}{M:List Mk}{es:List L4.D}{k:L4.D->List L4.D->Prop}
def drL(T:List Th)(M:List Mk):List (Option Str):=O::O::(M.map Mk.n++(T.filter λt=>t.k.mk).map Th.n).map Z
def acR{m:Option Str}(h:m∈drL T M){x:Str}(e:m=Z x):x∈pw T M:=by
 subst e;have h:Z x∈(M.map Mk.n++(T.filter λt=>t.k.mk).map Th.n).map Z:=by simpa [drL]using h
 obtain⟨y,a,e⟩:=au.1 h;cases e;rcases aV.1 a with a|a
 .exact bB _ a
 .exact bI _ a
def aeX(M:List Mk)(K:aC):([D.J,.J]++M.map λm=>D.str m.n)++K.map D.str=.J::.J::((M.map Mk.n++K).map Z).map oS:=by simp[oS,pZ]
def w_wy(hT:T.length<=13)(hM:M.length<=4)(A:i0 T≠[])(h:wu es)(w:∀W es,wu es->W.length<=8->(∀x∈W,Sv T M x)->(W.map λw=>[w.r,w.w]).Nodup->k (WD W) es):W2 (DO es [TD T,MD M]) k:=by
 let K:=(T.filter λt=>t.k.mk).map Th.n;have lK:K.length<=13:=by show (cG Th.n _).length<=13;rw[ag];exact bC (cB _ _) hT
 have R:(i0 T).length<=13:=by unfold i0;rw[ag];exact bC (cB _ _) hT
 have ld:(drL T M).length<=20:=by unfold drL;rw[aN,aN,ag,aE,ag];show M.length+K.length+1+1<=20;omega
 refine Ka J (vc (vK (tm (uT (uP J (yq T (by omega) ["room"] (λk=>decide (k=.room)) MF)) (vc (vK (tm (uT (wK (we (wK J (we (xi u5 (λm=>D.str m.n) M J (by omega) λm v=>⟨_,_,J,J,J⟩)) (by rw[ag];show 2+M.length<=1000;omega))) (we (uP J (yq T (by omega) ["box", "lamp"] Kd.mk Po))) (by rw[aE,ag,ag];show 2+M.length+K.length<=1000;omega)) ?_))))))));rw[aeX M K];let E:=λ(i:Nat) (N:aP)=>∃es W o p q u d,N=[.pm es,.I (TD T),.I (MD M),.I (.b4 ((i0 T).map D.str)),.I (.b4 ((drL T M).map oS)),.ls (cG tp W),o,p,q,u,d]/\wu es/\W.length<=i/\(∀x∈W,Sv T M x)/\(W.map λw=>[w.r,w.w]).Nodup;refine vc (xI J (vc (G1 (Pm (Eb (b:=9) h J (by decide) (by decide) λn es Q h=>⟨n,J,by omega,E,⟨es,[],_,_,_,_,_,J,h,aJ _,λw H=>(by cases H),.nil⟩,?_,?_⟩)))))
 .rintro i _ _ hd ⟨es,W,o,p,q,u,d,rfl,h,lW,ok,f⟩;obtain⟨P,rfl⟩:=Pq hd;refine⟨_,J,vc (vK (IC h J J (by simpa using A) (by rw[ag];omega) λj a es h=>?_))⟩;obtain⟨r,l,rfl⟩:=au.1 a;refine vc (vK (IC (L:=(["north", "up", "outside", "north"]:aC).map D.str) h J J (by decide) (by decide) λj a es h=>?_));obtain⟨x,I,rfl⟩:=au.1 a;refine vc (vK (IC h J J (by simpa using A) (by rw[ag];omega) λj a es h=>?_));obtain⟨g,F,rfl⟩:=au.1 a;refine vc (vK (IC h J J (by simp[drL]) (by rw[ag];omega) λj a es h=>?_));obtain⟨m,G,rfl⟩:=au.1 a;refine E2 (uT (Qf (vU (uY J (we (xi tp rwD W J (by omega) λw v=>⟨_,_,J,J,J⟩)) (aeW r x W)))) ⟨λc=>N1 (Pl J (uT J ⟨W.map tp,J,by rw[ag];omega,es,W++[⟨r,x,g,m⟩],_,_,_,_,_,by rw[bu];rfl,h,by rw[aE];exact qq lW,snoc ok ⟨l,(show ∀x∈(["north", "up", "outside", "north"]:aC),x∈(["north", "up", "outside"]:aC) by decide) x I,F,λy e=>acR G e⟩,?_⟩)),λv=>xI J ⟨es,W,_,_,_,_,_,J,h,by omega,ok,f⟩⟩);rw[bu,bM];refine⟨f,by simp,λy B z C e=>?_⟩;rw[aI,fO,bj]at C;rw[e,C]at B;simp[B]at c
 .rintro _ ⟨es,W,o,p,q,u,d,rfl,h,lW,ok,f⟩;rw[ag,bS]at lW;exact Pk (uT J ⟨_,_,J,w W es h (by omega) ok f⟩)
end
def acS:((bf 7).all λa=>(bf 8).all λn=>decide (X'++("me" : Str)::((bf n).map λk=>(ID ((k+a) % 7)).1)++mkL).Nodup)=γ:=by kernel_rfl
def SA{a:Type}(l:List a)(j:Nat):(l.drop j++l.take j).Perm l:=(List.perm_append_comm).t (by rw[oU])
def VC{T T0:List Th}(p:T.Perm T0){t:Th}(h:NY T0 t):D5 T t:=by
 have i:∀u∈T0,u.k=.room->u.n∈i0 T:=λu a f=>bQ (aS.2 ⟨p.mem_iff.2 a,bg f⟩);have e:∀u∈T0,u.k.hd=γ->u.n∈l0 T:=λu a f=>bQ (aS.2 ⟨p.mem_iff.2 a,f⟩);obtain⟨n,w,k,s⟩:=t;rcases h with ⟨b,c⟩|⟨b,u,a,c,d⟩|⟨b,u,a,c,d⟩
 .simp only at b c;subst b c;exact trivial
 .simp only at b c;subst b c;exact i u a d
 .simp only at b c;subst c;cases k with
  |room=>cases b
  |you=>cases b
  |plain=>exact e u a d
  |fixed=>exact e u a d
  |box=>exact e u a d
  |lamp=>exact e u a d
structure Base(T:List Th):Prop where
 len:T.length<=13
 r1:1<=(T.filter λt=>decide (t.k=.room)).length
 r5:(T.filter λt=>decide (t.k=.room)).length<=5
 y1:(T.filter λt=>decide (t.k=.you)).map Th.n=(["me"]:aC)
 p7:(T.filter λt=>t.k.pl).length<=7
 nd:∀m,(T.map Th.n++mkL.take m).Nodup
 nm:∀x∈T.map Th.n,Nm x
 st:∀t∈T,D5 T t
 rk:∃r,Mu T r
 wd:∀t∈T,D6 t
def Yh{T0:List Th}(d:VB T0)(j:Nat):Base (T0.drop j++T0.take j):=by
 have p:=SA T0 j;obtain⟨r,w,n,y,P,N,Q,b,H,l,eP,hP⟩:=d.ex;let R:=(X'.take r).map R?;let c:Th:=⟨"me", ["me", "self"],.you,Z y⟩;have lR:R.length=r:=by show ((X'.take r).map R?).length=r;rw[ag,bZ];show min r 5=r;omega
 have lP:P.length=n:=by have:=bw cK eP;rw[ag,ag,bS]at this;exact this
 have i:∀t∈R,t.k=.room:=λt h=>by obtain⟨x,_,rfl⟩:=au.1 h;rfl
 have spl:∀p:Th->Bool,T0.filter p=R.filter p++((if p c=γ then [c]else [])++P.filter p):=λp=>by rw[l,List.filter_append,gU];show R.filter p++(if p c=γ then c::P.filter p else P.filter p)=_;split<;>rfl
 have all_:∀(p:Kd->Bool) (L:List Th),(∀t∈L,p t.k=γ)->L.filter (λt=>p t.k)=L:=λp L h=>pe.2 h;have non_:∀(p:Kd->Bool) (L:List Th),(∀t∈L,p t.k=δ)->L.filter (λt=>p t.k)=[]:=λp L h=>List.filter_eq_nil_iff.2 λt b z=>by rw[h t b]at z;cases z
 have plk:∀k:Kd,k.pl=γ->decide (k=.room)=δ/\decide (k=.you)=δ:=Kb (λz=>by cases z) (λz=>by cases z) (λv=>⟨J,J⟩) (λv=>⟨J,J⟩) (λv=>⟨J,J⟩) (λv=>⟨J,J⟩);have fr:T0.filter (λt=>decide (t.k=.room))=R:=by rw[spl,all_ (λk=>decide (k=.room)) R λt h=>by rw[i t h];rfl,non_ (λk=>decide (k=.room)) P λt h=>(plk t.k (hP t h)).1];exact bT R
 have E:T0.filter (λt=>decide (t.k=.you))=[c]:=by rw[spl,non_ (λk=>decide (k=.you)) R λt h=>by rw[i t h];rfl,non_ (λk=>decide (k=.you)) P λt h=>(plk t.k (hP t h)).2];rfl
 have C:T0.filter (λt=>t.k.pl)=P:=by rw[spl,non_ Kd.pl R λt h=>by rw[i t h];rfl,all_ Kd.pl P hP];rfl
 have eN:T0.map Th.n=X'.take r++("me" : Str)::(bf n).map λk=>(ID ((k+w) % 7)).1:=by
  rw[l,bu,aI];have A:((X'.take r).map R?).map Th.n=X'.take r:=by rw[aW];exact hZ _
  have B:P.map Th.n=(bf n).map λk=>(ID ((k+w) % 7)).1:=by have:=bw (cG cF) eP;rw[aW,aW]at this;exact this
  rw[A,B]
 have big:=bp (aQ.1 (aQ.1 acS w (bN.2 b)) n (bN.2 H));have wP:∀t∈P,t.nw∈ri:=λt h=>by have o:t.nw∈P.map Th.nw:=bQ h;rw[eP]at o;obtain⟨k,_,e⟩:=au.1 o;rw[<-e];exact(VA (gy _ (by decide))).1
 have S:∀t∈T0,D6 t:=λt h=>by
  rw[l]at h;rcases aV.1 h with h|h
  .obtain⟨x,a,rfl⟩:=au.1 h;exact⟨bI _ (au.2 ⟨x,gR a,J⟩),λz=>by cases z⟩
  .rcases aM.1 h with rfl|h
   .exact⟨bB _ ba,λz=>by cases z⟩
   .exact⟨bB _ (bc _ (wP t h)),λv=>wP t h⟩
 have f:∀m,(T0.map Th.n++mkL.take m).Nodup:=λm=>by rw[eN];exact big.sublist (((iO r X').append (p8 _)).append (iO m mkL))
 constructor
 .rw[p.length_eq,l,aE,aN,ag,bZ,lP];show min r 5+(n+1)<=13;omega
 .rw[(p.filter _).length_eq,fr,lR];exact N
 .rw[(p.filter _).length_eq,fr,lR];exact Q
 .have:=p.filter λt=>decide (t.k=.you);rw[E]at this;rw[List.perm_singleton.1 this];rfl
 .rw[(p.filter _).length_eq,C,lP];omega
 .intro m;exact((p.map _).append_right _).nodup_iff.2 (f m)
 .intro x a;have a:=(p.map Th.n).mem_iff.1 a;rw[eN]at a;rcases aV.1 a with a|a
  .exact bI _ (bI _ (gR a))
  .refine bI _ (bB _ ?_);rcases aM.1 a with rfl|a
   .exact ba
   .obtain⟨k,_,rfl⟩:=au.1 a;exact bc _ (bQ (VA (gy _ (by decide))).1)
 .intro t b;exact VC p (d.gf.all t (p.mem_iff.1 b))
 .obtain⟨i,h⟩:=d.gf.rank (bM.1 (f 0)).1;refine⟨i,λt b=>?_⟩;obtain⟨o,F⟩:=h t (p.mem_iff.1 b);refine⟨by rw[p.length_eq];exact o,λq I=>?_⟩;obtain⟨G,u,M,e⟩:=F q I;exact⟨G,u,p.mem_iff.2 M,e⟩
 .exact λt b=>S t (p.mem_iff.1 b)
theorem Lx(ey:aP):∀(l:aC) (b:List L4.D),wu b->∃(f:aC) (j:List L4.D),f.Sublist l/\wu j/\
  AV 1 [0] (gN 0) (cT (c2 (en δ) (vY uS 1 iw) aO)) ab (l.map D.str) (.pm b::ey)=Z (f.map D.str,.pm j::ey)
 |[],b,h=>⟨[],b,.slnil,h,J⟩
 |x::l,b,h=>by
  obtain⟨d,e,u,w,y,t⟩:=dgx (i:=1) (a:=cC (.int 3)) (λb=>[.I (.str x),.pm b]) (λv=>J) (λv v=>J) J h (by decide) (by decide);obtain⟨f,o,q,p,r⟩:=Lx ey l e t;have m:cT (c2 (en δ) (vY uS 1 iw) aO) [.I (.str x),.pm b]=Z (decide (d=0),[.I (.str x),.pm e]):=vU (uY u J (zC δ d 0));rw[aI];unfold AV;rw[show gN 0 (.str x) (Fh 1 [0] (.pm b::ey))=Z [.I (.str x),.pm b] from J];by_cases c:d=0
  .rw[bg c]at m;refine⟨x::f,o,q.cons_cons x,p,?_⟩;simp only[m,show cV 0 [.I (.str x),.pm e]=Z (.str x,[.I (.str x),.pm e]) from J];rw[show ym [0] (([.I (.str x),.pm e]:aP).drop 1) (.pm b::ey)=Z (.pm e::ey) from J];simp only[r];rfl
  .rw[bq c]at m;refine⟨f,o,q.cons x,p,?_⟩;simp only[m];rw[show ym [0] (([.I (.str x),.pm e]:aP).drop 1) (.pm b::ey)=Z (.pm e::ey) from J];exact r
def Yi{es:List L4.D}(h:wu es):∃(T:List Th) (M:List Mk) (dk:aC) (W:List Wy) (t n:Nat) (R es':List L4.D),d? T M dk W/\t<6/\n<7/\R.length<=12/\(∀r∈R,RuQ T M (vL t n) (fx T M dk W (vL t n)) r)/\zX es [.int 12]=Z (.b4 [TD T,MD M,.b4 (dk.map D.str),WD W,VD (vL t n),.b4 R],es'):=by
 suffices x:W2 (zX es [.int 12]) λd y=>∃(T:List Th) (M:List Mk) (dk:aC) (W:List Wy) (t n:Nat) (R:List L4.D),d? T M dk W/\t<6/\n<7/\R.length<=12/\(∀r∈R,RuQ T M (vL t n) (fx T M dk W (vL t n)) r)/\d=.b4 [TD T,MD M,.b4 (dk.map D.str),WD W,VD (vL t n),.b4 R] by obtain⟨_,es',e,T,M,dk,W,t,n,R,a,b,c,d,f,rfl⟩:=x;exact⟨T,M,dk,W,t,n,R,es',a,b,c,d,f,e⟩
 refine Ka J (vc (vK (IB J (uT J ⟨_,J,w_th h λT0 j es d0 w h=>vc (vK (IB J (uT J ⟨_,J,w_ms h λM es h mo zz=>?_⟩)))⟩))));obtain⟨m,eM⟩:=zz;let T:=T0.drop j++T0.take j;have b:Base T:=Yh d0 j;have o:T.length<=13:=b.len;have r5:(i0 T).length<=5:=by unfold i0;rw[ag];exact b.r5
 have lM:M.length<=4:=by have:=bw cK eM;rw[ag,bZ]at this;rw[this];exact qe _ _
 obtain⟨dk,u,sl,h,q⟩:=Lx [.I (.int 12),.I (TD T),.I (MD M),.un,.un,.un] (i0 T) es h;have rne:i0 T≠[]:=λz=>by have:=b.r1;unfold i0 at z;rw[ph]at z;rw[z]at this;exact ar this (by decide)
 refine vc (vK (tm (uT ((II (CS (we (uP J (yq T (by omega) ["room"] (λk=>decide (k=.room)) MF)))) (by rw[ag];exact bC r5 (by decide))).t q) (vc (vK (IB J (uT J ⟨_,J,w_wy o lM rne h λW es h lW okW ndW=>vc (vK (IB J (uT J ⟨_,J,w_vb h λt n es l hn h=>?_⟩)))⟩)))))));have rmnd:(i0 T).Nodup:=(iI.map Th.n).nodup (bM.1 (b.nd 0)).1;have g:d? T M dk W:={
  len:=b.len,r1:=b.r1,r5:=b.r5,y1:=b.y1,p7:=b.p7,m4:=lM,mo:=mo
  nm:=λx i=>by
   rcases aV.1 i with i|i
   .exact b.nm x i
   .rw[eM]at i;exact bB _ (gR i)
  nd:=by rw[eM];exact b.nd m
  st:=b.st,rk:=b.rk,wd:=b.wd
  d0:=bC sl.length_le r5
  d1:=rmnd.sublist sl
  d2:=λx i=>sl.subset i
  w8:=lW,wo:=okW,wn:=ndW }
 exact Pk (w_ls (xJ (uT J (xJ (uT J (xJ (uT J (xJ (uT J (xJ (uT J (xJ (IB J (uT J ⟨_,J,w_rl g (λv p=>Mz p) (J4 t n) (QH l hn) h λR es h lR ok=>uT J ⟨by show 6<=1000;decide,_,_,J,T,M,dk,W,t,n,R,g,l,hn,lR,ok,J⟩⟩))))))))))))))
def wtL(w:Wy):List L4.D:=[atO "me" w.r,woO w.w]++match w.m with|none=>[]|some m=>[noO (mkO m 0)]
def goO(w:Wy):L4.D:=p0 "go" (wtL w) [θ "me" w.g] "You go." δ
def A21:List L4.D:=(Ci [.str "me"]).getD []++(DB []).getD []++(DC []).getD []++(Br []).getD []
def SH(W:List Wy):List L4.D:=A21++(W.map goO++[p0 "go" [] [] "No way there." γ])++[p0 "wait" [] [] "Time goes by." δ]
def aeY(w:Wy):DD [.str "me", tp w]=Z (wtL w):=by obtain⟨r,x,g,m⟩:=w;cases m<;>kernel_rfl
def Yj(w:Wy):AH [.str "go", .b4 (wtL w),.b4 [θ "me" w.g],.str "You go."]=Z (goO w):=by kernel_rfl
def aeZ(W:List Wy)(c:W.length<=8):EL [.str "me", WD W]=Z (W.map goO++[p0 "go" [] [] "No way there." γ]):=by
 let a:aP:=[.I (.str "me"),.I (WD W),.un];let b:aP:=[.I (.str "me"),.I (WD W),.I (.b4 (W.map goO))];refine As (ρ:=b) J ?_;unfold EK;refine(uR ((wa (we (xi tp goO W J (by omega) λw y=>⟨[.I (tp w),.I (.str "me")],[.I (tp w),.I (.str "me")],J,?_,J⟩))))).t ?_
 .exact uP (uX J (uX (we (uP J (aeY w))) J)) (Yj w)
 .exact xP (wK J (by kernel_rfl) (by rw[ag];show W.length+1<=1000;omega))
def QQ:A21.length<=50:=lY (by kernel_rfl)
def acT{W:List Wy}(a:W.length<=8):(SH W).length<=100:=by have:=QQ;unfold SH;rw[aE,aE,aE,ag];show A21.length+(W.length+1)+1<=100;omega
def SC(W:List Wy)(b:W.length<=8):AI [.str "me", WD W]=Z (SH W):=by
 have:=QQ;let a:aP:=[.I (.str "me"),.I (WD W)];refine As (ρ:=a) J (xP (wK (we (wK (ρ1:=a) (by kernel_rfl) (we (uP J (aeZ W b))) ?_)) (by kernel_rfl) ?_))
 .rw[aE,ag];show A21.length+(W.length+1)<=1000;omega
 .rw[aE,aE,ag];show A21.length+(W.length+1)+1<=1000;omega
def Y8(W:List Wy):∀d∈SH W,gK d=γ:=λd hd=>by
 unfold SH at hd;rcases aV.1 hd with hd|hd
 .rcases aV.1 hd with hd|hd
  .exact aQ.1 (show A21.all gK=γ by kernel_rfl) d hd
  .rcases aV.1 hd with hd|hd
   .obtain⟨w,_,rfl⟩:=au.1 hd;obtain⟨r,x,g,m⟩:=w;cases m<;>kernel_rfl
   .rw[bj.1 hd];kernel_rfl
 .rw[bj.1 hd];kernel_rfl
def acU{d:L4.D}(h:gK d=γ):vu 16 14 d=γ:=by unfold gK at h;rw[aU]at h;exact h.2
section
variable{T:List Th}{M:List Mk}{dk:aC}{W:List Wy}{V:List Vb}{R:List L4.D}
def wA(T:List Th)(M:List Mk)(dk:aC)(W:List Wy)(V:List Vb)(R:List L4.D)(c:L4.D):List L4.D:=[TD T,MD M,.b4 (dk.map D.str),WD W,VD V,VD v9,.str "me", .Y (nK T) (T.map eo),mD T M,vwD (V++v9),.b4 R,.b4 (SH W),.b4 R,c]
def wS(T:List Th)(M:List Mk)(dk:aC)(W:List Wy)(V:List Vb)(R:List L4.D)(c:L4.D)(q:Sl)(k:Nat):aP:=[.ob 14 (wNs.take k) ((wA T M dk W V R c).take k),.I (TD T),.I (MD M),.I (.b4 (dk.map D.str)),.I (WD W),.I (VD V),.I (.b4 R),q]
def N4{e:FE}{d:L4.D}{b:aC}{a:List L4.D}{r:aP}{h:aP}(c:e (.I (.obj 14 b a)::r.map EE)=Z (d,h))(f:vu 16 14 d=γ):Eh 16 e (.ob 14 b a::r)=Z (d,.ob 14 b a::r):=by unfold Eh;simp only[c,f];rfl
def Ke{c:Str}{e:FE}{d:L4.D}{a:aC}{b:List L4.D}{r:aP}(f:e (.ob 14 a b::r)=Z (d,.ob 14 a b::r))(h:a.contains c=δ)(i:b.length=a.length)(j:a.length<900):vV 14 0 c e (.ob 14 a b::r)=Z (.nx (.ob 14 (a++[c]) (b++[d])::r)):=by unfold vV;rw[f];show (if 14=14 then if a.contains c=γ then O else if b.length=a.length then if a.length<900 then Z (x3.nx (.ob 14 (a++[c]) (b++[d])::r))else O else O else O)=_;rw[aj J,h,ak br,aj i,aj j]
def Gj(V:List Vb)(lV:V.length<=6)(a b c d:L4.D)(f:aC)(e:List L4.D):A5 [.obj 14 ("kept_things" ::"kept_marks" ::"kept_dark" ::"kept_ways" ::"kept_verbs" ::"shared_verbs" ::f) (a::b::c::d::VD V::VD v9::e)]=Z (VD (V++v9)):=by refine(EF J (xP (wK J J (by rw[ag];show V.length+9<=1000;omega)))).t ?_;rw[<-bu]
def acV(b:∀v∈V,v∈v6):vu 16 14 (vwD (V++v9))=γ:=by
 show z7 16 14 _=γ;refine BS _ λd hd=>?_;obtain⟨v,a,hd⟩:=dX.1 hd;obtain⟨x,_,rfl⟩:=au.1 hd;refine aQ.1 (show ((v6++v9).all λv=>vu 16 14 (kh v))=γ by kernel_rfl) v ?_;rcases aV.1 a with a|a
 .exact bI _ (b v a)
 .exact bB _ a
def VE(g:d? T M dk W){t n:Nat}(m:t<6)(l:n<7)(hR:∀r∈R,RuOk (fx T M dk W (vL t n)) r)(lR:R.length<=12):∃b dss,Ag [TD T,MD M,.b4 (dk.map D.str),WD W,VD (vL t n),.b4 R]=Z (wNs,wA T M dk W (vL t n) R (.Y b (dss.map .b4)))/\∀j,gl b dss j=(R++SH W).filter λd=>decide (kv d=j):=by
 have A:=acT g.w8;have z:=g.len;let V:=vL t n;have lV:V.length<=6:=J4 t n;have u:∀d∈R++SH W,gK d=γ:=λd hd=>by
  rcases aV.1 hd with hd|hd
  .exact(hR d hd).g
  .exact Y8 W d hd
 obtain⟨b,dss,o,p,q⟩:=Vz (R++SH W) [] [] u J (by rw[aE];simp only[gV];omega) λi h=>(by cases h);let c:L4.D:=.Y b (dss.map .b4);refine⟨b,dss,?_,λj=>(p j).t (cg _)⟩;let B:Sl:=.I (.U γ);have x:vu 16 14 c=γ:=by show z7 16 14 (dss.map .b4)=γ;exact BS _ λd hd=>by obtain⟨i,h,rfl⟩:=au.1 hd;exact q i h
 let S:=wS T M dk W V R c;have e:y7 (S .un 0)=Z (.nx (S B 14)):=by
  unfold y7;refine(uR (xb (uP (uX J (uX J (uX J (uX J (uX J (uX (we (uP J Vm)) J)))))) (J8 g m l)))).t ?_;refine(uR (ρ':=S .un 1) (by kernel_rfl)).t ((uR (ρ':=S .un 2) (by kernel_rfl)).t ((uR (ρ':=S .un 3) (by kernel_rfl)).t ((uR (ρ':=S .un 4) (by kernel_rfl)).t ((uR (ρ':=S .un 5) (by kernel_rfl)).t ((uR (ρ':=S .un 6) (by kernel_rfl)).t ?_)))));have eY:((T.filter λt=>decide (t.k=.you)).map λt=>D.str t.n)=[.str "me"]:=by rw[show (λt:Th=>D.str t.n)=D.str∘Th.n from J,<- aW,g.y1];rfl
  refine(uR (Ke (N4 (uY (vz J J J J ((J9 T (by omega) _ _ .you).t (by rw[eY]))) J J) J) J J (by decide))).t ?_;refine(uR (Ke (uP J (Pj T (by omega) g.r?)) J J (by decide))).t ?_;refine(uR (Ke (uP J (Vn g)) J J (by decide))).t ?_;refine(uR (Ke (N4 (uP (uX (vz J J J J (Gj V lV _ _ _ _ _ _)) J) (aeG m l)) (acV λv w=>Mz w)) J J (by decide))).t ?_;refine(uR ((wa (N4 ((vd (uP J (QI _ _ (by omega)))).t (zA id R (by rw[hZ];rfl) (by omega) λr f=>?_)) J)))).t ?_
  .exact⟨[.I r,.I (fx T M dk W V)],[.I r,.I (fx T M dk W V)],J,uP J (hR r f).r,J⟩
  refine(uR (ρ':=S B 10) (by kernel_rfl)).t ((uR (ρ':=S B 11) (by kernel_rfl)).t ?_);refine(uR (Ke (N4 (we (uP J (SC W g.w8))) (BS _ λd hd=>acU (Y8 W d hd))) J J (by decide))).t ?_;refine(uR (Ke ((we (xi (ρ1:=S B 12) id id R (by rw[hZ];rfl) (by omega) λr f=>⟨[.I r],[.I r],J,uP J (hR r f).c,J⟩)).t (by rw[hZ];rfl)) J J (by decide))).t ?_;refine Ke (N4 (uP (uX (we (wK J J (by omega))) J) ?_) x) J J (by decide);refine u6 (ρ:=[.I (.b4 (R++SH W)),.un,.un]) J ?_;show (match Dl (uV yV "verb") (R++SH W) [] []with
   |some (b,dss)=>Z (x3.rt (.Y b (dss.map .b4)) [.I (.b4 (R++SH W)),.un,.un])
   |none=>O)=_
  rw[o]
 unfold Ag ro;rw[aj (show [TD T,MD M,.b4 (dk.map D.str),WD W,VD V,.b4 R].length=6 from J)];rw[show y7 (stI 14 8 [TD T,MD M,.b4 (dk.map D.str),WD W,VD V,.b4 R])=Z (.nx (S B 14)) from e];rfl
end
theorem Ly:∀l:aC,Hr (l.map D.str)=Z l
 |[]=>rfl
 |x::l=>by rw[aI];unfold Hr;rw[Ly l]
def w3:aC:=["north", "outside", "up"]
def ω(W:List Wy):aC:=w3.filter λx=>decide (x∈W.map Wy.w)
def Yk{l:aC}(h:∀x∈l,x∈w3):Dm (vy l)=w3.filter λx=>decide (x∈l):=by
 have d:w3.Nodup:=by decide
 have p3:w3.Pairwise λa b=>D' a b=γ:=by decide
 refine lD (λa b y y=>JA a b) (jF Jz IK _) (p3.filter _) ((iH _ D').t ((List.perm_ext_iff_of_nodup (Pc l) (iI.nodup d)).2 λx=>?_));rw[Ml,aS,bY];exact⟨λc=>⟨h x c,c⟩,λc=>c.2⟩
section
variable{T:List Th}{M:List Mk}{dk:aC}{W:List Wy}{V:List Vb}{R:List L4.D}{c:L4.D}
def wO(T:List Th)(M:List Mk)(dk:aC)(W:List Wy)(V:List Vb)(R:List L4.D)(c:L4.D):L4.D:=.obj 14 wNs (wA T M dk W V R c)
def N5(f:W.length<=8)(b:∀w∈W,w.w∈(["north", "up", "outside"]:aC)):Ba [wO T M dk W V R c]=Z (.b4 ((ω W).map D.str)):=by
 let a:aP:=[.I (wO T M dk W V R c)];refine EF (ρ:=a) J (xP ?_);have e:cL (u7 1 [] (iL (c1 (uV Bj "kept_ways") ab)) (gN 0) vX (c2 e8 ab aR)) a=Z (.b4 ((W.map Wy.w).map D.str),a):=(we (xi tp (λw=>.str w.w) W J (by omega) λw y=>⟨[.I (tp w)],[.I (tp w)],J,J,J⟩)).t (by rw[aW];rfl);show p1 _ a=_;unfold p1;rw[e];dsimp only;rw[Ly];dsimp only;rw[aj (by rw[ag];omega),Yk λx d=>?_]
 .rfl
 .obtain⟨w,h,rfl⟩:=au.1 d;exact(show ∀x∈(["north", "up", "outside"]:aC),x∈w3 by decide) _ (b w h)
def n?(T:List Th):aC:=(T.filter λt=>t.k.pl).map Th.n
def N6(T:List Th)(a:T.length<=13):Ep [wO T M dk W V R c]=Z (.b4 (T.map λt=>.str t.n)):=by exact EF J (xP (xi eo (λt=>.str t.n) T J (by omega) λt y=>⟨[.I (eo t)],[.I (eo t)],J,J,J⟩))
def G2{f h:FS}{ρ a:aP}{b:List L4.D}(e:f ρ=Z (.rn b a)):bt f h ρ=Z (.rn b a):=by unfold bt;rw[e]
def obF(N d:aC)(f:Str):List (L4.D×L4.D):=if f="alone" then [(.J,.J)]else if f="way" then d.map λx=>(.str x,.J)else if f="one" then N.map λx=>(.str x,.J)else N.flatMap λa=>N.map λb=>(.str a,.str b)
def p2(q:L4.D×L4.D):L4.D:=.c4 [q.1,q.2]
def p3(v:Str)(q:L4.D×L4.D):L4.D:=.c4 [.str v,q.1,q.2]
theorem QR(N:aC)(hN:N.length<=7):∀l:aC,(l.flatMap λa=>N.map λb=>(D.str a,D.str b)).length<=7 * l.length
 |[]=>aJ _
 |a::l=>by rw[gm,aE,ag,aN];have:=QR N hN l;omega
def VF(W:List Wy):(ω W).length<=3:=bC (cB _ _) (aJ 3)
def acW{N a:aC}(hN:N.length<=7)(hD:a.length<=3)(f:Str):(obF N a f).length<=49:=by
 unfold obF;split
 .decide
 .split
  .rw[ag];omega
  .split
   .rw[ag];omega
   .have:=QR N hN N;omega
theorem N7{a b x:Sl}(N:aC)(hN:N.length<=7):∀(l:aC) (acc:List (L4.D×L4.D)) (s:Sl),acc.length+7 * l.length<=900->∃f,fh (gN 4) (vH (Ir 3 (u7 1 [4] (iL ao) (gN 0) vX (vI eI)))) (l.map D.str) [a,b,.I (.b4 (N.map D.str)),.ls (acc.map p2),s]=Z (.nx [a,b,.I (.b4 (N.map D.str)),.ls ((acc++l.flatMap λa=>N.map λb=>(D.str a,D.str b)).map p2),f])
 |[],acc,s,_=>⟨s,by rw[List.flatMap_nil,bT];rfl⟩
 |y::l,acc,s,j=>by rw[aN]at j;let Q:Sl:=.I (.b4 (N.map D.str));let Y:Sl:=.I (.str y);let nw:List (L4.D×L4.D):=N.map λb=>(D.str y,D.str b);obtain⟨f,e⟩:=N7 (x:=x) N hN l (acc++nw) Y (by rw[aE];show acc.length+(N.map _).length+7 * l.length<=900;rw[ag];omega);refine⟨f,?_⟩;rw[aI];unfold fh;let d:aP:=[a,b,Q,.ls (acc.map p2),Y];rw[show gN 4 (.str y) [a,b,Q,.ls (acc.map p2),s]=Z d from J];have i:u7 1 [4] (iL ao) (gN 0) vX (vI eI) d=Z (nw.map p2,d):=(xi D.str (λz=>.c4 [.str y,.str z]) N J (by omega) λz w=>⟨[.I (.str z),Y],[.I (.str z),Y],J,J,J⟩).t (by show _=Z ((N.map _).map p2,d);rw[aW];rfl);have h:vH (Ir 3 (u7 1 [4] (iL ao) (gN 0) vX (vI eI))) d=Z (.nx [a,b,Q,.ls ((acc++nw).map p2),Y]):=(xb (Ul J i J (by rw[ag,ag];show acc.length+(N.map _).length<=1000;rw[ag];omega))).t (by rw[bu];rfl);simp only[h];rw[e,gm,cc]
def Pt(g:d? T M dk W){f:Str}(d:f∈l3):yf [wO T M dk W V R c,.str f]=Z ((obF (n? T) (ω W) f).map p2):=by
 have i:=g.len;let w:=wO T M dk W V R c;have lN:(n? T).length<=7:=by unfold n?;rw[ag];exact g.p7
 have ld:=VF W;have nms:∀F:Sl,u7 1 [0] (iL (vh yI "names" ab vA)) (gN 0) (cT (vh wb "is_plainly" (vh vw "thing_of" ai bH) vA)) ab [.I w,F,.un,.un,.un]=Z ((n? T).map D.str,[.I w,F,.un,.un,.un]):=λF=>by
  let a:aP:=[.I w,F,.un,.un,.un];refine(zd (λt:Th=>D.str t.n) (λt=>.str t.n) (λt=>t.k.pl) T ?_ (by omega) λt j=>⟨[.I (.str t.n),.I w],[.I (.str t.n),.I w],J,?_,λy=>⟨_,J,J⟩,λy=>J⟩).t (by unfold n?;rw[aW];rfl)
  .unfold iL;rw[vz J J J J (N6 T i)]
  .have b:xt [w,.str t.n]=Z ((wG (nK T) (T.map eo) (kS t.n)).getD .J):=by kernel_rfl
   rw[Gh g.r? eo j]at b;refine vU (vz ?_ J J J (Gg t));exact vz J J J J b
 let NL:Sl:=.I (.b4 ((n? T).map D.str));have h:∀F:Sl,vp 2 (cL (u7 1 [0] (iL (vh yI "names" ab vA)) (gN 0) (cT (vh wb "is_plainly" (vh vw "thing_of" ai bH) vA)) ab)) [.I w,F,.un,.un,.un]=Z (.nx [.I w,F,NL,.un,.un]):=λF=>(wa (we (nms F)));simp only[l3,aM,cw,or_false]at d;rcases d with rfl|rfl|rfl|rfl
 .let a:aP:=[.I w,.I (.str "one"),NL,.un,.un];refine As (ρ:=a) J ?_;unfold ye;refine(yh J).t ((yh J).t ((uR (h _)).t (G2 ((vP J).t (xP ((xi D.str (λx=>.c4 [.str x,.J]) (n? T) J (by omega) λx y=>⟨[.I (.str x)],[.I (.str x)],J,J,J⟩).t ?_))))));show _=Z (((n? T).map λx=>(D.str x,D.J)).map p2,a);rw[aW];rfl
 .obtain⟨m,e⟩:=N7 (x:=.un) (n? T) lN (n? T) [] .un (by simp;omega);refine As (ρ:=[.I w,.I (.str "two"),NL,.un,m]) J ?_;unfold ye;refine(yh J).t ((yh J).t ((uR (h _)).t ((yh J).t ((uR J).t ((uR ((xX J).t e)).t ?_)))));rfl
 .refine As (ρ:=[.I w,.I (.str "alone"),.un,.un,.un]) J ?_;unfold ye;exact G2 ((vP J))
 .let a:aP:=[.I w,.I (.str "way"),.un,.un,.un];refine As (ρ:=a) J ?_;unfold ye;refine(yh J).t (G2 ((vP J).t (xP ((xi D.str (λx=>.c4 [.str x,.J]) (ω W) (ρ1:=a) ?_ (by omega) λx y=>⟨[.I (.str x)],[.I (.str x)],J,J,J⟩).t ?_))))
  .show iL _ a=_;unfold iL;rw[vz J J J J (N5 g.w8 λw l=>(g.wo w l).hw)]
  .show _=Z (((ω W).map λx=>(D.str x,D.J)).map p2,a);rw[aW];rfl
end
def cmV(N a:aC)(v:Str×Str):List L4.D:=(obF N a v.2).map (p3 v.1)
def cmA(N a:aC)(Q:List (Str×Str)):List L4.D:=Q.flatMap (cmV N a)
section
variable{T:List Th}{M:List Mk}{dk:aC}{W:List Wy}{V:List Vb}{R:List L4.D}{c:L4.D}
theorem QS(g:d? T M dk W):∀(L:List Vb) (acc:List L4.D) (s:Sl),(∀v∈L,v.f∈l3)->acc.length+49 * L.length<=900->∃b,fh (gN 2) (vH (Ir 1 (u7 2 [2] (iL (cL (vN yf kP))) (gT jl 2) vX (vI kZ)))) (L.map kh) [.I (wO T M dk W V R c),.ls acc,s]=Z (.nx [.I (wO T M dk W V R c),.ls (acc++cmA (n? T) (ω W) (L.map nf)),b])
 |[],acc,s,_,_=>⟨s,by show _=Z (x3.nx [_,.ls (acc++[]),s]);rw[bT];rfl⟩
 |v::L,acc,s,d,j=>by
  rw[aN]at j;have lN:(n? T).length<=7:=by unfold n?;rw[ag];exact g.p7
  have lo:=acW lN (VF W) v.f;let w:=wO T M dk W V R c;let nw:List L4.D:=cmV (n? T) (ω W) (nf v);have m:nw.length<=49:=by show (cG _ _).length<=49;rw[ag];exact lo
  obtain⟨b,e⟩:=QS g L (acc++nw) (.I (kh v)) (λu l=>d u (bc _ l)) (by rw[aE];omega);refine⟨b,?_⟩;rw[aI];unfold fh;let a:aP:=[.I w,.ls acc,.I (kh v)];rw[show gN 2 (kh v) [.I (wO T M dk W V R c),.ls acc,s]=Z a from J];have i:u7 2 [2] (iL (cL (vN yf kP))) (gT jl 2) vX (vI kZ) a=Z (nw,a):=by refine xi p2 (p3 v.n) (obF (n? T) (ω W) v.f) ?_ (by omega) λq y=>⟨[.I q.1,.I q.2,.I (kh v)],[.I q.1,.I q.2,.I (kh v)],J,J,J⟩;unfold iL;rw[we (uP J (Pt g (d v ba)))]
  have h:vH (Ir 1 (u7 2 [2] (iL (cL (vN yf kP))) (gT jl 2) vX (vI kZ))) a=Z (.nx [.I w,.ls (acc++nw),.I (kh v)]):=(xb (Ul J i J (by omega)));simp only[h];rw[e,cc];rfl
def VG(b:∀v∈V,v∈v6):∀v∈V++v9,v.f∈l3:=λv a=>v_fm (by
 rcases aV.1 a with a|a
 .exact bI _ (b v a)
 .exact bB _ a)
def N8(g:d? T M dk W)(a:∀v∈V,v∈v6)(lV:V.length<=6):EX [wO T M dk W V R c]=Z (cmA (n? T) (ω W) ((V++v9).map nf)):=by
 let w:=wO T M dk W V R c;have b:(V++v9).length<=15:=by rw[aE];show V.length+9<=15;omega
 obtain⟨d,e⟩:=QS g (V++v9) [] .un (VG a) (by simp only[gV];omega);refine As (ρ:=[.I w,.un,d]) J ?_;unfold EW;refine(uR (ρ':=[.I w,.ls [],.un]) J).t ((uR ((xX ?_).t e)));unfold iL;rw[vz J J J J (Gj V lV _ _ _ _ _ _)]
end
abbrev Ky:=Str×Str
def kD(k:Ky):L4.D:=.c4 [.str k.1,.str k.2]
def sD(P:List Ky)(v:Ky->L4.D):L4.D:=.c4 (P.map λk=>.c4 [kD k,v k])
def QT(k j:Ky):en δ (kD k) (kD j)=Z (.U (decide (k=j))):=by obtain⟨a,b⟩:=k;obtain⟨c,d⟩:=j;have e:Jn δ (.c4 [.str a,.str b]) (.c4 [.str c,.str d])=O:=rfl;have f:Nq δ (.c4 [.str a,.str b]) (.c4 [.str c,.str d])=Z (.U (L3.m3 (.c4 [.str a,.str b]) (.c4 [.str c,.str d]))):=rfl;unfold en kD;rw[e];simp only;rw[f];congr 2;rw[du];simp[L3.m3,L3.Ea]
theorem Kg(p:Sl)(k:Ky)(v:Ky->L4.D):∀(P:List Ky) (s:Sl),∃c,fh (gN 2) (ew (cT (c2 (en δ) (c2 e8 ao aO) ai)) (uU (c2 e8 ao aR)) u0) (P.map λk=>.c4 [kD k,v k]) [p,.I (kD k),s]=Z (if k∈P then .rt (v k) [p,.I (kD k),c]else .nx [p,.I (kD k),c])
 |[],s=>⟨s,by rw[ak cw];rfl⟩
 |q::P,s=>by
  let Q:Sl:=.I (.c4 [kD q,v q]);have a:cT (c2 (en δ) (c2 e8 ao aO) ai) [p,.I (kD k),Q]=Z (decide (q=k),[p,.I (kD k),Q]):=vU (uY J J (QT _ _));rw[aI];unfold fh;rw[show gN 2 (.c4 [kD q,v q]) [p,.I (kD k),s]=Z [p,.I (kD k),Q] from J];by_cases h:q=k
  .rw[bg h]at a;refine⟨Q,?_⟩;simp only[vP a];rw[aj (by rw[h];exact ba),<- h];rfl
  .rw[bq h]at a;obtain⟨c,d⟩:=Kg p k v P Q;refine⟨c,?_⟩;simp only[v8 a,u0];rw[d];by_cases b:k∈P
   .rw[aj b,aj (bc _ b)]
   .rw[ak b,ak λz=>by rcases aM.1 z with z|z;exact h z.symm;exact b z]
def N9(P:List Ky)(v:Ky->L4.D)(k:Ky):Cn [sD P v,kD k]=Z (if k∈P then v k else .J):=by
 obtain⟨b,h⟩:=Kg (.I (sD P v)) k v P .un;by_cases a:k∈P
 .rw[aj a]at h ⊢;exact u6 J (vE ((xX J).t h))
 .rw[ak a]at h ⊢;exact u6 J ((uR ((xX J).t h)))
def up(v:Ky->L4.D)(k:Ky)(d:L4.D):Ky->L4.D:=λq=>if q=k then d else v q
def QU(P:List Ky)(hP:P.length<=900)(v:Ky->L4.D)(k:Ky)(d:L4.D):Bb [sD P v,kD k,d]=Z (sD P (up v k d)):=by
 let a:aP:=[.I (sD P v),.I (kD k),.I d];refine u6 (ρ:=a) J (vq ?_);have e:cL (u7 1 [1,2] (iT ab) (gN 0) vX (rr (cT (c2 (en δ) (c2 e8 ab aO) ai)) (vI cD) ab)) a=Z (.b4 (P.map λq=>.c4 [kD q,up v k d q]),a):=by
  refine we (xi (λq:Ky=>.c4 [kD q,v q]) (λq=>.c4 [kD q,up v k d q]) P J (by omega) λq y=>⟨[.I (.c4 [kD q,v q]),.I (kD k),.I d],[.I (.c4 [kD q,v q]),.I (kD k),.I d],J,?_,J⟩);have b:cT (c2 (en δ) (c2 e8 ab aO) ai) [.I (.c4 [kD q,v q]),.I (kD k),.I d]=Z (decide (q=k),[.I (.c4 [kD q,v q]),.I (kD k),.I d]):=vU (uY J J (QT _ _));unfold rr up;rw[b];by_cases h:q=k
  .rw[bg h,aj h,h];rfl
  .rw[bq h,ak h];rfl
 show Fm _ a=_;unfold Fm;rw[e];rfl
def va(fi:Str->Str)(mk:Str->Int):Ky->L4.D:=λk=>if k.1="at" then .str (fi k.2)else .int (mk k.2)
def N?{a:Type}(f:Str->a)(x:Str)(d:a):Str->a:=λy=>if y=x then d else f y
def ae0(fi:Str->Str)(mk:Str->Int)(x d:Str)(P:List Ky):sD P (up (va fi mk) ("at", x) (.str d))=sD P (va (N? fi x d) mk):=by
 unfold sD;congr 1;refine md λk w=>?_;obtain⟨a,y⟩:=k;unfold up va N?;by_cases h:a="at"
 .subst h;by_cases b:y=x
  .subst b;simp
  .simp[b]
 .simp[h]
def ae1(fi:Str->Str)(mk:Str->Int)(x:Str)(d:Int)(P:List Ky)(hP:∀k∈P,k.1="at" \/ k.1="mark"):sD P (up (va fi mk) ("mark", x) (.int d))=sD P (va fi (N? mk x d)):=by
 unfold sD;congr 1;refine md λk b=>?_;have b:=hP k b;obtain⟨a,y⟩:=k;unfold up va N?;rcases b with h|h
 .have h:a="at" := h;subst h;have:¬("at" : Str)="mark" := by decide
  simp[this]
 .have h:a="mark" := h;subst h;have:¬("mark" : Str)="at" := by decide
  by_cases c:y=x
  .subst c;simp[this]
  .simp[c,this]
def getD_map{c d:Type}(f:c->d)(a:c)(b:d)(l:List c){i:Nat}(h:i<l.length):(l.map f).getD i b=f (l.getD i a):=by rw[cZ,cZ,bx,bh h];rfl
def Pu{a:Type}(d:a):∀l:List a,(bf l.length).map (λi=>l.getD i d)=l:=λl=>by
 apply List.ext_getElem
 .rw[ag,bS]
 .intro i c b;rw[List.getElem_map,List.getElem_range,cZ,bh b];rfl
def kL2(k:Ky):aC:=[k.1,k.2]
theorem Oa:∀P:List Ky,zp (P.map kD)=Z (P.map kL2)
 |[]=>rfl
 |q::P=>by rw[aI];unfold zp;rw[Oa P];rfl
def VH(P:List Ky)(a:0<P.length)(b:P.length<64):∃Rk:List Ky,Rk.Perm P/\B7 (P.map kD)=Z (Rk.map kD):=by
 let c:Nat->Nat->Bool:=λi j=>Kv ((P.map kL2).getD i []) ((P.map kL2).getD j []);refine⟨(O1 c P.length).map λi=>P.getD i ("", ""),?_,?_⟩
 .have:=(GB c a).map λi=>P.getD i ("", "");rw[Pu]at this;exact this
 .unfold B7;rw[Oa];simp only[ag];rw[aj ⟨a,b⟩,aW];congr 1;exact md λi d=>getD_map kD ("", "") .J P (L9 c a i d)
def l'(T:List Th):aC:=(T.filter λt=>!decide (t.k=.room)).map Th.n
def PT(T:List Th)(M:List Mk):List Ky:=((l' T).map λx=>(("at", x):Ky))++(pw T M).map λx=>(("mark", x):Ky)
def VI(t:Th):en γ (.str t.k.s) (.str "room")=Z (.U (!decide (t.k=.room))):=by cases t.k<;>kernel_rfl
section
variable{T:List Th}{M:List Mk}{dk:aC}{W:List Wy}{V:List Vb}{R:List L4.D}{c:L4.D}{P:List Ky}
def VJ(T:List Th):(l' T).length<=T.length:=by unfold l';rw[ag];exact cB _ _
def VL(T:List Th)(M:List Mk):(pw T M).length<=T.length+M.length:=by unfold pw;rw[aE,ag,ag];have:=cB (λt:Th=>t.k.mk) T;omega
def Ob(g:d? T M dk W):∃t∈T,t.n="me" /\ t.k=.you:=by
 have h:("me" : Str)∈(T.filter λt=>decide (t.k=.you)).map Th.n:=by rw[g.y1];exact bj.2 J
 obtain⟨t,a,e⟩:=au.1 h;rw[aS]at a;exact⟨t,a.1,e,bp a.2⟩
def Kh{T:List Th}(b:(T.map Th.n).Nodup){t u:Th}(d:t∈T)(f:u∈T)(e:t.n=u.n):t=u:=by
 induction T with
 |nil=>cases d
 |cons a T h=>
  rw[aI,dv]at b;rcases aM.1 d with h1|h1<;>rcases aM.1 f with h2|h2
  .rw[h1,h2]
  .exact ar (show a.n∈T.map Th.n from by rw[<-h1,e];exact au.2 ⟨_,h2,J⟩) b.1
  .exact ar (show a.n∈T.map Th.n from by rw[<-h2,<- e];exact au.2 ⟨_,h1,J⟩) b.1
  .exact h b.2 h1 h2
def MG(d:(T.map Th.n).Nodup)(p:Th->Bool){t:Th}(b:t∈T):t.n∈(T.filter p).map Th.n ↔ p t=γ:=by
 constructor
 .intro h;obtain⟨u,a,e⟩:=au.1 h;rw[aS]at a;rw[<-Kh d a.1 b e];exact a.2
 .exact λh=>au.2 ⟨t,aS.2 ⟨b,h⟩,J⟩
def VM(g:d? T M dk W):("me" : Str)∈l' T:=by obtain⟨t,a,e,k⟩:=Ob g;rw[<-e];exact(MG g.r? _ a).2 (by rw[k];rfl)
def Ki(g:d? T M dk W):0<(PT T M).length/\(PT T M).length<64:=by have a:=VJ T;have b:=VL T M;have d:=jH (VM g);have e:=g.len;have f:=g.m4;unfold PT;rw[aE,ag,ag];omega
def Oc(h:P.Perm (PT T M))(x:Str):(("at", x):Ky)∈P ↔ x∈l' T:=by
 rw[h.mem_iff];unfold PT;rw[aV,au,au];constructor
 .rintro(⟨y,a,e⟩|⟨y,a,e⟩)
  .injection e with _ e;rw[<-e];exact a
  .injection e with e _;exact ar e (by decide)
 .exact λh=>.inl ⟨x,h,J⟩
def VN(h:P.Perm (PT T M))(x:Str):(("mark", x):Ky)∈P ↔ x∈pw T M:=by
 rw[h.mem_iff];unfold PT;rw[aV,au,au];constructor
 .rintro(⟨y,a,e⟩|⟨y,a,e⟩)
  .injection e with e _;exact ar e (by decide)
  .injection e with _ e;rw[<-e];exact a
 .exact λh=>.inr ⟨x,h,J⟩
def VO(h:P.Perm (PT T M)):∀k∈P,k.1="at" \/ k.1="mark" := λk a=>by
 have a:=h.mem_iff.1 a;unfold PT at a;rw[aV,au,au]at a;rcases a with ⟨y,_,rfl⟩|⟨y,_,rfl⟩
 .exact .inl J
 .exact .inr J
def VP(g:d? T M dk W):∃Rk:List Ky,Rk.Perm (PT T M)/\B7 ((PT T M).map kD)=Z (Rk.map kD)/\zG [wO T M dk W V R c]=Z (.b4 (Rk.map kD)):=by
 have hT:=g.len;have hM:=g.m4;obtain⟨j,l⟩:=Ki g;obtain⟨Rk,pR,e⟩:=VH (PT T M) j l;refine⟨Rk,pR,e,?_⟩;let w:=wO T M dk W V R c;let a:L4.D:=.b4 ((l' T).map λx=>kD ("at", x));let b:L4.D:=.b4 ((pw T M).map λx=>kD ("mark", x));let d:Sl->Sl->aP:=λp q=>[.I w,p,q];have m:=VJ T;have o:=VL T M;have f:u7 1 [] (iL (c1 (uV w5 "kept_things") ab)) (gN 0) (cT (c2 (en γ) (c1 (uV vG "kind") ab) dh)) (vI og) (d .un .un)=Z ((T.filter λt=>!decide (t.k=.room)).map λt=>kD ("at", t.n),d .un .un):=
  zd eo (λt=>kD ("at", t.n)) (λt=>!decide (t.k=.room)) T J (by omega) λt y=>⟨[.I (eo t)],[.I (eo t)],J,vU (uY (vO J (AN t)) J (VI t)),λy=>⟨_,J,J⟩,λy=>J⟩
 have h:u7 1 [] (iL (cL (vN yY sf))) (gN 0) vX (vI (ax fW bH)) (d (.I a) .un)=Z ((pw T M).map λx=>kD ("mark", x),d (.I a) .un):=
  xi D.str (λx=>kD ("mark", x)) (pw T M) (CS (we (uP J (Ex T M (by omega) hM)))) (by omega) λx y=>⟨[.I (.str x)],[.I (.str x)],J,J,J⟩
 have i:Dn (cL (xB ai ao)) (d (.I a) (.I b))=Z (Rk.map kD,d (.I a) (.I b)):=by
  have q:cL (xB ai ao) (d (.I a) (.I b))=Z (.b4 ((PT T M).map kD),d (.I a) (.I b)):=by refine(we (wK J J (by rw[ag,ag];omega))).t ?_;unfold PT;rw[bu,aW,aW];rfl
  unfold Dn;rw[q];simp only[e]
 refine EF (ρ:=d (.I a) (.I b)) J ?_;refine(uR ((wa (we f)).t ?_)).t ((uR ((wa (we h)))).t (xP i));show Z (x3.nx [Sl.I w,.I (.b4 ((T.filter λt=>!decide (t.k=.room)).map λt=>kD ("at", t.n))),.un])=Z (x3.nx [Sl.I w,.I (.b4 (((T.filter λt=>!decide (t.k=.room)).map Th.n).map λx=>kD ("at", x))),.un]);rw[aW];rfl
def zY(b:(T.map Th.n).Nodup){t:Th}(a:t∈T):xt [wO T M dk W V R c,.str t.n]=Z (eo t):=by refine u6 J (vq (uY J J ?_));show Z ((wG (nK T) (T.map eo) (kS t.n)).getD .J)=_;rw[Gh b eo a];rfl
def SD(g:d? T M dk W):Ck [wO T M dk W V R c]=Z (.Y (M.map λm=>kS m.n) (M.map λm=>D.int m.st)):=by
 let w:=wO T M dk W V R c;have j:((M.map λm=>kS m.n)).Nodup:=by have:=(bM.1 g.nd).2.1;rw[show (λm:Mk=>kS m.n)=kS∘Mk.n from J,<- aW];exact iR.2 (this.imp λh e=>h (Ms e))
 have q:=g.m4;obtain⟨l,e⟩:=Ap (g:=gN 2) (i:=1) (fk:=c1 (uV vg "name") ao) (fv:=c1 (uV wF "start") ao) u5 Mk.n (λm=>D.int m.st) (λb a s=>[.I w,.dk b a,s])
  (λm b a s=>⟨[.I w,.dk b a,.I (u5 m)],J,J,J,J,λf d=>⟨_,J⟩⟩) M [] [] .un (by rw[cg];exact j) (by simp;omega) J
 rw[cg,cg]at e;refine u6 (ρ:=[.I w,.I (.Y (M.map λm=>kS m.n) (M.map λm=>D.int m.st)),l]) J ?_;refine(uR J).t ?_;refine(uR ((xX ?_).t e));exact CS (vz J J J J J)
def VQ(g:d? T M dk W){t:Th}(a:t∈T)(st:L4.D):yp [wO T M dk W V R c,st,kD ("at", t.n)]=Z (oS t.s):=by refine u6 J (vE ((vP (vU (uY J J (by rw[wX];rfl)))).t (vq (vO (vz J J J J (zY g.r? a)) (IM t)))))
def Pw(x:Str)(b:List dr)(a:List L4.D):yp [wO T M dk W V R c,.Y b a,kD ("mark", x)]=Z ((wG b a (kS x)).getD (.int 0)):=by refine u6 J ((uR ((v8 (vU (uY J J (by rw[wX];rfl)))))).t J)
theorem Od{d:Type}(kf:d->dr)(b:d->Int)(k:dr):∀l:List d,∃z,(wG (l.map kf) (l.map λa=>D.int (b a)) k).getD (.int 0)=.int z
 |[]=>⟨0,J⟩
 |a::l=>by
  rw[aI,aI];unfold wG;split
  .exact⟨b a,J⟩
  .exact Od kf b k l
def ψ(T:List Th)(x:Str):Str:=((T.find? λt=>decide (t.n=x)).bind Th.s).getD ""
def MH(b:(T.map Th.n).Nodup){t:Th}(a:t∈T):ψ T t.n=t.s.getD "" := by
 unfold ψ;cases h:T.find? λu=>decide (u.n=t.n)with
 |none=>exact ar (pG.1 h t a) (by simp)
 |some u=>rw[Kh b (List.mem_of_find?_eq_some h) a (bp (qC (p:=λu:Th=>decide (u.n=t.n)) h))];rfl
def QV(g:d? T M dk W){t:Th}(j:t∈T)(h:t.k≠.room):∃p,t.s=Z p/\p∈l0 T/\(t.k=.you->p∈i0 T):=by
 have a:=g.st t j;unfold D5 at a;have l:∀p,p∈i0 T->p∈l0 T:=λp i=>by obtain⟨u,d,e⟩:=au.1 i;rw[aS]at d;exact au.2 ⟨u,aS.2 ⟨d.1,by rw[bp d.2];rfl⟩,e⟩
 cases f:t.s with
 |none=>rw[f]at a;cases b:t.k<;>rw[b]at a h<;>first|exact ar J h|exact a.elim
 |some p=>rw[f]at a;refine⟨p,J,?_⟩;cases b:t.k<;>rw[b]at a h<;>first|exact ar J h|exact⟨l p a,λy=>a⟩|exact⟨a,λz=>by cases z⟩
def VR(g:d? T M dk W):∃(P:List Ky) (m:Str->Int),P.Perm (PT T M)/\B7 ((PT T M).map kD)=Z (P.map kD)/\zG [wO T M dk W V R c]=Z (.b4 (P.map kD))/\(∀x,(wG (M.map λm=>kS m.n) (M.map λm=>D.int m.st) (kS x)).getD (.int 0)=.int (m x))/\Bs [wO T M dk W V R c]=Z (sD P (va (ψ T) m)):=by
 obtain⟨Rk,pR,eS,eR⟩:=VP g;have d:∀x,∃z,(wG (M.map λm=>kS m.n) (M.map λm=>D.int m.st) (kS x)).getD (.int 0)=.int z:=λx=>Od (λm:Mk=>kS m.n) Mk.st (kS x) M;refine⟨Rk,λx=>(d x).choose,pR,eS,eR,λx=>(d x).choose_spec,?_⟩;let w:=wO T M dk W V R c;let st:L4.D:=.Y (M.map λm=>kS m.n) (M.map λm=>D.int m.st);have hR:Rk.length<64:=by rw[pR.length_eq];exact(Ki g).2
 have val:∀k∈Rk,yp [w,st,kD k]=Z (va (ψ T) (λx=>(d x).choose) k):=λk i=>by
  obtain⟨a,x⟩:=k;rcases VO pR _ i with h|h
  .have h:a="at" := h;subst h;have l:=(Oc pR x).1 i;obtain⟨t,b,rfl⟩:=au.1 l;rw[aS]at b;obtain⟨p,j,_⟩:=QV g b.1 (λz=>by rw[z]at b;exact ar b.2 (by decide));rw[VQ g b.1];unfold va;rw[aj J,MH g.r? b.1,j];rfl
  .have h:a="mark" := h;subst h;rw[Pw,(d x).choose_spec];unfold va;rw[ak (show ¬("mark" : Str)="at" by decide)]
 let f:aP:=[.I w,.I st];refine u6 (ρ:=f) J ((uR ((wa (uP J (SD g))))).t (vq ?_));have e:=xi (k:=1) (d6:=[0,1]) (g:=gN 0) (fe:=vI sJ) (s:=iL (vh zT "parts" ab vA)) (ρ:=f) kD (λk=>.c4 [kD k,va (ψ T) (λx=>(d x).choose) k]) Rk
  (CS (vz J J J J eR)) (by omega) λk i=>⟨[.I (kD k),.I w,.I st],[.I (kD k),.I w,.I st],J,aaP (uX J (uX (uP J (val k i)) J)) (show 2<=1000 by decide),J⟩
 show Fm _ f=_;unfold Fm;rw[we e];rfl
end
inductive Ch(T:List Th) (a:Str->Str):Str->aC->Prop
 |nil {x:Str} (h:x∉l' T):Ch T a x []
 |cons {x:Str} {l:aC} (h:x∈l' T) (c:Ch T a (a x) l):Ch T a x (a x::l)
structure cb(T:List Th)(a:Str->Str):Prop where
 me:a "me" ∈ i0 T
 hd:∀x∈l' T,a x∈l0 T
 ch:∀x,∃l,Ch T a x l
section
variable{T:List Th}{M:List Mk}{dk:aC}{W:List Wy}{V:List Vb}{R:List L4.D}{c:L4.D}{P:List Ky}{a:Str->Str}{m:Str->Int}
def acX{x:Str}{l e:aC}(h:Ch T a x l):Ch T a x e->l=e:=by
 induction h generalizing e with
 |nil h=>intro b;cases b with
  |nil _=>rfl
  |cons b _=>exact ar b h
 |cons h _ f=>intro b;cases b with
  |nil b=>exact ar h b
  |cons _ d=>rw[f d]
def acY{x:Str}{l:aC}(h:Ch T a x l):∀y∈l,∃f,Ch T a y f/\f.length<l.length:=by
 induction h with
 |nil _=>intro y b;cases b
 |@cons x l h d j=>
  intro y b;rcases aM.1 b with e|b
  .rw[e];exact⟨l,d,by rw[aN];omega⟩
  .obtain⟨f,i,o⟩:=j y b;exact⟨f,i,by rw[aN];omega⟩
def QW{x:Str}{l:aC}(h:Ch T a x l):x∉l:=λe=>by obtain⟨f,d,b⟩:=acY h x e;rw[acX h d]at b;exact d8 _ b
def Y9{x:Str}{l:aC}(h:Ch T a x l):l.Nodup:=by
 induction h with
 |nil _=>exact j8
 |@cons x l h d b=>exact dv.2 ⟨QW d,b⟩
def Za(i:cb T a){x:Str}{l:aC}(h:Ch T a x l):∀y∈l,y∈l0 T:=by
 induction h with
 |nil _=>intro y b;cases b
 |@cons x l h d f=>
  intro y b;rcases aM.1 b with e|b
  .rw[e];exact i.hd x h
  .exact f y b
theorem Px:∀{l L:aC},l.Nodup->(∀x∈l,x∈L)->l.length<=L.length
 |[],L,_,_=>cp _
 |a::l,L,b,e=>by rw[dv]at b;have d:=e a ba;have:=Px b.2 λz f=>(oZ (show z≠a from λw=>b.1 (w▸f))).2 (e z (bc _ f));rw[oE d]at this;have:=jH d;rw[aN];omega
def Py(g:d? T M dk W)(i:cb T a){x:Str}{l:aC}(h:Ch T a x l):l.length<=13:=by
 have b:=Px (Y9 h) (Za i h);have d:(l0 T).length<=T.length:=by unfold l0;rw[ag];exact cB _ _
 have:=g.len;omega
def Yl{x b:Str}{w:Str}{l:aC}(h:Ch T a w l):w≠x->x∉l->Ch T (N? a x b) w l:=by
 induction h with
 |nil h=>intro _ _;exact .nil h
 |@cons w l h d o=>intro j i;have e:N? a x b w=a w:=ak j;have f:=o (λz=>i (by rw[z];exact ba)) λz=>i (bc _ z);rw[<-e]at f ⊢;exact .cons h f
def cb.mv(g:d? T M dk W)(i:cb T a){x b:Str}(q:x∈l' T)(hb:b∈l0 T)(hm:x="me" -> b∈i0 T)(h1:b≠x){f:aC}(o:Ch T a b f)(h2:x∉f):cb T (N? a x b) where
 me:=by
  unfold N?;by_cases e:("me" : Str)=x
  .rw[aj e];exact hm e.symm
  .rw[ak e];exact i.me
 hd:=λy r=>by
  unfold N?;by_cases e:y=x
  .rw[aj e];exact hb
  .rw[ak e];exact i.hd y r
 ch:=λw=>by
  have cx:Ch T (N? a x b) x (N? a x b x::f):=.cons q (by rw[show N? a x b x=b from aj J];exact Yl o h1 h2);obtain⟨l,h⟩:=i.ch w
  induction h with
  |nil h=>exact⟨_,.nil h⟩
  |@cons w l h d t=>
   by_cases e:w=x
   .rw[e];exact⟨_,cx⟩
   .obtain⟨u,j⟩:=t;have p:N? a x b w=a w:=ak e;rw[<-p]at j;exact⟨_,.cons h j⟩
def LA(p:P.Perm (PT T M))(x:Str):zH [sD P (va a m),.str x]=Z (if x∈l' T then .str (a x)else .J):=by
 refine u6 J (vq (uP J ((N9 P (va a m) ("at", x)).t ?_)));congr 1;by_cases h:x∈l' T
 .rw[aj h,aj ((Oc p x).2 h)];unfold va;rw[aj J]
 .rw[ak h,ak λz=>h ((Oc p x).1 z)]
def MI(p:P.Perm (PT T M))(x:Str):Am [sD P (va a m),.str x]=Z (if x∈pw T M then .int (m x)else .J):=by
 refine u6 J (vq (uP J ((N9 P (va a m) ("mark", x)).t ?_)));congr 1;by_cases h:x∈pw T M
 .rw[aj h,aj ((VN p x).2 h)];unfold va;rw[ak (show ¬("mark" : Str)="at" by decide)]
 .rw[ak h,ak λz=>h ((VN p x).1 z)]
def aD(T:List Th)(a:Str->Str)(x:Str):L4.D:=if x∈l' T then .str (a x)else .J
def SE(p:P.Perm (PT T M))(w e:Sl){x:Str}{l:aC}(h:Ch T a x l):∀(n:Nat) (b:List L4.D),l.length<n->b.length+l.length<=1000->
  whL (cT (c2 xu aH aK)) (bt (vH (CZ 3 aH)) (vp 4 (uQ zH lg))) n [w,.I (sD P (va a m)),e,.ls b,.I (aD T a x)]=Z (.nx [w,.I (sD P (va a m)),e,.ls (b++l.map D.str),.I .J]):=by
 let S:=sD P (va a m)
 induction h with
 |@nil x h=>
  intro n b f _;rw[show aD T a x=.J from ak h];cases n with
  |zero=>cases f
  |succ n=>rw[fO,bT];rfl
 |@cons x l h d o=>
  intro n b f j;rw[show aD T a x=.str (a x) from aj h];rw[aN]at f j;cases n with
  |zero=>cases f
  |succ n=>
   have i:bt (vH (CZ 3 aH)) (vp 4 (uQ zH lg)) [w,.I S,e,.ls b,.I (.str (a x))]=Z (.nx [w,.I S,e,.ls (b++[.str (a x)]),.I (aD T a (a x))]):=by refine(uR (xb ((Uk J J J (by omega))))).t ?_;exact(wa (uP J (LA p (a x)))).t J
   rw[aI];unfold whL;rw[show cT (c2 xu aH aK) [w,.I (sD P (va a m)),e,.ls b,.I (.str (a x))]=Z (γ,[w,.I S,e,.ls b,.I (.str (a x))]) from J];simp only[i];refine(o n (b++[.str (a x)]) (by omega) (by rw[aE,di];omega)).t ?_;rw[cc];rfl
def MJ(p:P.Perm (PT T M))(w:L4.D){x:Str}{l:aC}(h:Ch T a x l)(b:l.length<=13):yd [w,sD P (va a m),.str x]=Z (l.map D.str):=by let S:=sD P (va a m);refine As (ρ:=[.I w,.I S,.I (.str x),.un,.I .J]) J ?_;refine(uR J).t ?_;refine(uR ((wa (uP J (LA p x))))).t ?_;exact(uR (SE p (.I w) (.I (.str x)) h 50 [] (by omega) (by simp;omega)))
def acZ(p:P.Perm (PT T M)){x:Str}{l:aC}(h:Ch T a x l)(b:l.length<=13):Vd [wO T M dk W V R c,sD P (va a m),.str x]=Z (.U (decide (("me" : Str)∈l))):=by refine u6 J (vq (uY (vz J J J J J) (we (uP J (MJ p _ h b))) (wU δ _ _)))
def inv0(g:d? T M dk W):cb T (ψ T) where
 me:=by obtain⟨t,b,e,k⟩:=Ob g;obtain⟨q,h1,_,h2⟩:=QV g b (by rw[k];exact λz=>by cases z);rw[<-e,MH g.r? b,h1];exact h2 k
 hd:=λx f=>by obtain⟨t,b,rfl⟩:=au.1 f;rw[aS]at b;obtain⟨q,h1,h2,_⟩:=QV g b.1 (λz=>by rw[z]at b;exact ar b.2 (by decide));rw[MH g.r? b.1,h1];exact h2
 ch:=λx=>by
  obtain⟨r,hr⟩:=g.rk;have:∀(n:Nat) (x:Str),r x<n->∃l,Ch T (ψ T) x l:=by
   intro n
   induction n with
   |zero=>intro x h;cases h
   |succ n i=>
    intro x h;by_cases f:x∈l' T
    .obtain⟨t,b,rfl⟩:=au.1 f;rw[aS]at b;obtain⟨q,h1,_,_⟩:=QV g b.1 (λz=>by rw[z]at b;exact ar b.2 (by decide));have e:ψ T t.n=q:=by rw[MH g.r? b.1,h1];rfl
     have h2:=((hr t b.1).2 q h1).1;obtain⟨l,d⟩:=i q (by omega);rw[<-e]at d;exact⟨_,.cons f d⟩
    .exact⟨_,.nil f⟩
  exact this (r x+1) x (by omega)
end
def zZ{e b:FE}{ρ a:aP}(c:e ρ=Z (.U δ,a)):v3 e b ρ=Z (.U δ,a):=by unfold v3;rw[c]
section
variable{T:List Th}{M:List Mk}{dk:aC}{W:List Wy}{V:List Vb}{R:List L4.D}{c:L4.D}{P:List Ky}{a:Str->Str}{m:Str->Int}
structure D0(T:List Th)(M:List Mk)(dk:aC)(W:List Wy)(P:List Ky)(a:Str->Str):Prop where
 g:d? T M dk W
 p:P.Perm (PT T M)
 i:cb T a
def VS{x:Str}(h:x∈l0 T):∃t∈T,t.n=x/\t.k.hd=γ:=by obtain⟨t,b,e⟩:=au.1 h;rw[aS]at b;exact⟨t,b.1,e,b.2⟩
def Zb(g:d? T M dk W){t:Th}(b:t∈T):t.n∈pw T M ↔ t.k.mk=γ:=by
 unfold pw;rw[aV,MG g.r? _ b];constructor
 .rintro(h|h)
  .exact h
  .exact ar J ((bM.1 g.nd).2.2 _ (au.2 ⟨t,b,J⟩) _ h)
 .exact .inl
def QX(t:Th)(k:Kd):en δ (.str t.k.s) (.str k.s)=Z (.U (decide (t.k=k))):=Gf t.k k
def Ym(s:D0 T M dk W P a){x:Str}(i:x∈l0 T):∃b,zy [wO T M dk W V R c,sD P (va a m),.str x]=Z (.U b):=by
 obtain⟨t,e,rfl,_⟩:=VS i;let f:aP:=[.I (wO T M dk W V R c),.I (sD P (va a m)),.I (.str t.n)];have d:c2 (en δ) (c1 (uV vG "kind") (vh vw "thing_of" ab cj)) dP f=Z (.U (decide (t.k=.box)),f):=
  uY (vO (vz J J J J (zY s.g.r? e)) (AN t)) J (QX t .box)
 by_cases h:t.k=.box
 .rw[bg h]at d;refine⟨decide (m t.n=0),u6 J (vq ((vd d).t (uY (uP J ((MI s.p t.n).t (by rw[aj ((Zb s.g e).2 (by rw[h];rfl))]))) J ?_)))⟩;rw[zC];rfl
 .rw[bq h]at d;exact⟨δ,u6 J (vq (zZ d))⟩
def opn(b:Str->Bool)(h:Str):aC->Bool
 |[]=>δ
 |a::l=>if a=h then γ else if b a then δ else opn b h l
def VT{b:Str->Bool}{h a:Str}{l:aC}:opn b h (a::l)=if a=h then γ else if b a then δ else opn b h l:=rfl
def oB:FS:=(bt (ew (cT (c2 (en δ) aH ay)) (uU cI) u0)
 (ew (cT (uQ zy oh)) (uU bE) u0))
theorem LB{w st x:L4.D}{e:Str->Bool}(h:Str):∀(l:aC) (s:Sl),(∀a∈l,zy [w,st,.str a]=Z (.U (e a)))->∃o,fh (gN 4) oB (l.map D.str) [.I w,.I st,.I x,.I (.str h),s]=Z (.rt (.U (opn e h l)) [.I w,.I st,.I x,.I (.str h),o])\/(opn e h l=δ/\fh (gN 4) oB (l.map D.str) [.I w,.I st,.I x,.I (.str h),s]=Z (.nx [.I w,.I st,.I x,.I (.str h),o]))
 |[],s,_=>⟨s,.inr ⟨J,J⟩⟩
 |a::l,s,r=>by
  let d:aP:=[.I w,.I st,.I x,.I (.str h),.I (.str a)];have f:cT (c2 (en δ) aH ay) d=Z (decide (a=h),d):=vU (uY J J (wX δ a h));have i:cT (uQ zy oh) d=Z (e a,d):=vU (uP J (r a ba));rw[aI];unfold fh;rw[show gN 4 (.str a) [.I w,.I st,.I x,.I (.str h),s]=Z d from J];rw[VT];by_cases j:a=h
  .rw[bg j]at f;rw[aj j];refine⟨.I (.str a),.inl ?_⟩;have p:oB d=Z (.rt (.U γ) d):=vE ((vP f));simp only[p];rfl
  .rw[bq j]at f;rw[ak j];have p:oB d=_:=uR ((v8 f));simp only[p];cases q:e a with
   |true=>rw[q]at i;refine⟨.I (.str a),.inl ?_⟩;simp only[(vP i).t (J:uU bE d=Z (.rt (.U δ) d)),if_true];rfl
   |false=>rw[q]at i;obtain⟨o,g⟩:=LB h l (.I (.str a)) λb t=>r b (bc _ t);refine⟨o,?_⟩;simp only[(v8 i).t (J:u0 d=Z (.nx d)),eQ,if_false];exact g
def MK(s:D0 T M dk W P a)(x h:Str):∃b,zz [wO T M dk W V R c,sD P (va a m),.str x,.str h]=Z (.U b):=by
 obtain⟨l,d⟩:=s.i.ch x;have o:∀y:Str,∃b:Bool,y∈l0 T->zy [wO T M dk W V R c,sD P (va a m),.str y]=Z (.U b):=λy=>by
  by_cases f:y∈l0 T
  .obtain⟨b,e⟩:=Ym s f;exact⟨b,λw=>e⟩
  .exact⟨δ,λz=>ar z f⟩
 refine⟨opn (λy=>(o y).choose) h l,?_⟩;obtain⟨t,q⟩:=LB h l .un λy f=>(o y).choose_spec (Za s.i d y f);have j:=we (uP (a:=ax ab cD) (ρ:=[.I (wO T M dk W V R c),.I (sD P (va a m)),.I (.str x),.I (.str h),.un]) J (MJ s.p _ d (Py s.g s.i d)));rcases q with q|⟨r,q⟩
 .exact u6 J (vE ((xX (CS j)).t q))
 .rw[r];exact u6 J ((uR ((xX (CS j)).t q)))
def ML(s:D0 T M dk W P a):An [wO T M dk W V R c,sD P (va a m)]=Z (.str (a "me")):=
 u6 J (vq (uP (uX J (uX (vz J J J J J) J)) ((LA s.p "me").t (by rw[aj (VM s.g)]))))
def VU(s:D0 T M dk W P a){t:Th}(i:t∈T)(h:t.k=.lamp)(r:Str):∃b,AK [wO T M dk W V R c,sD P (va a m),.str t.n,.str r]=Z (.U b):=by
 let e:aP:=[.I (wO T M dk W V R c),.I (sD P (va a m)),.I (.str t.n),.I (.str r)];have d:c2 (en δ) (uQ Am cD) aR e=Z (.U (decide (m t.n=1)),e):=uY (uP J ((MI s.p t.n).t (by rw[aj ((Zb s.g i).2 (by rw[h];rfl))]))) J (by rw[zC];rfl);obtain⟨b,f⟩:=MK s t.n r;cases q:decide (m t.n=1)with
 |true=>rw[q]at d;exact⟨b,u6 J (vq ((vd d).t (uP J f)))⟩
 |false=>rw[q]at d;exact⟨δ,u6 J (vq (zZ d))⟩
def VV(s:D0 T M dk W P a):∃b,FX [wO T M dk W V R c,sD P (va a m)]=Z (.U b):=by
 let w:=wO T M dk W V R c;let r:=a "me";let S:=sD P (va a m);let f:aP:=[.I w,.I S,.I (.str r)];have o:vp 2 (uQ An cA) [.I w,.I S,.un]=Z (.nx f):=(wa (uP J (ML s))).t J;have i:wq (cT (vh zF "is_dark" ab cj)) f=Z (!decide (r∈dk),f):=wW (vU (vz J J J J (u6 J (vq (uY J J (wU δ r dk))))));cases q:decide (r∈dk)with
 |false=>rw[q]at i;exact⟨γ,u6 J ((uR o).t (vE ((vP i))))⟩
 |true=>
  rw[q]at i;have u:=s.g.len;let L:=T.filter λt=>decide (t.k=.lamp);have l:∀t:Th,∃b:Bool,t∈L->AK [w,S,.str t.n,.str r]=Z (.U b):=λt=>by
   by_cases j:t∈L
   .have h:=aS.1 j;obtain⟨b,e⟩:=VU s h.1 (bp h.2) r;exact⟨b,λy=>e⟩
   .exact⟨δ,λz=>ar z j⟩
  have p:u7 1 [0,1,2] (iL (vh yn "of_kind" ab jv)) (gN 0) vX (uQ AK sC) f=Z (L.map λt=>D.U (l t).choose,f):=by have d:L.length<=1000:=bC (cB _ _) (by omega);exact xi (λt:Th=>D.str t.n) (λt=>D.U (l t).choose) L (CS (vz J J J J (J9 T (by omega) _ _ .lamp))) d λt j=>⟨[.I (.str t.n),.I w,.I S,.I (.str r)],[.I (.str t.n),.I w,.I S,.I (.str r)],J,uP J ((l t).choose_spec j),J⟩
  exact⟨_,u6 J ((uR o).t ((uR ((v8 i))).t (vq (vO (we p) (Qs _ _)))))⟩
def QY(s:D0 T M dk W P a){t:Th}(u:t∈T):∃b,yJ [wO T M dk W V R c,sD P (va a m),.str t.n]=Z (.U b):=by
 let w:=wO T M dk W V R c;let S:=sD P (va a m);let d:aP:=[.I w,.I S,.I (.str t.n),.I (eo t)];have f:vp 3 (vh vw "thing_of" ab cj) [.I w,.I S,.I (.str t.n),.un]=Z (.nx d):=(wa (vz J J J J (zY s.g.r? u))).t J;have e:xk (cT (c2 zk ay aK)) (wq (cT (vh wb "is_plainly" ay vA))) d=Z (!t.k.pl,d):=xN J (wW (vU (vz J J J J (Gg t))));obtain⟨i,p⟩:=MK s t.n "me";obtain⟨j,q⟩:=MK s t.n (a "me");obtain⟨x,r⟩:=VV s;have h:cT (uQ zz sj) d=Z (i,d):=vU (uP (uX J (uX J (uX J (uX (vz J J J J J) J)))) p);have l:uQ zz sA d=Z (.U j,d):=uP (uX J (uX J (uX J (uX (uP J (ML s)) J)))) q;cases o:t.k.pl with
 |false=>rw[o]at e;exact⟨_,u6 J ((uR f).t (vE ((vP e))))⟩
 |true=>
  rw[o]at e;cases i with
  |true=>exact⟨_,u6 J ((uR f).t ((uR ((v8 e))).t (vE ((vP h)))))⟩
  |false=>
   cases j with
   |true=>exact⟨_,u6 J ((uR f).t ((uR ((v8 e))).t ((uR ((v8 h))).t (vq ((vd l).t (uP J r))))))⟩
   |false=>exact⟨_,u6 J ((uR f).t ((uR ((v8 e))).t ((uR ((v8 h))).t (vq (zZ l)))))⟩
def Yn(S:L4.D):yJ [wO T M dk W V R c,S,.J]=Z (.U δ):=by let w:=wO T M dk W V R c;let d:aP:=[.I w,.I S,.I .J,.I .J];have b:vp 3 (vh vw "thing_of" ab cj) [.I w,.I S,.I .J,.un]=Z (.nx d):=(wa (vz J J J J (by rfl))).t J;exact u6 J ((uR b).t (vE ((vP J))))
end
def q3(v:Str)(x y:Option Str):L4.D:=.c4 [.str v,oS x,oS y]
def Cm(T:List Th)(W:List Wy)(v:Vb)(x y:Option Str):Prop:=(v.f="one" /\ ∃n∈n? T,x=Z n/\y=O)\/(v.f="two" /\ ∃n∈n? T,∃k∈n? T,x=Z n/\y=Z k)\/(v.f="alone" /\ x=O/\y=O)\/(v.f="way" /\ ∃d∈ω W,x=Z d/\y=O)
def thO(v:Vb)(x y:Option Str):List (Option Str):=if v.f="way" then [O,O]else [x,y]
section
variable{T:List Th}{M:List Mk}{dk:aC}{W:List Wy}{V:List Vb}{R:List L4.D}{c:L4.D}{P:List Ky}{a:Str->Str}{m:Str->Int}{v:Vb}{x y:Option Str}
def SF{g:Nat->Option (List L4.D->Option L4.D)}{k:Str}{e:FE}{l:FA}{j b f:aP}{h:List L4.D->Option L4.D}{i:List L4.D}{d:L4.D}(o:e j=Z (wO T M dk W V R c,b))(p:g 14=Z h)(q:wNs.contains k=δ)(r:l b=Z (i,f))(t:h (wO T M dk W V R c::i)=Z d):vh g k e l j=Z (d,f):=vz o p q r t
def Oe{q:FT}{f g:FE}{d b:aP}(h:q d=Z (δ,b)):rr q f g d=g b:=by unfold rr;rw[h]
def QZ(d:((V++v9).flatMap Vb.ws).Nodup)(b:v∈V++v9):yw [wO T M dk W V R c,.str v.n]=Z (kh v):=xR J (wm (uT (uY J J (MC d b)) J))
def VW(d:((V++v9).flatMap Vb.ws).Nodup)(b:v∈V++v9)(x y:Option Str):Bc [wO T M dk W V R c,q3 v.n x y]=Z (.U (decide (v.f="way"))):=xR J (vc (vK (uT ((Oe J).t (SF J J J J (QZ d b))) (wm (uT ((vd J).t (uY J J (wX δ v.f "way"))) J)))))
def LC(d:((V++v9).flatMap Vb.ws).Nodup)(b:v∈V++v9)(x y:Option Str):wR [wO T M dk W V R c,q3 v.n x y]=Z (.c4 ((thO v x y).map oS)):=xR J (vc (E2 (uT (xN J (vU (uP J (VW d b x y)))) ⟨λh=>wm (uT J (by unfold thO;rw[aj (bp h)];rfl)),λh=>xI J (wm (uT J (by unfold thO;rw[ak (of_decide_eq_false h)];rfl)))⟩)))
def m_it{w S q:L4.D}(h:wR [w,q]=Z (.c4 [oS x,oS y])):wB [w,S,q,.str "it"]=Z (oS x):=xR J (kc J (zh J (wm (uT (uY (uP J h) J J) J))))
def Yo{w S q:L4.D}(h:wR [w,q]=Z (.c4 [oS x,oS y])):wB [w,S,q,.str "other"]=Z (oS y):=xR J (kc J (kc J (zh J (wm (uT (uY (uP J h) J J) J)))))
def ac0(s:D0 T M dk W P a)(q:L4.D):wB [wO T M dk W V R c,sD P (va a m),q,.str "here"]=Z (.str (a "me")):=xR J (zh J (wm (uT (uP J (ML s)) J)))
def Kj(w S q:L4.D){x:Str}(h:Nm x):wB [w,S,q,.str x]=Z (.str x):=by have all:=aQ.1 (show (nmL.all λx=>!decide (x="here")&&!decide (x="it")&&!decide (x="other"))=γ by kernel_rfl) x h;simp only[aU,fH,decide_eq_false_iff_not]at all;have e:∀t:Str,¬x=t->cT (c2 (en δ) ay (cC (.str t))) [.I w,.I S,.I q,.I (.str x)]=Z (δ,[.I w,.I S,.I q,.I (.str x)]):=λt b=>vU (uY J J ((wX δ x t).t (by rw[bq b];rfl)));exact xR J (kc (e _ all.1.1) (kc (e _ all.1.2) (kc (e _ all.2) (wm (uT J J)))))
def Yp(p:((V++v9).flatMap Vb.ws).Nodup)(o:v∈V++v9)(i:Cm T W v x y)(S:L4.D){t:Str}(h:By v.f t):∃z∈n? T,wB [wO T M dk W V R c,S,q3 v.n x y,.str t]=Z (.str z):=by
 have b:=LC (T:=T) (M:=M) (dk:=dk) (W:=W) (R:=R) (c:=c) p o x y;have nw:∀f:Str,f∈(["one", "two"]:aC)->v.f=f->wR [wO T M dk W V R c,q3 v.n x y]=Z (.c4 [oS x,oS y]):=λf j e=>by unfold thO at b;rw[ak (show ¬v.f="way" from by rw[e];intro z;rw[z]at j;exact ar j (by decide))]at b;exact b
 rcases h with ⟨rfl,h⟩|⟨rfl,h⟩
 .have b:=nw _ h J;rcases i with ⟨_,n,d,rfl,rfl⟩|⟨_,n,d,k,l,rfl,rfl⟩|⟨e,_⟩|⟨e,_⟩
  .exact⟨n,d,m_it b⟩
  .exact⟨n,d,m_it b⟩
  .rw[e]at h;exact ar h (by decide)
  .rw[e]at h;exact ar h (by decide)
 .have b:=nw "two" (by decide) h;rcases i with ⟨e,_⟩|⟨_,n,d,k,l,rfl,rfl⟩|⟨e,_⟩|⟨e,_⟩
  .rw[e]at h;exact ar h (by decide)
  .exact⟨k,l,Yo b⟩
  .rw[e]at h;exact ar h (by decide)
  .rw[e]at h;exact ar h (by decide)
def VX(g:d? T M dk W){z:Str}(h:z∈T.map Th.n):Nm z:=g.nm _ (bI _ h)
def pl_T{z:Str}(h:z∈n? T):z∈T.map Th.n:=by obtain⟨t,b,rfl⟩:=au.1 h;exact au.2 ⟨t,(aS.1 b).1,J⟩
def Of{z:Str}(h:z∈l0 T):z∈T.map Th.n:=by obtain⟨t,b,rfl⟩:=au.1 h;exact au.2 ⟨t,(aS.1 b).1,J⟩
def VY{z:Str}(h:z∈i0 T):z∈T.map Th.n:=by obtain⟨t,b,rfl⟩:=au.1 h;exact au.2 ⟨t,(aS.1 b).1,J⟩
def m_tm(s:D0 T M dk W P a)(l:((V++v9).flatMap Vb.ws).Nodup)(d:v∈V++v9)(b:Cm T W v x y){N:aC}(hN:∀z∈N,z∈T.map Th.n){t:Str}(h:Tm v.f N t):∃z∈T.map Th.n,wB [wO T M dk W V R c,sD P (va a m),q3 v.n x y,.str t]=Z (.str z):=by
 rcases h with h|rfl|h
 .exact⟨t,hN t h,Kj _ _ _ (VX s.g (hN t h))⟩
 .exact⟨_,VY s.i.me,ac0 s _⟩
 .obtain⟨z,j,e⟩:=Yp l d b (sD P (va a m)) h;exact⟨z,pl_T j,e⟩
def Hold(k:Nat)(w S q t:L4.D)(b:Bool):Prop:=∃j e f d,t=.obj j e f/\vT k j=Z d/\e.contains "holds" = δ/\d [t,w,S,q]=Z (.U b)
def SG(s:D0 T M dk W P a)(nd:((V++v9).flatMap Vb.ws).Nodup)(Y:v∈V++v9)(U:Cm T W v x y){n:Nat}{t:L4.D}(h:Ts T M v.f n t):∀k,n<=k->∃b,Hold k (wO T M dk W V R c) (sD P (va a m)) (q3 v.n x y) t b:=by
 have B:∀{N:aC},(∀z∈N,z∈T.map Th.n)->∀{t:Str},Tm v.f N t->∃u∈T,wB [wO T M dk W V R c,sD P (va a m),q3 v.n x y,.str t]=Z (.str u.n):=λhN _ h=>by obtain⟨z,A,e⟩:=m_tm s nd Y U hN h;obtain⟨u,G,rfl⟩:=au.1 A;exact⟨u,G,e⟩
 induction h with
 |@ats n t1 t2 q hb=>
  intro k _;obtain⟨z,A,o⟩:=B (λ_ h=>h) q;obtain⟨u,G,eu⟩:=B (λ_ h=>Of h) hb;have e:=LA (a:=a) (m:=m) s.p z.n;by_cases r:z.n∈l' T
  .rw[aj r]at e;exact⟨_,3,_,_,ET,J,by cases k<;>rfl,J,xR J (vc (vK (uT (uP J o) (vc (vK (uT (uP J e) (wm (uT ((vd J).t (uY J (uP J eu) (wX δ _ _))) J))))))))⟩
  .rw[ak r]at e;exact⟨δ,3,_,_,ET,J,by cases k<;>rfl,J,xR J (vc (vK (uT (uP J o) (vc (vK (uT (uP J e) (wm (uT (zZ J) J))))))))⟩
 |@has n t1 q=>intro k _;obtain⟨z,A,o⟩:=B (λ_ h=>h) q;obtain⟨l,ch⟩:=s.i.ch z.n;exact⟨_,4,_,_,HY,J,by cases k<;>rfl,J,xR J (wm (uT (uP (uX J (uX J (uX (uP J o) J))) (acZ s.p ch (Py s.g s.i ch))) J))⟩
 |@seen n t1 q=>intro k _;obtain⟨z,A,o⟩:=B (λ_ h=>h) q;obtain⟨b,H⟩:=QY s A;exact⟨b,5,_,_,F1,J,by cases k<;>rfl,J,xR J (wm (uT (uP (uX J (uX J (uX (uP J o) J))) H) J))⟩
 |@mark n p val w=>
  intro k _;obtain⟨z,o⟩:∃z,wB [wO T M dk W V R c,sD P (va a m),q3 v.n x y,.str p.1]=Z (.str z):=by
   rcases w with w|⟨w,_⟩
   .exact⟨_,Kj _ _ _ (Vr s.g w)⟩
   .obtain⟨z,_,e⟩:=Yp nd Y U (sD P (va a m)) w;exact⟨z,e⟩
  have e:=MI (a:=a) (m:=m) s.p z;by_cases r:z∈pw T M
  .rw[aj r]at e;exact⟨_,6,_,_,AL,J,by cases k<;>rfl,J,xR J (vc (vK (uT (uP (uX J (uX (uP J o) J)) e) (wm (uT ((vd J).t (uY J J (zC _ _ _))) J)))))⟩
  .rw[ak r]at e;exact⟨δ,6,_,_,AL,J,by cases k<;>rfl,J,xR J (vc (vK (uT (uP (uX J (uX (uP J o) J)) e) (wm (uT (zZ J) J)))))⟩
 |@kind n t1 kk q=>intro k _;obtain⟨u,G,o⟩:=B (λ_ h=>h) q;exact⟨_,7,_,_,F3,J,by cases k<;>rfl,J,xR J (vc (vK (uT (SF J J J (uX (uP J o) J) (zY s.g.r? G)) (wm (uT ((vd J).t (uY J J (wX _ _ _))) J)))))⟩
 |@word n d X=>
  intro k _;obtain⟨z,rfl⟩:∃z,x=Z z:=by
   rcases U with ⟨e,_⟩|⟨e,_⟩|⟨e,_⟩|⟨_,d,_,rfl,_⟩
   iterate 3 rw[e]at X;exact ar X (by decide)
   exact⟨d,J⟩
  exact⟨_,8,_,_,F5,J,by cases k<;>rfl,J,xR J (wm (uT ((vd (uP J ((VW nd Y (Z z) y).t (by rw[bg X])))).t (uY J J (wX _ _ _))) J))⟩
 |@lit n=>intro k _;obtain⟨b,H⟩:=VV s;exact⟨b,15,_,_,Ia,J,by cases k<;>rfl,J,xR J (wm (uT (uP J H) J))⟩
 |@no n d h ih=>intro k hk;obtain⟨k,rfl⟩:∃j,k=j+1:=⟨k - 1,by omega⟩;obtain⟨b,j,ns,ds,hh,rfl,C,E,F⟩:=ih k (by omega);exact⟨!b,9,["inner"],_,eb 4 4 (zU (vT k)),J,J,J,xR J (wm (uT (My (vz J C E J F)) J))⟩
 |@bo n d e h h' ih ih'=>
  intro k hk;obtain⟨k,rfl⟩:∃j,k=j+1:=⟨k - 1,by omega⟩;obtain⟨b,j,ns,ds,hh,rfl,C,E,F⟩:=ih k (by omega);obtain⟨b',j',ns',ds',hh',rfl,I,Q,S⟩:=ih' k (by omega);refine⟨b&&b',10,["one", "other"],_,eb 4 4 (y8 (vT k)),J,J,J,xR J (wm ?_)⟩;cases b with
  |true=>exact uT ((vd (vz J C E J F)).t (vz J I Q rfl S)) J
  |false=>exact uT (zZ (vz J C E J F)) J
end
section
variable{T:List Th}{M:List Mk}{dk:aC}{W:List Wy}{V:List Vb}{R:List L4.D}{c:L4.D}{P:List Ky}{a:Str->Str}{m:Str->Int}{v:Vb}{x y:Option Str}
def D0.len(s:D0 T M dk W P a):P.length<=900:=by have:=(Ki s.g).2;rw[s.p.length_eq];omega
def ae5{x:Str}(h:x∈l' T):∃t∈T,t.n=x/\¬t.k=.room:=by obtain⟨t,b,e⟩:=au.1 h;rw[aS]at b;exact⟨t,b.1,e,λz=>by rw[z]at b;exact ar b.2 (by decide)⟩
def VZ(s:Str)(x:Str):en γ (.b4 [kD (s,x)]) (.b4 [])=Z (.U γ):=by rfl
def Og(g:d? T M dk W){x:Str}(h:x∈l' T):ER [wO T M dk W V R c,.str x]=Z (.b4 [kD ("at", x)]):=by obtain⟨t,j,rfl,i⟩:=ae5 h;let w:=wO T M dk W V R c;let b:aP:=[.I w,.I (.str t.n),.I (eo t)];have d:vp 2 (vh vw "thing_of" ab bP) [.I w,.I (.str t.n),.un]=Z (.nx b):=(wa (vz J J J J (zY g.r? j))).t J;have e:cT (c2 (en δ) (c1 (uV vG "kind") ao) dh) b=Z (δ,b):=vU (uY (vO J (AN t)) J ((QX t .room).t (by rw[bq i])));have f:xk (cT (c2 zk ao aK)) (cT (c2 (en δ) (c1 (uV vG "kind") ao) dh)) b=Z (δ,b):=xN J e;refine u6 (ρ:=b) J ((uR d).t (vq ?_));unfold rr;rw[f];rfl
def SI(g:d? T M dk W){x:Str}{t:Th}(i:x∈l' T)(h:t∈T):FZ [wO T M dk W V R c,.str x,.str t.n]=Z (.U (t.k.hd&&!decide (t.n=x))):=by
 let w:=wO T M dk W V R c;let b:aP:=[.I w,.I (.str x),.I (.str t.n),.I (eo t)];have f:vp 3 (vh vw "thing_of" ab cj) [.I w,.I (.str x),.I (.str t.n),.un]=Z (.nx b):=(wa (vz J J J J (zY g.r? h))).t J;have d:vh v5 "can_hold" ay vA b=Z (.U t.k.hd,b):=vz J J J J (IP t);refine u6 (ρ:=b) J ((uR f).t (vq ((vd (uY (uP J (Og g i)) J (VZ _ _))).t ((vd J).t ?_))));cases e:t.k.hd with
 |true=>rw[e]at d;exact(vd d).t (uY J J (by rw[wX];rfl))
 |false=>rw[e]at d;exact zZ d
def Done(w S q d:L4.D)(o:L4.D):Prop:=∃k e f b,d=.obj k e f/\Cq k=Z b/\e.contains "done" = δ/\b [d,w,S,q]=Z o
def stO(P:List Ky):Option ((Str->Str)×(Str->Int))->L4.D
 |none=>.J
 |some q=>sD P (va q.1 q.2)
def Q0(s:D0 T M dk W P a)(I:Mr T M m){q:L4.D}{t d x:Str}{u:Th}(C:x∈l' T)(A:u∈T)(H:x="me" -> u.k=.room)(F:wB [wO T M dk W V R c,sD P (va a m),q,.str t]=Z (.str x))(G:wB [wO T M dk W V R c,sD P (va a m),q,.str d]=Z (.str u.n)):
  ∃o,Done (wO T M dk W V R c) (sD P (va a m)) q (θ t d) (stO P o)/\∀p,o=Z p->cb T p.1/\Mr T M p.2:=by
 let w:=wO T M dk W V R c;let S:=sD P (va a m);obtain⟨l,h⟩:=s.i.ch u.n;let b:aP:=[.I (θ t d),.I w,.I S,.I q,.I (.str x),.I (.str u.n)];have e:cT (uQ FZ sG) b=Z (u.k.hd&&!decide (u.n=x),b):=vU (uP J (SI s.g C A));have E:cT (c2 (mn δ) aH (cL (vN yd kQ))) b=Z (decide (x∈l),b):=vU (uY J (we (uP J (MJ s.p _ h (Py s.g s.i h)))) (wU δ _ _));have r:∀f:FS,bt (vp 4 (uQ wB gA)) (bt (vp 5 (uQ wB nV)) f) [.I (θ t d),.I w,.I S,.I q,.un,.un]=f b:=λf=>(uR ((wa (uP J F)))).t (uR ((wa (uP J G)).t J))
 cases k:u.k.hd&&!decide (u.n=x)with
 |false=>rw[k]at e;exact⟨O,⟨11,_,_,Bd,J,J,J,u6 J ((r _).t (vE ((vP (NZ (wW e))))))⟩,λp z=>by cases z⟩
 |true=>
  rw[k]at e;rw[aU,fH,decide_eq_false_iff_not]at k;have j:=xN (wW e) E;cases B:decide (x∈l)with
  |true=>rw[B]at j;exact⟨O,⟨11,_,_,Bd,J,J,J,u6 J ((r _).t (vE ((vP j))))⟩,λp z=>by cases z⟩
  |false=>rw[B]at j;refine⟨Z (N? a x u.n,m),⟨11,_,_,Bd,J,J,J,u6 J ((r _).t ((yh j).t (vq (uP J ((QU P s.len (va a m) ("at", x) (.str u.n)).t (by rw[ae0];rfl))))))⟩,λp z=>?_⟩;cases z;exact⟨s.i.mv s.g C (au.2 ⟨u,aS.2 ⟨A,k.1⟩,J⟩) (λz=>au.2 ⟨u,aS.2 ⟨A,bg (H z)⟩,J⟩) k.2 h (of_decide_eq_false B),I⟩
theorem V0{d:Type}(kf:d->dr)(b:d->Int)(k:dr):∀l:List d,(wG (l.map kf) (l.map λa=>D.int (b a)) k).getD .J=.J\/∃z,(wG (l.map kf) (l.map λa=>D.int (b a)) k).getD .J=.int z
 |[]=>.inl J
 |a::l=>by
  rw[aI,aI];unfold wG;split
  .exact .inr ⟨b a,J⟩
  .exact V0 kf b k l
def V1(s:D0 T M dk W P a)(Y:Mr T M m){q:L4.D}{t z:Str}(B:wB [wO T M dk W V R c,sD P (va a m),q,.str t]=Z (.str z)){n:Int}(n0:0<=n):
  ∃o,Done (wO T M dk W V R c) (sD P (va a m)) q (puO t n) (stO P o)/\∀p,o=Z p->cb T p.1/\Mr T M p.2:=by
 let w:=wO T M dk W V R c;let S:=sD P (va a m);let A:aP:=[.I (puO t n),.I w,.I S,.I q,.I (.str z)];have G:wL [w,.str z]=Z ((wG ((mP T M).map λq=>kS q.1) ((mP T M).map λq=>D.int q.2) (kS z)).getD .J):=u6 J (vq (uY J J J));have I:vp 4 (uQ wB gA) [.I (puO t n),.I w,.I S,.I q,.un]=Z (.nx A):=(wa (uP J B)).t J;have E:∀(d:L4.D),wL [w,.str z]=Z d->∀f:aP,cV 0 f=Z (w,f)->cV 1 f=Z (.str z,f)->vh wH "most_of" ab bP f=Z (d,f):=λd hd f Q B=>vz Q J J (uX B J) hd;have fin:∀b,ES [w,.str z,.int n]=Z (.U b)->(b=γ->∀q∈mP T M,q.1=z->n<=q.2)->∃o,Done w S q (puO t n) (stO P o)/\∀p,o=Z p->cb T p.1/\Mr T M p.2:=λb C U=>by
  have H:=wW (vU (uP (a:=ax ai (ax aH nZ)) (ρ:=A) J C));cases b with
  |false=>exact⟨O,⟨12,_,_,EU,J,J,J,u6 J ((uR I).t (vE ((vP H))))⟩,λp z=>by cases z⟩
  |true=>exact⟨Z (a,N? m z n),⟨12,_,_,EU,J,J,J,u6 J ((uR I).t ((yh H).t (vq (uP J ((QU P s.len (va a m) ("mark", z) (.int n)).t (by rw[ae1 _ _ _ _ _ (VO s.p)];rfl))))))⟩,λp e=>by
   cases e;refine⟨s.i,λq N=>?_⟩;show 0<=(if q.1=z then n else m q.1)/\(if q.1=z then n else m q.1)<=q.2;by_cases l:q.1=z
   .rw[aj l];exact⟨n0,U J q N l⟩
   .rw[ak l];exact Y q N⟩
 let j:aP:=[.I w,.I (.str z)];let r3:aP:=[.I w,.I (.str z),.I (.int n)];rcases V0 (λq:Str×Int=>kS q.1) bD (kS z) (mP T M)with h|⟨k,h⟩
 .have r:=G.t (bw Z h);have F:Ah [w,.str z]=Z (.b4 []):=by refine u6 J (vq ((DR (vU (uY (E _ r j J J) J J)))))
  exact fin δ (u6 J (vq (zZ (uY (uP J F) J J)))) λz=>by cases z
 .have r:=G.t (bw Z h);have F:Ah [w,.str z]=Z (.b4 [kD ("mark", z)]):=by refine u6 (ρ:=j) J (vq ?_);have e:cT (c2 zk (vh wH "most_of" ab bP) aK) j=Z (δ,j):=vU (uY (E _ r j J J) J J);show rr _ _ _ j=_;unfold rr;rw[e];rfl
  exact fin (decide (n<=k)) (u6 J (vq ((vd (uY (uP J F) J (VZ _ _))).t (uY J (E _ r r3 J J) J)))) λC u X l=>by rw[<-l,zN (QL s.g) (by rw[gw];exact bQ X)]at h;injection h with h;rw[h];exact bp C
def ae6(g:d? T M dk W){z:Str}(h:z∈n? T):z∈l' T/\¬z="me" := by obtain⟨t,d,rfl⟩:=au.1 h;rw[aS]at d;have b:=d.2;refine⟨(MG g.r? _ d.1).2 (by cases e:t.k<;>rw[e]at b<;>first|rfl|cases b),λz=>?_⟩;obtain⟨u,f,e,k⟩:=Ob g;rw[Kh g.r? d.1 f (z.t e.symm),k]at b;cases b
def V2(s:D0 T M dk W P a)(l:Mr T M m)(E:((V++v9).flatMap Vb.ws).Nodup)(C:v∈V++v9)(A:Cm T W v x y){d:L4.D}(h:Ds T M v.f d):∃o,Done (wO T M dk W V R c) (sD P (va a m)) (q3 v.n x y) d (stO P o)/\∀p,o=Z p->cb T p.1/\Mr T M p.2:=by
 cases h with
 |@put q n h G=>
  rcases h with h|⟨h,_⟩
  .exact V1 s l (Kj _ _ _ (Vr s.g h)) G
  .obtain⟨z,_,e⟩:=Yp E C A (sD P (va a m)) h;exact V1 s l e G
 |@Rn t b X Y hm=>
  obtain⟨z,hz,i⟩:=m_tm s E C A (λ_ h=>Of h) Y;obtain⟨u,B,rfl⟩:=au.1 hz;rcases X with ⟨w,j,rfl,hk⟩|h
  .have H:=Kj (wO T M dk W V R c) (sD P (va a m)) (q3 v.n x y) (VX s.g (au.2 ⟨w,j,J⟩));refine Q0 s l ((MG s.g.r? _ j).2 (by rw[bq hk];rfl)) B (λz=>?_) H i;obtain⟨r,F,e,kr⟩:=hm z;have I:=Kj (wO T M dk W V R c) (sD P (va a m)) (q3 v.n x y) (VX s.g (au.2 ⟨r,F,e⟩));rw[I]at i;have N:b=u.n:=by injection i with i;injection i
   rw[<-Kh s.g.r? F B (e.t N)];exact kr
  .obtain⟨w,j,Q⟩:=Yp E C A (sD P (va a m)) h;obtain⟨S,U⟩:=ae6 s.g j;exact Q0 s l S B (λz=>ar z U) Q i
end
section
variable{T:List Th}{M:List Mk}{dk:aC}{W:List Wy}{V:List Vb}{R:List L4.D}{c:L4.D}{P:List Ky}{a:Str->Str}{m:Str->Int}{v:Vb}{x y:Option Str}
def V3{w S q:L4.D}(n:Str)(e f:List L4.D)(l:Str)(i:Bool)(h:∀t∈e,∃b,Hold 3 w S q t b):∃d,Mn [w,S,q,p0 n e f l i]=Z d/\∃b,d=.U b:=by
 let o:=λ(_:Nat) (r:aP)=>∃s,r=[.I w,.I S,.I q,.I (p0 n e f l i),s];refine Ya J (vc (G1 (uT J ⟨o,⟨_,J⟩,?_,?_⟩)))
 .rintro j t _ hd ⟨s,rfl⟩;obtain⟨b,k,C,A,B,rfl,p,u,z⟩:=h t (bL hd);exact⟨_,J,E2 (uT (wW (vU (vz J p u J z))) ⟨λy=>wm (uT J ⟨_,J⟩),λy=>xI J ⟨_,J⟩⟩)⟩
 .rintro _ ⟨s,rfl⟩;exact wm (uT J ⟨_,J⟩)
def Zc(k b:Str)(S:L4.D):L4.D:=.c4 [.c4 [.str k,.str b],S]
def Gd(T:List Th)(M:List Mk)(P:List Ky)(S o:L4.D):Prop:=∃k e b d,o=Zc k e (sD P (va b d))/\k∈(["told", "refused", "unseen"]:aC)/\(k="told" \/ sD P (va b d)=S)/\cb T b/\Mr T M d
def Q1(i:cb T a)(b:Mr T M m){k d:Str}(h:k∈(["told", "refused", "unseen"]:aC)):Gd T M P (sD P (va a m)) (Zc k d (sD P (va a m))):=⟨_,_,a,m,J,h,.inr J,i,b⟩
def Yq(s:D0 T M dk W P a)(w:Mr T M m)(Q:((V++v9).flatMap Vb.ws).Nodup)(N:v∈V++v9)(H:Cm T W v x y)(n:Str)(B l:List L4.D)(z:Str)(A:Bool)(hd:∀d∈l,Ds T M v.f d):∃o,D4 [wO T M dk W V R c,sD P (va a m),q3 v.n x y,p0 n B l z A]=Z o/\Gd T M P (sD P (va a m)) o:=by
 refine Ya J ?_;cases A with
 |true=>exact zh J (wm (uT J (Q1 s.i w (by decide))))
 |false=>
  let C:=λ(_:Nat) (r:aP)=>∃e h t,r=[.I (wO T M dk W V R c),.I (sD P (va a m)),.I (q3 v.n x y),.I (p0 n B l z δ),.I (sD P (va e h)),t]/\cb T e/\Mr T M h;refine kc J (vc (xI J (vc (G1 (uT J ⟨C,⟨a,m,_,J,s.i,w⟩,?_,?_⟩)))))
  .rintro j d _ q ⟨e,h,t,rfl,u,b⟩;obtain⟨o,⟨k,X,S,U,rfl,E,F,G⟩,I⟩:=V2 ⟨s.g,s.p,u⟩ b Q N H (hd d (bL q));refine⟨_,J,vc (vK (uT (vz J E F J G) ?_))⟩;cases o with
   |none=>exact s_y J (wm (uT J (Q1 s.i w (by decide))))
   |some p=>exact s_n J (xI J ⟨p.1,p.2,_,J,I p J⟩)
  .rintro _ ⟨e,h,t,rfl,u,b⟩;exact wm (uT J ⟨"told", z,e,h,J,by decide,.inl J,u,b⟩)
def D8{c d:FT}{e b:aP}(h:c e=Z (γ,b)):zJ c d e=d b:=by unfold zJ;rw[h]
def D9{c e:FT}{d b:aP}(h:c d=Z (δ,b)):zJ c e d=Z (δ,b):=by unfold zJ;rw[h]
def Zd{e:FE}{f b:aP}{d:List L4.D}(h:e f=Z (.c4 d,b)):iT e f=Z (d,b):=by unfold iT;rw[h]
def nmP(b:List (Option Str)):aC:=b.filterMap id
theorem IQ(p:Str->Bool):∀b:List (Option Str),(b.filter λo=>match o with|none=>δ|some x=>p x).map oS=((nmP b).filter p).map D.str
 |[]=>rfl
 |none::b=>IQ p b
 |some x::b=>by
  show _=((x::nmP b).filter p).map D.str;rw[gU,gU];show cG oS (if p x=γ then _ else _)=cG _ (if p x=γ then _ else _);by_cases d:p x=γ
  .rw[aj d,aj d,aI,aI,IQ p b];rfl
  .rw[ak d,ak d];exact IQ p b
def V4(s:D0 T M dk W P a)(w:Mr T M m){q:L4.D}{n:Str}{e:List (Option Str)}{p:Str->Bool}{rs:List L4.D}(hO:e.length<=2)(I:∃f h,q=.c4 [.str n,f,h])(C:yA [wO T M dk W V R c,q]=Z .J)(u:wR [wO T M dk W V R c,q]=Z (.c4 (e.map oS)))(E:∀x∈nmP e,yJ [wO T M dk W V R c,sD P (va a m),.str x]=Z (.U (p x)))
  (F:xf [wO T M dk W V R c,.str n]=Z (.b4 rs)) (G:∀r∈rs,(∃d,Mn [wO T M dk W V R c,sD P (va a m),q,r]=Z d/\∃b,d=.U b)/\∃o,D4 [wO T M dk W V R c,sD P (va a m),q,r]=Z o/\Gd T M P (sD P (va a m)) o):∃o,Mo [wO T M dk W V R c,sD P (va a m),q]=Z o/\Gd T M P (sD P (va a m)) o:=by
 obtain⟨f,h,rfl⟩:=I;obtain⟨o,H,g⟩:∃o,EV [wO T M dk W V R c,sD P (va a m),.c4 [.str n,f,h],.b4 (((nmP e).filter p).map D.str)]=Z o/\Gd T M P (sD P (va a m)) o:=by
  let z:Sl->Sl->aP:=λx y=>[.I (wO T M dk W V R c),.I (sD P (va a m)),.I (.c4 [.str n,f,h]),.I (.b4 (((nmP e).filter p).map D.str)),x,y];let l:=λ(_:Nat) (r:aP)=>∃x,r=z x .un;refine Ya J (vc (G1 (uT (Zd (uP J u)) ⟨l,⟨_,J⟩,?_,?_⟩)))
  .rintro j d _ hd ⟨t,rfl⟩;rw[bx]at hd;obtain⟨x,_,rfl⟩:=f7.1 hd;refine⟨_,J,?_⟩;cases x with
   |none=>exact s_n J (xI J ⟨_,J⟩)
   |some x=>exact E2 (uT ((D8 J).t (vU (uY J J (wU γ x _)))) ⟨λv=>wm (uT J (Q1 s.i w (by decide))),λv=>xI J ⟨_,J⟩⟩)
  .rintro _ ⟨t,rfl⟩;let l:=λ(_:Nat) (r:aP)=>∃y,r=z t y;refine vc (G1 (uT (CS (SF J J J J F)) ⟨l,⟨_,J⟩,?_,?_⟩))
   .rintro j r _ hd ⟨y,rfl⟩;obtain⟨⟨_,A,b,rfl⟩,o,B,g⟩:=G r (bL hd);exact⟨_,J,E2 (uT (vU (uP J A)) ⟨λv=>wm (uT (uP J B) g),λv=>xI J ⟨_,J⟩⟩)⟩
   .rintro _ ⟨y,rfl⟩;exact wm (uT J (Q1 s.i w (by decide)))
 refine⟨o,xR J (vc (N1 (uT (uP J C) (vc (vK (tm (uT ((zd oS oS (λo=>match o with|none=>δ|some x=>p x) e (Zd (uP J u)) (by omega) λx N=>⟨_,_,J,vU (uP J ?_),λv=>⟨_,J,J⟩,λv=>J⟩).t (by rw[IQ])) (wm (uT (uP J H) J))))))))),g⟩;cases x with
 |none=>exact Yn _
 |some x=>exact E x (iJ.2 ⟨_,N,J⟩)
end
section
variable{T:List Th}{M:List Mk}{dk:aC}{W:List Wy}{V:List Vb}{R:List L4.D}{c:L4.D}{P:List Ky}{a:Str->Str}{m:Str->Int}{v:Vb}{x y:Option Str}
def ae7(g:d? T M dk W):("me" : Str)∈l0 T:=by obtain⟨t,b,e,k⟩:=Ob g;exact au.2 ⟨t,aS.2 ⟨b,by rw[k];rfl⟩,e⟩
def trR(v k:Str)(n:Int)(b d e:Str):List L4.D:=[p0 v [noO (kiO "it" k)] [] b γ,p0 v [mkO "it" n] [] d γ,p0 v [] [puO "it" n] e δ]
def ac1:A21=[p0 "take" [kiO "it" "fixed"] [] "That stays." γ,p0 "take" [atO "it" "me"] [] "You have that." γ,p0 "take" [] [θ "it" "me"] "Taken." δ,p0 "drop" [hsO "it"] [θ "it" "here"] "Dropped." δ,p0 "drop" [] [] "You lack that." γ,p0 "put" [noO (hsO "it")] [] "You lack that." γ,p0 "put" [noO (kiO "other" "box")] [] "It holds nothing." γ,p0 "put" [mkO "other" 0] [] "It is shut." γ,p0 "put" [] [θ "it" "other"] "Done." δ]++(trR "open" "box" 1 "It has no lid." "It is open." "Opened." ++ trR "shut" "box" 0 "It has no lid." "It is shut." "Shut." ++ (trR "light" "lamp" 1 "It burns not." "It is lit." "Lit." ++ trR "douse" "lamp" 0 "It burns not." "It is out." "Doused.")):=by kernel_rfl
def AO(l:v∈v9){d b:List L4.D}{i:Str}{h:Bool}(j:∀t∈d,Ts T M v.f 2 t)(hd:∀e∈b,Ds T M v.f e):RuS T M V (p0 v.n d b i h):=⟨v,bB _ l,d,b,i,h,J,j,hd⟩
def ZY{b:Type}{p:b->Prop}{d:b}(h:p d):∀e∈[d],p e:=λe f=>by rw[bj.1 f];exact h
def I?{b:Type}{p:b->Prop}:∀e∈([]:List b),p e:=λe d=>by cases d
def Q2{n k f h i:Str}{z:Int}(j:0<=z)(b:(⟨n,[],"one", O⟩:Vb)∈v9):∀r∈trR n k z f h i,RuS T M V r:=λr d=>by
 have e:By "one" "it" := .inl ⟨J,by decide⟩;have mt:Mt T M "one" ("it", 1):=.inr ⟨e,by decide⟩;simp only[trR,aM,cw,or_false]at d;rcases d with rfl|rfl|rfl
 .exact AO b (ZY (.no (.kind (.inr (.inr e))))) I?
 .exact AO b (ZY (.mark mt)) I?
 .exact AO b I? (ZY (.put mt j))
def ac2(g:d? T M dk W):∀r∈A21,RuS T M V r:=λr hr=>by
 have d:By "one" "it" := .inl ⟨J,by decide⟩;have j:By "two" "it" := .inl ⟨J,by decide⟩;have f:By "two" "other" := .inr ⟨J,J⟩;have l:=ae7 g;have nme:("it" : Str)="me" -> ∀b:Str,∃t∈T,t.n=b/\t.k=.room:=λz=>ar z (by decide);have h:(⟨"take", [],"one", O⟩:Vb)∈v9:=by simp[v9]
 have i:(⟨"drop", [],"one", O⟩:Vb)∈v9:=by simp[v9]
 have e:(⟨"put", [],"two", Z "in"⟩:Vb)∈v9:=by simp[v9]
 rw[ac1]at hr;rcases aV.1 hr with hr|hr
 .simp only[aM,cw,or_false]at hr;rcases hr with rfl|rfl|rfl|rfl|rfl|rfl|rfl|rfl|rfl
  .exact AO h (ZY (.kind (.inr (.inr d)))) I?
  .exact AO h (ZY (.ats (.inr (.inr d)) (.inl l))) I?
  .exact AO h I? (ZY (.Rn (.inr d) (.inl l) λz=>nme z _))
  .exact AO i (ZY (.has (.inr (.inr d)))) (ZY (.Rn (.inr d) (.inr (.inl J)) λz=>nme z _))
  .exact AO i I? I?
  .exact AO e (ZY (.no (.has (.inr (.inr j))))) I?
  .exact AO e (ZY (.no (.kind (.inr (.inr f))))) I?
  .exact AO e (ZY (.mark (q:=("other", 1)) (.inr ⟨f,by decide⟩))) I?
  .exact AO e I? (ZY (.Rn (.inr j) (.inr (.inr f)) λz=>nme z _))
 .rcases aV.1 hr with hr|hr
  .rcases aV.1 hr with hr|hr
   .exact Q2 (by decide) (by simp[v9]) r hr
   .exact Q2 (by decide) (by simp[v9]) r hr
  .rcases aV.1 hr with hr|hr
   .exact Q2 (by decide) (by simp[v9]) r hr
   .exact Q2 (by decide) (by simp[v9]) r hr
def V5{r:Str}(h:r∈i0 T):r∈l0 T:=by obtain⟨u,b,e⟩:=au.1 h;rw[aS]at b;exact au.2 ⟨u,aS.2 ⟨b.1,by rw[bp b.2];rfl⟩,e⟩
def ae8(g:d? T M dk W){w:Wy}(b:Sv T M w):RuS T M V (goO w):=by
 have l:(⟨"go", [],"way", O⟩:Vb)∈v9:=by simp[v9]
 obtain⟨t,i,e,k⟩:=Ob g;have o:("me" : Str)∈T.map Th.n:=au.2 ⟨t,i,e⟩;refine AO l (λd hd=>?_) (ZY (.Rn (.inl ⟨t,i,e,by rw[k];exact λz=>by cases z⟩) (.inl (V5 b.hg)) λy=>?_))
 .unfold wtL at hd;rcases aV.1 hd with hd|hd
  .rw[aM,bj]at hd;rcases hd with rfl|rfl
   .exact .ats (.inl o) (.inl (V5 b.hr))
   .exact .word J
  .cases f:w.m with
   |none=>rw[f]at hd;cases hd
   |some k=>rw[f]at hd;rw[bj.1 hd];have:=b.hm k f;rw[<-MB]at this;obtain⟨q,j,rfl⟩:=au.1 this;exact .no (.mark (.inl j))
 .obtain⟨u,h,e⟩:=au.1 b.hg;rw[aS]at h;exact⟨u,h.1,e,bp h.2⟩
def ae9(g:d? T M dk W):∀r∈SH W,RuS T M V r:=λr hr=>by
 have b:(⟨"go", [],"way", O⟩:Vb)∈v9:=by simp[v9]
 have e:(⟨"wait", [],"alone", O⟩:Vb)∈v9:=by simp[v9]
 unfold SH at hr;rcases aV.1 hr with hr|hr
 .rcases aV.1 hr with hr|hr
  .exact ac2 g r hr
  .rcases aV.1 hr with hr|hr
   .obtain⟨w,d,rfl⟩:=au.1 hr;exact ae8 g (g.wo w d)
   .rw[bj.1 hr];exact AO b I? I?
 .rw[bj.1 hr];exact AO e I? I?
def vb_f{L:List Vb}(d:(L.flatMap Vb.ws).Nodup){u v:Vb}(i:u∈L)(j:v∈L)(e:u.n=v.n):u.f=v.f:=by have b:=MC d i;have h:=MC d j;rw[e,h]at b;injection b with b;injection b with _ _ b;injection b with _ b;injection b with _ b;injection b with b _;injection b with b;exact b.symm
def ac3{f:List dr}{dss:List (List L4.D)}(h:∀j,gl f dss j=(R++SH W).filter λd=>decide (kv d=j))(n:Str):xf [wO T M dk W V R (.Y f (dss.map .b4)),.str n]=Z (.b4 ((R++SH W).filter λd=>decide (kv d=kS n))):=by let b:aP:=[.I (wO T M dk W V R (.Y f (dss.map .b4))),.I (.str n)];refine EF (ρ:=b) J (xP ?_);have e:Hk (c1 (uV yU "rules_by_verb") ab) ai (cL (vF vA)) b=Z ((wG f (dss.map .b4) (kS n)).getD (.b4 []),b):=rfl;rw[QO,h]at e;show AW _ b=_;unfold AW;rw[e];rfl
def Try(T:List Th)(M:List Mk)(dk:aC)(W:List Wy)(V:List Vb)(R:List L4.D)(c:L4.D):Prop:=∀n:Str,xf [wO T M dk W V R c,.str n]=Z (.b4 ((R++SH W).filter λd=>decide (kv d=kS n)))
def Pz(g:d? T M dk W){x:Str}(d:x∈n? T):zV [wO T M dk W V R c,.str x]=Z (.U γ):=by obtain⟨t,b,rfl⟩:=au.1 d;rw[aS]at b;exact xR J (vc (vK (uT ((DR J).t (SF J J J J (zY g.r? b.1))) (wm (uT ((vd J).t (vz J J J J ((Gg t).t (by rw[b.2])))) J)))))
def Yr(g:d? T M dk W)(h:Cm T W v x y):DL [wO T M dk W V R c,.str v.f,oS x,oS y]=Z (.U γ):=by
 rcases h with ⟨e,n,b,rfl,rfl⟩|⟨e,n,b,k,i,rfl,rfl⟩|⟨e,rfl,rfl⟩|⟨e,d,hd,rfl,rfl⟩<;>rw[e]
 .exact xR J (kc J (kc J (kc J (wm (uT ((Oe J).t (uP J (Pz g b))) J)))))
 .exact xR J (zh J (wm (uT ((vd (uP J (Pz g b))).t (uP J (Pz g i))) J)))
 .exact xR J (kc J (kc J (kc J (wm (uT J J)))))
 .exact xR J (kc J (kc J (zh J (wm (uT ((vd J).t (uY J (SF J J J J (N5 g.w8 λw j=>(g.wo w j).hw)) (wU δ _ _))) (by rw[bg hd];rfl))))))
def ac4(g:d? T M dk W)(e:((V++v9).flatMap Vb.ws).Nodup)(d:v∈V++v9)(b:Cm T W v x y):yA [wO T M dk W V R c,q3 v.n x y]=Z .J:=by have h:Cr [wO T M dk W V R c,q3 v.n x y]=Z (.U γ):=xR J (kc J (vc (vK (uT (SF J J J J (QZ e d)) (wm (uT ((vd J).t ((vd (uY J J (by rw[wX];simp))).t (uP J (Yr g b)))) J))))));exact Bi J ((v8 (wW (vU (uP J h)))))
def afa(h:Cm T W v x y):∀z∈nmP (thO v x y),z∈n? T:=λz b=>by
 unfold thO at b;rcases h with ⟨e,n,f,rfl,rfl⟩|⟨e,n,f,k,i,rfl,rfl⟩|⟨e,rfl,rfl⟩|⟨e,d,hd,rfl,rfl⟩
 .rw[e,ak (by decide),show nmP [Z n,O]=[n] from J,bj]at b;rw[b];exact f
 .rw[e,ak (by decide),show nmP [Z n,Z k]=[n,k] from J,aM,bj]at b;rcases b with rfl|rfl
  .exact f
  .exact i
 .rw[e,ak (by decide)]at b;cases b
 .rw[e,aj J]at b;cases b
def JC(s:D0 T M dk W P a):∃p:Str->Bool,∀x∈n? T,yJ [wO T M dk W V R c,sD P (va a m),.str x]=Z (.U (p x)):=by
 have h:∀x:Str,∃b:Bool,x∈n? T->yJ [wO T M dk W V R c,sD P (va a m),.str x]=Z (.U b):=λx=>by
  by_cases d:x∈n? T
  .obtain⟨t,f,rfl⟩:=au.1 d;obtain⟨b,e⟩:=QY s (aS.1 f).1;exact⟨b,λy=>e⟩
  .exact⟨δ,λz=>ar z d⟩
 exact⟨λx=>(h x).choose,λx=>(h x).choose_spec⟩
def V6(s:D0 T M dk W P a)(q:Mr T M m)(d:((V++v9).flatMap Vb.ws).Nodup)(B:Try T M dk W V R c)(hR:∀r∈R,RuS T M V r)(b:v∈V++v9)(e:Cm T W v x y):∃o,Mo [wO T M dk W V R c,sD P (va a m),q3 v.n x y]=Z o/\Gd T M P (sD P (va a m)) o:=by obtain⟨p,w⟩:=JC s;refine V4 s q (by unfold thO;split<;>exact aJ 2) ⟨_,_,J⟩ (ac4 s.g d b e) (LC d b x y) (λz E=>w z (afa e z E)) (B v.n) λr A=>?_;obtain⟨f,i⟩:=aS.1 A;obtain⟨u,C,H,F,I,G,rfl,j,l⟩:RuS T M V r:=(aV.1 f).elim (hR r) (ae9 s.g r);rw[vb_f d C b (Ms (bp i))]at j l;exact⟨V3 _ _ _ _ _ λt h=>SG s d b e (j t h) 3 (by decide),Yq s q d b e _ _ _ _ _ l⟩
def afb{q:L4.D}(l:∀v∈V++v9,v.f∈l3)(p:q∈cmA (n? T) (ω W) ((V++v9).map nf)):∃v∈V++v9,∃x y,q=q3 v.n x y/\Cm T W v x y:=by
 obtain⟨n,o,p⟩:=dX.1 p;obtain⟨v,r,rfl⟩:=au.1 o;obtain⟨z,b,rfl⟩:=au.1 p;refine⟨v,r,?_⟩;have l:=l v r;unfold obF at b;show ∃x y,p3 v.n z=q3 v.n x y/\Cm T W v x y;by_cases e:v.f="alone"
 .rw[aj (show (nf v).2="alone" from e)]at b;rw[bj.1 b];exact⟨O,O,J,.inr (.inr (.inl ⟨e,J,J⟩))⟩
 .rw[ak (show ¬(nf v).2="alone" from e)]at b;by_cases i:v.f="way"
  .rw[aj (show (nf v).2="way" from i)]at b;obtain⟨d,hd,rfl⟩:=au.1 b;exact⟨Z d,O,J,.inr (.inr (.inr ⟨i,d,hd,J,J⟩))⟩
  .rw[ak (show ¬(nf v).2="way" from i)]at b;by_cases j:v.f="one"
   .rw[aj (show (nf v).2="one" from j)]at b;obtain⟨d,hd,rfl⟩:=au.1 b;exact⟨Z d,O,J,.inl ⟨j,d,hd,J,J⟩⟩
   .rw[ak (show ¬(nf v).2="one" from j)]at b;obtain⟨n,o,b⟩:=dX.1 b;obtain⟨k,u,rfl⟩:=au.1 b;have t:v.f="two" := by
     simp only[l3,aM,cw,or_false]at l;rcases l with h|h|h|h
     .exact ar h j
     .exact h
     .exact ar h e
     .exact ar h i
    exact⟨Z n,Z k,J,.inr (.inl ⟨t,n,o,k,u,J,J⟩)⟩
end
section
variable{T:List Th}{M:List Mk}{dk:aC}{W:List Wy}{V:List Vb}{R:List L4.D}{c:L4.D}{P:List Ky}{a:Str->Str}{m:Str->Int}
def Ys{x:Str}{l:aC}(h:Ch T a x l):∀y∈(x::l).dropLast,y∈l' T:=by
 induction h with
 |nil _=>intro y b;cases b
 |cons h c d=>
  intro y b;rw[List.dropLast_cons_of_ne_nil (by simp)]at b;rcases aM.1 b with e|b
  .rw[e];exact h
  .exact d y b
def afc{x:Str}{l:aC}(h:Ch T a x l):l.length<=(l' T).length:=by have b:(x::l).Nodup:=dv.2 ⟨QW h,Y9 h⟩;have:=Px (b.sublist (List.dropLast_sublist _)) (Ys h);rw[List.length_dropLast,aN]at this;omega
def afd(p:P.Perm (PT T M)):(l' T).length<=P.length:=by rw[p.length_eq];unfold PT;rw[aE,ag];omega
def Up(T:List Th)(P:List Ky)(a:Str->Str)(i:Nat)(y:Str):Prop:=∃l,Ch T a y l/\l.length+i<=P.length
def up0(p:P.Perm (PT T M))(i:cb T a)(x:Str):Up T P a 0 x:=by obtain⟨l,h⟩:=i.ch x;exact⟨l,h,bC (afc h) (afd p)⟩
def Yt(p:P.Perm (PT T M))(i:cb T a)(hP:P.length<=100)(x:Str):xG [sD P (va a m),.str x]=Z (.U γ):=by
 have lS:(P.map λk=>D.c4 [kD k,va a m k]).length=P.length:=ag _;let f:=λ(i:Nat) (o:aP)=>∃y s,o=[.I (sD P (va a m)),.I (.str x),.I (aD T a y),s]/\Up T P a i y;refine xR J (vc (vK (uT (uP J (LA p x)) (vc (G1 (Pm (uT (vO J (by show Z (D.int _)=_;rw[lS])) ⟨P.length,J,hP,f,⟨x,_,J,up0 p i x⟩,?_,?_⟩)))))))
 .rintro j d _ hd ⟨y,s,rfl,l,h,b⟩;refine⟨_,J,?_⟩;cases h with
  |nil h=>rw[show aD T a y=.J from ak h];exact zh J (wm (uT J J))
  |@cons _ l h e=>rw[show aD T a y=.str (a y) from aj h];exact kc J (vK (uT (uP J (LA p (a y))) ⟨a y,_,J,l,e,by rw[aN]at b;omega⟩))
 .rintro _ ⟨y,s,rfl,l,h,b⟩;rw[ag,bS]at b;cases h with
  |nil h=>rw[show aD T a y=.J from ak h];exact wm (uT J J)
  |cons h e=>rw[aN]at b;omega
def Q3(a:Str):wV [.str a,.str a]=Z (.U γ):=xR J (wm (uT ((vd J).t (uY J J (wX δ a a))) (by simp)))
def Yu(k:Ky):GZ [kD k,kD k]=Z (.U γ):=xR J (wm (uT ((vd (uP J J)).t ((vd (uP J (Q3 _))).t (uP J (Q3 _)))) J))
def SJ(g:d? T M dk W){t:Th}(e:t∈T)(d:t.k.hd=γ){x:Str}(f:x="me" -> t.k=.room):DM [wO T M dk W V R c,.str x,.str t.n]=Z (.U γ):=by refine xR J (vc (vK (uT ((DR J).t (vz J J J J (zY g.r? e))) (kc J (vc (E2 (uT (vU (uY J J (wX δ x "me"))) ⟨λb=>wm (uT (uY J J (Gf t.k .room)) ?_),λy=>xI J (wm (uT (vz J J J J (IP t)) (by rw[d])))⟩)))))));rw[bg (f (bp b))]
def Yv(g:d? T M dk W){q:Str×Int}(h:q∈mP T M):wL [wO T M dk W V R c,.str q.1]=Z (.int q.2):=by
 have e:wL [wO T M dk W V R c,.str q.1]=Z ((wG ((mP T M).map λq=>kS q.1) ((mP T M).map λq=>.int q.2) (kS q.1)).getD .J):=by kernel_rfl
 rw[e,zN (QL g) (by rw[gw];exact bQ h)];rfl
def Oh(p:P.Perm (PT T M)){k:Ky}(b:k∈P):(∃x∈l' T,k=(("at", x):Ky))\/∃q∈mP T M,k=(("mark", q.1):Ky):=by
 obtain⟨s,x⟩:=k;rcases VO p _ b with h|h
 .have h:s="at" := h;subst h;exact .inl ⟨x,(Oc p x).1 b,J⟩
 .have h:s="mark" := h;subst h;have d:=(VN p x).1 b;rw[<-MB]at d;obtain⟨q,e,rfl⟩:=au.1 d;exact .inr ⟨q,e,J⟩
def Yy(g:d? T M dk W)(p:P.Perm (PT T M))(i:cb T a)(r:Mr T M m){k:Ky}(o:k∈P):EY [wO T M dk W V R c,kD k,va a m k]=Z (.U γ):=by
 rcases Oh p o with ⟨x,w,rfl⟩|⟨q,d,rfl⟩
 .obtain⟨t,f,e,l⟩:=VS (i.hd x w);have h:=SJ (V:=V) (R:=R) (c:=c) g f l (x:=x) λz=>by obtain⟨u,b,j⟩:=au.1 i.me;rw[aS]at b;rw[<-Kh g.r? b.1 f (j.t (by rw[e,z]))];exact bp b.2
  rw[e]at h;exact xR J (kc J (wm (uT (uP J h) J)))
 .obtain⟨y,A⟩:=r q d;refine xR J (zh J (wm (uT ((vd (uP J J)).t (DQ J J (vz J J J J (Yv g d)) y A)) J)))
def ac5{a:FA}{f b:aP}{d e:List L4.D}(h:a f=Z ([.c4 d,.b4 e],b))(i:d.length<=e.length):iZT a f=Z (OX d e,b):=by unfold iZT;rw[h];simp only[i,if_true]
theorem Ze(v:Ky->L4.D):∀P:List Ky,OX (P.map λk=>D.c4 [kD k,v k]) (P.map kD)=P.map λk=>D.c4 [.c4 [kD k,v k],kD k]
 |[]=>rfl
 |k::P=>by have:=Ze v P;unfold OX at this ⊢;rw[aI,aI,gL,this];rfl
def Yz(g:d? T M dk W)(p:P.Perm (PT T M))(r:zG [wO T M dk W V R c]=Z (.b4 (P.map kD)))(i:cb T a)(q:Mr T M m):EZ [wO T M dk W V R c,sD P (va a m)]=Z (.U γ):=by
 have o:=g.len;have hP:P.length<=100:=by rw[p.length_eq];have:=(Ki g).2;omega
 refine xR J (vc (vK (uT (vz J J J J r) (kc (xN J (vU (uY J J ?_))) (vc (G1 (uT (ac5 J (by rw[ag,ag];exact aJ _)) ?_)))))))
 .rw[ag,ag,zC];simp
 rw[Ze];let h:=λ(_:Nat) (u:aP)=>∃e f,u=[.I (wO T M dk W V R c),.I (sD P (va a m)),.I (.b4 (P.map kD)),e,f];refine⟨h,⟨_,_,J⟩,?_,?_⟩
 .rintro j d _ hd ⟨e,f,rfl⟩;rw[bx]at hd;obtain⟨k,l,rfl⟩:=f7.1 hd;exact⟨_,J,s_n (xN (wW (b:=γ) (vU (uP J J))) (xN (wW (vU (uP J (Yu k)))) (wW (vU (uP J (Yy g p i q (bL l))))))) (xI J ⟨_,_,J⟩)⟩
 .rintro _ ⟨e,f,rfl⟩;exact wm (uT (vO (we (xi (λt:Th=>D.str t.n) (λy=>D.U γ) T (CS (vz J J J J (N6 T o))) (by omega) λt w=>⟨_,_,J,uP J (Yt p i hP t.n),J⟩)) (Qr T λy=>γ)) (by simp))
end
def yK(k:Ky):List dr:=[Sum.inr k.1,Sum.inr k.2]
def V7{a b:Ky}(h:yK a=yK b):a=b:=by unfold yK at h;injection h with d c;injection c with c _;exact r9 (hU d) (hU c)
theorem Oi(v:Ky->L4.D):∀P:List Ky,l? (P.map λk=>.c4 [kD k,v k])=Z (P.map yK,P.map v)
 |[]=>rfl
 |k::P=>by rw[aI];unfold l?;rw[Oi v P];rfl
def afe{P:List Ky}(h:P.Nodup):(P.map yK).Nodup:=iR.2 (h.imp λn e=>n (V7 e))
theorem Oj(h:Ky->L4.D){k:Ky}:∀{P:List Ky},i? (P.map yK) (P.map h) (yK k)=if k∈P then Z (h k)else O
 |[]=>rfl
 |j::P=>by
  rw[aI,aI];unfold i?;by_cases e:j=k
  .subst e;rw[aj J,aj ba]
  .rw[ak λz=>e (V7 z),Oj h];by_cases m:k∈P
   .rw[aj m,aj (bc _ m)]
   .rw[ak m,ak λz=>(aM.1 z).elim (λz=>e z.symm) m]
def eq_self{d:L4.D}{x:L3.Dq}(a:Jn γ d d=O)(b:ll d=Z x)(c:P2 x x=γ)(e:fy x<=20):en γ d d=Z (.U δ):=by unfold en;rw[a];simp only;unfold Nq;rw[b];simp only;rw[c,BA,bg e];rfl
theorem Q4(a:Str->Str)(m:Str->Int):∀P:List Ky,∃l,yP (P.map λk=>.c4 [kD k,va a m k])=Z l/\wJ l<=2
 |[]=>⟨[],J,by decide⟩
 |k::P=>by
  obtain⟨l,e,h⟩:=Q4 a m P;obtain⟨z,c,d⟩:∃z,ll (va a m k)=Z z/\fy z=0:=by
   unfold va;split
   .exact⟨.str _,J,J⟩
   .exact⟨.int _,J,J⟩
  have b:ll (.c4 [kD k,va a m k])=Z (.c4 [.c4 [.str k.1,.str k.2],z]):=by
   unfold ll;have:yP [kD k,va a m k]=Z [.c4 [.str k.1,.str k.2],z]:=by unfold yP;rw[show ll (kD k)=Z (.c4 [.str k.1,.str k.2]) from J];unfold yP;rw[c];rfl
   rw[this]
  refine⟨_::l,by rw[aI];unfold yP;rw[b,e],?_⟩;rw[wJ,fy,wJ,wJ,wJ,d];have:fy (.c4 [.str k.1,.str k.2])=1:=by rw[fy,wJ,wJ,wJ];rfl
  rw[this];omega
section
variable{T:List Th}{M:List Mk}{dk:aC}{W:List Wy}{P:List Ky}{a:Str->Str}{m:Str->Int}
def mr0(g:d? T M dk W)(h:∀x,(wG (M.map λm=>kS m.n) (M.map λm=>D.int m.st) (kS x)).getD (.int 0)=.int (m x)):Mr T M m:=λq b=>by
 have ndm:(M.map λm=>kS m.n).Nodup:=by have:=zt (bM.1 g.nd).2.1;rw[aW]at this;exact this
 have e:=h q.1;rcases aV.1 b with b|b
 .obtain⟨t,d,rfl⟩:=au.1 b;rw[GE λz=>by
   obtain⟨u,c,e⟩:=au.1 z;exact(bM.1 g.nd).2.2 _ (bQ (aS.1 d).1) _ (bQ c) (Ms e).symm]at e
  injection e with e;rw[<-e];exact⟨Int.le_refl _,(by decide:(0:Int)<=1)⟩
 .obtain⟨u,c,rfl⟩:=au.1 b;rw[zN ndm (by rw[gw];exact au.2 ⟨u,c,J⟩)]at e;injection e with e;rw[<-e];have:=g.mo u c;exact⟨this.2.2.1,this.2.2.2⟩
theorem V8:∀P:List Ky,∃l,yP (P.map kD)=Z l/\wJ l<=1
 |[]=>⟨[],J,by decide⟩
 |k::P=>by obtain⟨l,e,h⟩:=V8 P;refine⟨.c4 [.str k.1,.str k.2]::l,by rw[aI];unfold yP;rw[e];rfl,?_⟩;unfold wJ;exact rY.2 ⟨aJ 1,h⟩
def in_str{x:Str}{L:aC}(h:x∈L):Y? (.str x) (.b4 (L.map D.str))=Z (.U γ):=by
 unfold Y?;dsimp only;rw[show ll (.str x)=Z (.str x) from J,(D7 L).1];dsimp only;rw[aj]
 .congr 2;exact dH.2 ⟨.str x,bQ h,by show (x==x)=γ;simp⟩
 .rw[aU];refine⟨J,aQ.2 λe b=>?_⟩;obtain⟨w,c,rfl⟩:=au.1 b;rfl
def SK(g:d? T M dk W)(e:B7 ((PT T M).map kD)=Z (P.map kD)):Cv [TD T,MD M]=Z (.b4 (P.map kD)):=by
 have hT:=g.len;have hM:=g.m4;have c:∀p:Th->Bool,(T.filter p).length<=13:=λp=>bC (cB _ _) hT;have d:=c λt=>!decide (t.k=.room);have f:=c λt=>t.k.mk;refine xR J (vc (vK (tm (uT (zd eo (λt=>kD ("at", t.n)) (λt=>!decide (t.k=.room)) T J (by omega) λt w=>⟨_,_,J,vU (uY (vO J (AN t)) J (VI t)),λw=>⟨_,J,J⟩,λw=>J⟩) (vc (vK (tm (uT (wK J (we (zd eo (λt=>kD ("mark", t.n)) (λt=>t.k.mk) T J (by omega) λt w=>⟨_,_,J,vU (uY (y:=.b4 ((["box", "lamp"]:aC).map D.str)) J J ((wU δ _ _).t (by rw[<-Po t.k];rfl))),λw=>⟨_,J,J⟩,λw=>J⟩)) (by rw[ag,ag];omega)) (Pk (uT (b:=[.I (TD T),.I (MD M),.I (.b4 (((T.filter λt=>!decide (t.k=.room)).map λt=>kD ("at", t.n))++(T.filter λt=>t.k.mk).map λt=>kD ("mark", t.n)))]) ?_ J))))))))));unfold Dn;rw[we (wK J (we (xi u5 (λm=>kD ("mark", m.n)) M J (by omega) λm w=>⟨_,_,J,J,J⟩)) (by rw[aE,ag,ag,ag];omega))];rw[show (((T.filter λt=>!decide (t.k=.room)).map λt=>kD ("at", t.n))++(T.filter λt=>t.k.mk).map λt=>kD ("mark", t.n))++(M.map λm=>kD ("mark", m.n))=(PT T M).map kD by
  unfold PT l' pw;simp only[bu,aW,cc];rfl]
 simp only[e];rfl
def V9(p:P.Perm (PT T M)){y:Str}(h:y∈l' T){e c:FE}{b:aP}(d:e b=Z (.tH (P.map yK) (P.map (va a m)),b))(f:c b=Z (.c4 [.str "at", .str y],b)):c2 ts e c b=Z (.str (a y),b):=uY d f (by
 show i? (P.map yK) (P.map (va a m)) (yK ("at", y))=_;rw[Oj,aj ((Oc p y).2 h)];rfl)
def aff(g:d? T M dk W){y:Str}(h:y∈l0 T)(n:y∉l' T):y∈i0 T:=by obtain⟨t,b,rfl,_⟩:=VS h;refine au.2 ⟨t,aS.2 ⟨b,bg (lA λz=>n (au.2 ⟨t,aS.2 ⟨b,?_⟩,J⟩))⟩,J⟩;rw[bq z];rfl
def Wa(g:d? T M dk W)(p:P.Perm (PT T M))(i:cb T a)(hP:P.length<=90){x:Str}(u:x∈l' T):Cw [.tH (P.map yK) (P.map (va a m)),.b4 ((i0 T).map D.str),.str x]=Z (.U γ):=by
 let q:=λ(j:Nat) (w:aP)=>∃y s,w=[.I (.tH (P.map yK) (P.map (va a m))),.I (.b4 ((i0 T).map D.str)),.I (.str x),.I (.str y),s]/\Up T P a j y/\(y∈l' T\/y∈i0 T);refine xR J (vc (xI J (vc (G1 (Pm (uT (uY J J (by rw[ag];rfl)) ⟨P.length+1,J,by omega,q,⟨x,_,J,up0 p i x,.inl u⟩,?_,?_⟩))))))
 .rintro j d _ hd ⟨y,s,rfl,⟨l,h,c⟩,o⟩;have e:∀t:Sl,cT (c2 (mn δ) ay ai) [.I (.tH (P.map yK) (P.map (va a m))),.I (.b4 ((i0 T).map D.str)),.I (.str x),.I (.str y),t]=Z (decide (y∈i0 T),[.I (.tH (P.map yK) (P.map (va a m))),.I (.b4 ((i0 T).map D.str)),.I (.str x),.I (.str y),t]):=λt=>vU (uY J J (wU δ _ _));refine⟨_,J,vc (E2 (uT (e _) ⟨λv=>wm (uT J J),λb=>xI J ?_⟩))⟩;have f:=o.resolve_right (of_decide_eq_false b);cases h with
  |nil h=>exact ar f h
  |@cons _ l h r=>exact vK (uT (V9 p f J J) ⟨a y,_,J,⟨l,r,by rw[aN]at c;omega⟩,(Decidable.em (a y∈l' T)).imp_right (aff g (i.hd y f))⟩)
 .rintro _ ⟨y,s,rfl,⟨l,h,c⟩,o⟩;rw[ag,bS]at c;omega
end
def afg{T:List Th}{M:List Mk}{c:aC}{W:List Wy}(g:d? T M c W):(PT T M).Nodup:=by
 unfold PT;have h:(l' T).Nodup:=(iI.map Th.n).nodup g.r?;have mk:(pw T M).Nodup:=by unfold pw;exact((iI.map Th.n).append (p8 _)).nodup g.nd
 refine bM.2 ⟨iR.2 (h.imp λn e=>n (bw bD e)),iR.2 (mk.imp λn e=>n (bw bD e)),λx d y f e=>?_⟩;obtain⟨a,_,rfl⟩:=au.1 d;obtain⟨b,_,rfl⟩:=au.1 f;have:("at" : Str)="mark" := bw cF e;exact ar this (by decide)
def YA{f:FE}{Q:List Ky}{v:Ky->L4.D}{c a:aP}(h:f c=Z (sD Q v,a))(d:Q.Nodup)(i:Q.length<=900):x? f c=Z (.tH (Q.map yK) (Q.map v),a):=by unfold x?;rw[h];show (match l? (Q.map λk=>D.c4 [kD k,v k])with|some (b,e)=>if b.Nodup/\(Q.map λk=>D.c4 [kD k,v k]).length<=1000 then Z (D.tH b e,a)else O|none=>O)=_;rw[Oi];exact aj ⟨afe d,by rw[ag];omega⟩
def YB(P:List Ky)(a:Str->Str)(m:Str->Int):en γ (sD P (va a m)) (sD P (va a m))=Z (.U δ):=by obtain⟨l,e,h⟩:=Q4 a m P;refine eq_self J (by unfold sD ll;rw[e]) J ?_;rw[fy];omega
section
variable{T:List Th}{M:List Mk}{dk:aC}{W:List Wy}{V:List Vb}{R:List L4.D}{c:L4.D}{P:List Ky}{a:Str->Str}{m:Str->Int}
def ac6(g:d? T M dk W){q:Str×Int}(b:q∈mP T M):(wG (M.map λm=>kS m.n) (M.map λm=>D.int m.mo) (kS q.1)).getD (.int 1)=.int q.2:=by
 rcases aV.1 b with b|b
 .obtain⟨t,f,rfl⟩:=au.1 b;rw[GE λz=>by
   obtain⟨u,d,e⟩:=au.1 z;exact(bM.1 g.nd).2.2 _ (bQ (aS.1 f).1) _ (bQ d) (Ms e).symm]
  rfl
 .obtain⟨u,d,rfl⟩:=au.1 b;have ndm:(M.map λm=>kS m.n).Nodup:=by have:=zt (bM.1 g.nd).2.1;rw[aW]at this;exact this
  rw[zN ndm (by rw[gw];exact au.2 ⟨u,d,J⟩)];rfl
def Wb(g:d? T M dk W)(p:P.Perm (PT T M))(eS:B7 ((PT T M).map kD)=Z (P.map kD))(i:cb T a)(Q:Mr T M m):Cy [TD T,MD M,sD P (va a m)]=Z (.U γ):=by
 have hl:=g.len;have hM:=g.m4;have hP:P.length<=90:=by rw[p.length_eq];have:=(Ki g).2;omega
 have ndm:(M.map λm=>kS m.n).Nodup:=by have:=zt (bM.1 g.nd).2.1;rw[aW]at this;exact this
 let o:=M.map λm=>kS m.n;let h:=M.map λm=>D.int m.mo;let t:Sl->Sl->Sl->Sl->Sl->aP:=λd e f x y=>[.I (TD T),.I (MD M),.I (sD P (va a m)),.I (.b4 ((i0 T).map D.str)),.I (.b4 ((l0 T).map D.str)),d,e,f,x,y];let b:Sl:=.I (.tH (P.map yK) (P.map (va a m)));obtain⟨u,z⟩:=Ap (g:=gN 6) (i:=5) (fk:=c1 (uV vg "name") b9) (fv:=c1 (uV yT "most") b9) u5 Mk.n (λm=>D.int m.mo) (λo h s=>t (.dk o h) s .un .un .un)
  (λm o h s=>⟨t (.dk o h) (.I (u5 m)) .un .un .un,J,J,J,J,λH F=>⟨_,J⟩⟩) M [] [] .un (by rw[cg];exact ndm) (by simp;omega) J
 rw[cg,cg]at z;obtain⟨l,X,t2⟩:=V8 P;let E:=λ(_:Nat) (r:aP)=>∃d e x y,r=t d e b x y/\(d=.dk o h\/d=.I (.Y o h));refine xR J (kc (xN J (vU (uY (we (xi (λk=>.c4 [kD k,va a m k]) kD P J (by omega) λk v=>⟨_,_,J,J,J⟩)) (uP J (SK g eS)) (L6 X (by omega))))) (vc (vK (tm (uT (uP J (yq T (by omega) ["room"] (λk=>decide (k=.room)) MF)) (vc (vK (tm (uT (uP J (yq T (by omega) ["room", "box", "you"] Kd.hd Pn)) (vc (xI J (vc (xI ((xX J).t z) (vc (vK (uT (YA J (p.nodup_iff.2 (afg g)) (by omega)) (vc (G1 (uT J ⟨E,⟨_,_,_,_,J,.inl J⟩,?_,?_⟩)))))))))))))))))))
 .rintro j d _ hd ⟨C,u,S,U,rfl,w⟩;rw[bx]at hd;obtain⟨k,G,rfl⟩:=f7.1 hd;refine⟨_,J,?_⟩;rcases Oh p (bL G)with ⟨x,B,rfl⟩|⟨q,A,rfl⟩
  .refine kc ((D8 J).t (xN (vU (uY J J ((wU γ _ _).t (by rw[bg (i.hd x B)];rfl)))) (wW (vU (uP J (Wa g p i hP B)))))) (s_n (D9 J) (xI J ⟨_,_,_,_,J,w⟩))
  .obtain⟨I,N⟩:=Q q A;have e:Hk (vl 5) (c2 e8 cY aR) aR (t C u b (.I (kD ("mark", q.1))) (.I (.int (m q.1))))=Z (.int q.2,t (.I (.Y o h)) u b (.I (kD ("mark", q.1))) (.I (.int (m q.1)))):=by rw[<-ac6 g A];rcases w with rfl|rfl<;>rfl
   exact kc (D9 J) (s_n ((D8 J).t (xN J (wW (vU (DQ J J e I N))))) (xI J ⟨_,_,_,_,J,.inr J⟩))
 .rintro _ ⟨C,u,S,U,rfl,w⟩;exact wm (uT (uY (V9 p (VM g) J J) J (in_str i.me)) J)
end
def Q5(b:List Int)(k:Nat):∃c,zc [.qi (b.map D.int),.int k]=Z (.int c):=by
 let d:aP:=[.I (.qi (b.map D.int)),.I (.int k)];have a:cT (c2 L0 ai (c1 xM ab)) d=Z (decide ((k:Int)<((b.map D.int).length:Nat)),d):=rfl;rw[ag]at a;by_cases h:k<b.length
 .rw[bg (by omega)]at a;refine⟨b[k],u6 J (vE ((vP a).t (vq (uY J J ?_))))⟩;exact E7 (by rw[bx,bh h];rfl)
 .rw[bq (by omega)]at a;exact⟨0,u6 J ((uR ((v8 a))))⟩
def YC{a:List L4.D}(o:0<a.length)(i:Int):∃q∈a,∀{e c:FE} {b:aP},e b=Z (.b4 a,b)->c b=Z (.int i,b)->c2 e8 e (c2 zm c (c1 xM e)) b=Z (q,b):=by
 let j:Int:=i % (a.length:Int);have m:0<=j:=iZ _ (by omega);have p:j<a.length:=iM _ (by omega);obtain⟨n,h⟩:∃n:Nat,j=(n:Nat):=⟨j.toNat,(Int.toNat_of_nonneg m).symm⟩;have f:n<a.length:=by omega
 refine⟨a[n],gn f,λ{e c b} d l=>uY (y:=.int j) d (uY l (vO d J) ?_) ?_⟩
 .show (if decide (0<(a.length:Int))=γ then Z (D.int (i % (a.length:Int)))else O)=_;rw[aj (bg (by omega))]
 .rw[h];exact E7 (bh f)
def ac7{f c:FE}{d a b:aP}{i j:Int}(e:f d=Z (.int i,a))(h:c a=Z (.int j,b))(l:(-1000000<=i/\i<=1000000)/\-1000000<=j/\j<=1000000):iR2 f c d=Z (Jk i (j - i).toNat,b):=by unfold iR2;simp only[e,h];rw[aj l]
def ac8(h:List Int)(hl:h.length<=63):Y4 [.qi (h.map D.int)]=Z (.U γ):=by
 obtain⟨x0,ex⟩:=Q5 h 0;obtain⟨T,M,p,W,t,n,R,es',g,Q,N,lR,ok,xm⟩:=Yi (.inl ⟨x0,J⟩);have H:∀v∈vL t n,v∈v6:=λv B=>Mz B;obtain⟨ks,dss,xw,hg⟩:=VE g Q N (λr A=>(ok r A).1) lR;let c:L4.D:=.Y ks (dss.map .b4);let V:=vL t n;have nd:((V++v9).flatMap Vb.ws).Nodup:=QH Q N;let w:=wO T M p W V R c;let G:List L4.D:=cmA (n? T) (ω W) ((V++v9).map nf);have c0:0<G.length:=by
  refine jH (a:=q3 "wait" O O) (dX.2 ⟨("wait", "alone"),?_,?_⟩)
  .exact au.2 ⟨⟨"wait", [],"alone", O⟩,bB _ (by simp[v9]),J⟩
  .unfold cmV obF;rw[aj J];exact au.2 ⟨(.J,.J),bj.2 J,J⟩
 obtain⟨P,m,pP,eS,hp,hm,xs⟩:=VR g;let S:Sl:=.I (.qi (h.map D.int));let U:Sl:=.un;let l:L4.D->Sl->Sl->Sl->aP:=λst k x y=>[S,.I (.b4 [TD T,MD M,.b4 (p.map D.str),WD W,VD V,.b4 R]),.I (TD T),.I (MD M),.I (.b4 (p.map D.str)),.I (WD W),.I (VD V),.I (.b4 R),.I w,.I (.b4 G),.I st,k,x,y];refine xR J (vc (vK (uT (a:=.b4 [TD T,MD M,.b4 (p.map D.str),WD W,VD V,.b4 R]) (b:=[S,U,U,U,U,U,U,U,U,U,U,U,U,U]) ?_ (vc (xI J (vc (vK (uT (Qt J xw) (vc (vK (tm (uT (uP J (N8 g H (J4 t n))) (vc (vK (uT (uP J xs) ?_)))))))))))))))
 .show xr zX (a1 (cC (.int 12))) (vF nW) [S,U,U,U,U,U,U,U,U,U,U,U,U,U]=_;unfold xr;have ea:a1 (cC (.int 12)) [S,U,U,U,U,U,U,U,U,U,U,U,U,U]=Z ([.int 12],[S,U,U,U,U,U,U,U,U,U,U,U,U,U]):=rfl;have el:vF nW [S,U,U,U,U,U,U,U,U,U,U,U,U,U]=Z ([.int x0],[S,U,U,U,U,U,U,U,U,U,U,U,U,U]):=Ui (uX (uP J ex) J) (lY J);simp only[ea,el,xm];rfl
 let Y:Int:=if ((h.map D.int).length:Int)<31 then ((h.map D.int).length:Int)else 31
 have em:c2 dMax2 cv (c2 dMin2 (cC (.int 31)) (c1 xM ab)) (l (sD P (va (ψ T) m)) U U U)=Z (.int (if Y > 2 then Y else 2),l (sD P (va (ψ T) m)) U U U):=rfl;let A':=λ(_:Nat) (r:aP)=>∃a m k x y,r=l (sD P (va a m)) k x y/\cb T a/\Mr T M m;refine vc (G1 (uT (ac7 J em (by split<;>omega)) ⟨A',⟨_,_,_,_,_,J,inv0 g,mr0 g hm⟩,?_,?_⟩))
 .rintro j d _ hd ⟨a,m,s11,s12,s13,rfl,i,mr⟩;obtain⟨k,rfl⟩:∃k:Nat,d=.int k:=by unfold Jk at hd;rw[bx]at hd;obtain⟨k,_,rfl⟩:=f7.1 hd;exact⟨1+k,J⟩
  obtain⟨z,ez⟩:=Q5 h k;obtain⟨q,hqm,eq⟩:=YC c0 (z+17 * (k:Int));obtain⟨v,B,x,y,rfl,hcm⟩:=afb (VG H) hqm;obtain⟨_,e,o,E,F,X,rfl,h1,h2,C,f⟩:=V6 ⟨g,pP,i⟩ mr nd (λn=>ac3 hg n) (λr A=>(ok r A).2) B hcm;refine⟨_,J,vc (s_as (uT (uP (uX J (uX J (uX (eq J (uY (uP J ez) (uY J J (zr (.inl (by decide)))) J)) J))) e) ⟨_,J,kc (xN (wW (vU (uP J (Wb g pP eS C f)))) (vU (uY (uP J (Yz g pP hp C f)) J J))) (kc (ρ':=l (sD P (va a m)) (.I (.int k)) (.I (.c4 [.str o,.str E])) (.I (sD P (va F X)))) (xN (vU (uY (y:=.b4 ((["told", "refused", "unseen"]:aC).map D.str)) J J ((wU γ _ _).t (by rw[bg h1];rfl)))) ?_) (xI J ⟨F,X,_,_,_,J,C,f⟩))⟩))⟩;rcases h2 with rfl|h2
  .exact D9 J
  .rw[h2];have u:cT (c2 (en γ) (c2 e8 (cV 12) aO) (cS "told")) (l (sD P (va a m)) (.I (.int k)) (.I (.c4 [.str o,.str E])) (.I (sD P (va a m))))=Z (!decide (o="told"),l (sD P (va a m)) (.I (.int k)) (.I (.c4 [.str o,.str E])) (.I (sD P (va a m)))):=vU (uY J J (wX γ _ _));by_cases I:o="told"
   .rw[bg I]at u;exact D9 u
   .rw[bq I]at u;exact(D8 u).t (vU (uY J J (YB P a m)))
 .rintro _ ⟨a,m,k,x,y,rfl,_⟩;exact wm (uT J J)
end K39x
namespace K39x
open PySem L2 L3 L4
open PySem.W (nsIn)
structure Fx(K:av)(C0 C1 C2 C3 C4 C5 C6 C7 C8 C9 C10 C11 C12 C13 C14 C15:Addr):Prop where
 a0:nsIn K aZ "Thing" = Z (Z (.ref C0))
 a1:nsIn K aZ "Mark" = Z (Z (.ref C1))
 a2:nsIn K aZ "Verb" = Z (Z (.ref C2))
 a3:nsIn K aZ "At" = Z (Z (.ref C3))
 a4:nsIn K aZ "Has" = Z (Z (.ref C4))
 a5:nsIn K aZ "Seen" = Z (Z (.ref C5))
 a6:nsIn K aZ "Marked" = Z (Z (.ref C6))
 a7:nsIn K aZ "Kind" = Z (Z (.ref C7))
 a8:nsIn K aZ "Word" = Z (Z (.ref C8))
 a9:nsIn K aZ "Not" = Z (Z (.ref C9))
 a10:nsIn K aZ "Both" = Z (Z (.ref C10))
 a11:nsIn K aZ "Move" = Z (Z (.ref C11))
 a12:nsIn K aZ "Put" = Z (Z (.ref C12))
 a13:nsIn K aZ "Rule" = Z (Z (.ref C13))
 a14:nsIn K aZ "World" = Z (Z (.ref C14))
 a15:nsIn K aZ "Lit" = Z (Z (.ref C15))
 k0:CF K C0 ["kind", "name", "start", "words"]
 k1:CF K C1 ["most", "name", "start"]
 k2:CF K C2 ["form", "joining", "name", "others"]
 k3:CF K C3 ["place", "term"]
 k4:CF K C4 ["term"]
 k5:CF K C5 ["term"]
 k6:CF K C6 ["term", "value"]
 k7:CF K C7 ["kind", "term"]
 k8:CF K C8 ["word"]
 k9:CF K C9 ["inner"]
 tX:CF K C10 ["one", "other"]
 y?:CF K C11 ["place", "term"]
 w?:CF K C12 ["term", "value"]
 u4:CF K C13 ["deeds", "refuses", "tests", "text", "verb"]
 j3:CF K C14 ["copied_rules", "kept_dark", "kept_marks", "kept_things", "kept_verbs", "kept_ways", "mosts_by_name", "rules_by_verb", "shared_rules", "shared_verbs", "things_by_name", "verbs_by_word", "your_name", "kept_rules"]
 D?:CF K C15 []
 i_At:xc K [C0,C1,C2,C3,C4,C5,C6,C7,C8,C9,C10,C11,C12,C13,C14,C15] C3 3=γ
 i_Both:xc K [C0,C1,C2,C3,C4,C5,C6,C7,C8,C9,C10,C11,C12,C13,C14,C15] C10 10=γ
 i_Has:xc K [C0,C1,C2,C3,C4,C5,C6,C7,C8,C9,C10,C11,C12,C13,C14,C15] C4 4=γ
 i_Kind:xc K [C0,C1,C2,C3,C4,C5,C6,C7,C8,C9,C10,C11,C12,C13,C14,C15] C7 7=γ
 i_Lit:xc K [C0,C1,C2,C3,C4,C5,C6,C7,C8,C9,C10,C11,C12,C13,C14,C15] C15 15=γ
 i_Mark:xc K [C0,C1,C2,C3,C4,C5,C6,C7,C8,C9,C10,C11,C12,C13,C14,C15] C1 1=γ
 i_Marked:xc K [C0,C1,C2,C3,C4,C5,C6,C7,C8,C9,C10,C11,C12,C13,C14,C15] C6 6=γ
 i_Move:xc K [C0,C1,C2,C3,C4,C5,C6,C7,C8,C9,C10,C11,C12,C13,C14,C15] C11 11=γ
 i_Not:xc K [C0,C1,C2,C3,C4,C5,C6,C7,C8,C9,C10,C11,C12,C13,C14,C15] C9 9=γ
 i_Put:xc K [C0,C1,C2,C3,C4,C5,C6,C7,C8,C9,C10,C11,C12,C13,C14,C15] C12 12=γ
 i_Rule:xc K [C0,C1,C2,C3,C4,C5,C6,C7,C8,C9,C10,C11,C12,C13,C14,C15] C13 13=γ
 i_Seen:xc K [C0,C1,C2,C3,C4,C5,C6,C7,C8,C9,C10,C11,C12,C13,C14,C15] C5 5=γ
 i_Thing:xc K [C0,C1,C2,C3,C4,C5,C6,C7,C8,C9,C10,C11,C12,C13,C14,C15] C0 0=γ
 i_Verb:xc K [C0,C1,C2,C3,C4,C5,C6,C7,C8,C9,C10,C11,C12,C13,C14,C15] C2 2=γ
 i_Word:xc K [C0,C1,C2,C3,C4,C5,C6,C7,C8,C9,C10,C11,C12,C13,C14,C15] C8 8=γ
 n_Lit:cW K (.ref C15) "__init__" = Z (Z (.builtin "object.__init__"))
 nd:decide ([C0,C1,C2,C3,C4,C5,C6,C7,C8,C9,C10,C11,C12,C13,C14,C15]:List Addr).Nodup=γ
 kn:kN K=γ
 e:((["all", "any", "bool", "dict", "int", "isinstance", "len", "list", "max", "min", "range", "set", "sorted", "str", "tuple", "zip"]:aC).all λx=>match nsIn K aZ x with|some O=>γ|_=>δ)=γ
 g0:GX K "CANNOT_BE" "That cannot be."
 g1:GS K "FORMS" ["alone", "one", "two", "way"]
 g2:GS K "KINDS" ["room", "plain", "fixed", "box", "lamp", "you"]
 g3:GS K "KINDS_APART" ["room", "you"]
 g4:GS K "KINDS_THAT_HOLD" ["room", "box", "you"]
 g5:GS K "KINDS_WITH_MARK" ["box", "lamp"]
 g6:GC K "MOST_BESIDE" 7
 g7:GC K "MOST_BY_COMMAND" 3
 g8:GC K "MOST_DEEDS" 4
 g9:GC K "MOST_DEEP" 4
 g10:GC K "MOST_IN_NAME" 8
 g11:GC K "MOST_IN_WORD" 12
 g12:GC K "MOST_MARKS" 4
 g13:GC K "MOST_OF_MARK" 3
 g14:GC K "MOST_ROOMS" 5
 g15:GC K "MOST_RULES" 20
 g16:GC K "MOST_SIGNS" 60
 g17:GC K "MOST_TESTS" 5
 g18:GC K "MOST_VERBS" 6
 g19:GC K "MOST_WAYS" 10
 g20:GC K "MOST_WORDS" 4
 g21:GX K "NOTHING_COMES" "Nothing comes of it."
 g22:GS K "NO_NAMES" ["it", "other", "here", "the", "a", "undo", "restart"]
 g23:GS K "NO_WORDS" ["the", "a"]
 g24:GS K "NO_WORDS_OF_ROWS" ["the", "a", "undo", "restart"]
 q25:GD K "is_small_letters" (top 6)
 q26:GD K "is_name" (top 7)
 q27:GD K "is_word" (top 8)
 q28:GD K "is_one_of" (top 10)
 q29:GD K "is_whole" (top 11)
 q30:GD K "is_list_up_to" (top 12)
 q31:GD K "own_list" (top 92)
 q32:GJ K C0 "Thing.__init__" (cm (top 82) 0) [V.J]
 q33:GM K C1 "__init__" "Mark.__init__" (cm (top 83) 0)
 q34:GJ K C2 "Verb.__init__" (cm (top 84) 0) [V.J,(V.str "one"),V.J]
 q35:GM K C3 "__init__" "At.__init__" (cm (top 39) 0)
 q36:GM K C4 "__init__" "Has.__init__" (cm (top 40) 0)
 q37:GM K C5 "__init__" "Seen.__init__" (cm (top 41) 0)
 q38:GM K C6 "__init__" "Marked.__init__" (cm (top 42) 0)
 q39:GM K C7 "__init__" "Kind.__init__" (cm (top 43) 0)
 q40:GM K C8 "__init__" "Word.__init__" (cm (top 44) 0)
 q41:GM K C9 "__init__" "Not.__init__" (cm (top 46) 0)
 q42:GM K C10 "__init__" "Both.__init__" (cm (top 47) 0)
 q43:GM K C11 "__init__" "Move.__init__" (cm (top 72) 0)
 q44:GM K C12 "__init__" "Put.__init__" (cm (top 73) 0)
 q45:GJ K C13 "Rule.__init__" (cm (top 91) 0) [(V.U δ)]
 q46:GM K C0 "can_hold" "Thing.can_hold" (cm (top 82) 1)
 q47:GM K C0 "has_mark" "Thing.has_mark" (cm (top 82) 2)
 q48:GM K C0 "is_plainly" "Thing.is_plainly" (cm (top 82) 3)
 q49:GD K "refuse_unless" (top 121)
 q50:GD K "count_of" (top 124)
 q51:GD K "plain_ones" (top 125)
 q52:GD K "is_mark" (top 127)
 q53:GD K "check_things" (top 123)
 q54:GD K "check_marks" (top 126)
 q55:GD K "are_unlike" (top 129)
 q56:GD K "check_names" (top 128)
 q57:GD K "mark_names" (top 130)
 q58:GD K "is_start" (top 132)
 q59:GDa K "comes_to_room_checks" "comes_to_room" (top 133)
 q60:GD K "check_starts" (top 131)
 q61:GD K "are_words" (top 136)
 q62:GD K "has_all" (top 138)
 q63:GD K "is_told_apart" (top 137)
 q64:GD K "check_words_of_things" (top 135)
 q65:GD K "check_dark" (top 139)
 q66:GD K "is_way" (top 141)
 q67:GD K "check_ways" (top 140)
 q68:GD K "is_verb" (top 143)
 q69:GD K "check_verbs" (top 142)
 q70:GD K "are_apart" (top 145)
 q71:GD K "check_vocabulary" (top 144)
 q72:GD K "check_parts" (top 122)
 q73:GD K "does" (top 149)
 q74:GD K "refuses" (top 150)
 q75:GD K "hand_rules" (top 151)
 q76:GD K "put_rules" (top 152)
 q77:GD K "lid_rules" (top 153)
 q78:GD K "flame_rules" (top 154)
 q79:GD K "way_tests" (top 156)
 q80:GD K "go_rules" (top 155)
 q81:GD K "wait_rules" (top 157)
 q82:GD K "common_rules" (top 148)
 q83:GD K "common_verbs" (top 147)
 q84:GD K "by_name" (top 161)
 q85:GD K "mosts_by_name" (top 162)
 q86:GD K "verbs_by_word" (top 163)
 q87:GD K "by_verb" (top 164)
 q88:GM K C14 "of_kind" "World.of_kind" (cm (top 160) 3)
 q89:GM K C14 "all_verbs" "World.all_verbs" (cm (top 160) 13)
 q90:GD K "is_same_text" (top 9)
 q91:GD K "copy_of" (top 93)
 q92:GM K C14 "thing_of" "World.thing_of" (cm (top 160) 2)
 q93:GM K C14 "most_of" "World.most_of" (cm (top 160) 6)
 q94:GM K C14 "verb_of" "World.verb_of" (cm (top 160) 14)
 q95:GM K C14 "you" "World.you" (cm (top 160) 4)
 q96:GD K "is_by_command" (top 104)
 q97:GD K "is_here" (top 105)
 q98:GD K "named" (top 106)
 q99:GD K "is_of_kind" (top 107)
 q100:GD K "is_term" (top 108)
 q101:GD K "is_place" (top 109)
 q102:GD K "is_moved" (top 110)
 q103:GD K "is_mark_value" (top 111)
 q104:GD K "is_move" (top 103)
 q105:GD K "is_said" (top 96)
 q106:GD K "is_verb_name" (top 95)
 q107:GD K "does_or_refuses" (top 97)
 q108:GD K "is_plain_test" (top 101)
 q109:GD K "is_test" (top 100)
 q110:GD K "is_deed" (top 102)
 q111:GD K "are_tests" (top 98)
 q112:GD K "are_deeds" (top 99)
 q113:GD K "is_rule" (top 94)
 q114:GM K C14 "__init__" "World.__init__" (cm (top 160) 0)
 q115:GM K C14 "is_dark" "World.is_dark" (cm (top 160) 5)
 q116:GM K C14 "own_marks" "World.own_marks" (cm (top 160) 7)
 q117:GM K C14 "names" "World.names" (cm (top 160) 1)
 q118:GM K C14 "way_words" "World.way_words" (cm (top 160) 12)
 q119:GM K C14 "rules_to_try" "World.rules_to_try" (cm (top 160) 16)
 q120:GM K C14 "parts" "World.parts" (cm (top 160) 18)
 q121:GD K "own_starts" (top 15)
 q122:GD K "first_value" (top 16)
 q123:GD K "first_stand" (top 14)
 q124:GD K "value_of" (top 17)
 q125:GD K "at_of" (top 18)
 q126:GD K "mark_of" (top 19)
 q127:GD K "with_part" (top 20)
 q128:GD K "holders_of" (top 29)
 q129:GD K "room_of" (top 30)
 q130:GD K "has" (top 33)
 q131:GD K "is_shut" (top 32)
 q132:GD K "in_open" (top 31)
 q133:GD K "burns_in" (top 35)
 q134:GD K "is_lit" (top 34)
 q135:GD K "is_seen" (top 36)
 q136:GD K "is_of_way" (top 48)
 q137:GD K "things_of" (top 49)
 q138:GD K "meant" (top 50)
 q139:GD K "at_parts" (top 51)
 q140:GD K "mark_parts" (top 52)
 q141:GD K "can_go" (top 74)
 q142:GD K "can_show" (top 75)
 q143:GM K C3 "holds" "At.holds" (cm (top 39) 1)
 q144:GM K C4 "holds" "Has.holds" (cm (top 40) 1)
 q145:GM K C5 "holds" "Seen.holds" (cm (top 41) 1)
 q146:GM K C6 "holds" "Marked.holds" (cm (top 42) 1)
 q147:GM K C7 "holds" "Kind.holds" (cm (top 43) 1)
 q148:GM K C8 "holds" "Word.holds" (cm (top 44) 1)
 q149:GM K C15 "holds" "Lit.holds" (cm (top 45) 0)
 q150:GM K C9 "holds" "Not.holds" (cm (top 46) 1)
 q151:GM K C10 "holds" "Both.holds" (cm (top 47) 1)
 q152:GM K C11 "done" "Move.done" (cm (top 72) 1)
 q153:GM K C12 "done" "Put.done" (cm (top 73) 1)
 q154:GD K "is_object" (top 65)
 q155:GD K "fits_form" (top 64)
 q156:GD K "is_command" (top 63)
 q157:GD K "check_command" (top 62)
 q158:GD K "fits" (top 68)
 q159:GD K "outcome" (top 69)
 q160:GD K "answered" (top 67)
 q161:GD K "step" (top 66)
 q162:GD K "objects_of" (top 61)
 q163:GD K "commands" (top 60)
 q164:GDa K "comes_to_room_stands" "comes_to_room" (top 26)
 q165:GD K "is_two" (top 22)
 q166:GD K "is_part" (top 23)
 q167:GD K "is_holder" (top 25)
 q168:GD K "is_value" (top 24)
 q169:GD K "is_stand" (top 21)
 q170:GD K "_law_cell_at" (top 166)
 q171:GD K "_law_digit" (top 167)
 q172:GD K "_law_named" (top 169)
 q173:GD K "_law_things" (top 168)
 q174:GD K "_law_marks" (top 170)
 q175:GD K "_law_ways" (top 171)
 q176:GD K "_law_verbs" (top 172)
 q177:GD K "_law_term" (top 173)
 q178:GD K "_law_mark_term" (top 175)
 q179:GD K "_law_marked" (top 176)
 q180:GD K "_law_test" (top 174)
 q181:GD K "_law_deed" (top 177)
 q182:GD K "_law_rules" (top 178)
 q183:GD K "_law_made" (top 179)
 q184:GD K "_law_parts" (top 180)
 q185:GD K "_law_leads" (top 181)
 q186:GD K "_law_right" (top 182)
 q187:GD K "law" (top 183)
class Yx(B:Bz):Prop where
 y:Yw B.P B.w B.mg B.b1 B.G
 z:B.G.hs=tupleKeyHash (vv B.P B.w)
 f:Fx B.G.K (B.G.ca 0) (B.G.ca 1) (B.G.ca 2) (B.G.ca 3) (B.G.ca 4) (B.G.ca 5) (B.G.ca 6) (B.G.ca 7) (B.G.ca 8) (B.G.ca 9) (B.G.ca 10) (B.G.ca 11) (B.G.ca 12) (B.G.ca 13) (B.G.ca 14) (B.G.ca 15)
section
variable{B:Bz}[Y:Yx B]
instance:Yb B:=⟨Y.y⟩
instance:Hz B:=⟨Y.z,Y.f.kn⟩
instance:Nb B "all" := ⟨Y.y.n Y.f.e 0 J⟩
instance:Nb B "any" := ⟨Y.y.n Y.f.e 1 J⟩
instance:Nb B "bool" := ⟨Y.y.n Y.f.e 2 J⟩
instance:Nb B "dict" := ⟨Y.y.n Y.f.e 3 J⟩
instance:Nb B "int" := ⟨Y.y.n Y.f.e 4 J⟩
instance:Nb B "isinstance" := ⟨Y.y.n Y.f.e 5 J⟩
instance:Nb B "len" := ⟨Y.y.n Y.f.e 6 J⟩
instance:Nb B "list" := ⟨Y.y.n Y.f.e 7 J⟩
instance:Nb B "max" := ⟨Y.y.n Y.f.e 8 J⟩
instance:Nb B "min" := ⟨Y.y.n Y.f.e 9 J⟩
instance:Nb B "range" := ⟨Y.y.n Y.f.e 10 J⟩
instance:Nb B "set" := ⟨Y.y.n Y.f.e 11 J⟩
instance:Nb B "sorted" := ⟨Y.y.n Y.f.e 12 J⟩
instance:Nb B "str" := ⟨Y.y.n Y.f.e 13 J⟩
instance:Nb B "tuple" := ⟨Y.y.n Y.f.e 14 J⟩
instance:Nb B "zip" := ⟨Y.y.n Y.f.e 15 J⟩
instance:Co B "CANNOT_BE" Ht:=⟨Y.y.cx Y.f.g0⟩
instance:Co B "FORMS" QB:=⟨Y.y.cs Y.f.g1⟩
instance:Co B "KINDS" D1:=⟨Y.y.cs Y.f.g2⟩
instance:Co B "KINDS_APART" Ej:=⟨Y.y.cs Y.f.g3⟩
instance:Co B "KINDS_THAT_HOLD" A0:=⟨Y.y.cs Y.f.g4⟩
instance:Co B "KINDS_WITH_MARK" A1:=⟨Y.y.cs Y.f.g5⟩
instance:Co B "MOST_BESIDE" Ek:=⟨Y.y.ci Y.f.g6⟩
instance:Co B "MOST_BY_COMMAND" A2:=⟨Y.y.ci Y.f.g7⟩
instance:Co B "MOST_DEEDS" FB:=⟨Y.y.ci Y.f.g8⟩
instance:Co B "MOST_DEEP" Hu:=⟨Y.y.ci Y.f.g9⟩
instance:Co B "MOST_IN_NAME" Dr:=⟨Y.y.ci Y.f.g10⟩
instance:Co B "MOST_IN_WORD" Dt:=⟨Y.y.ci Y.f.g11⟩
instance:Co B "MOST_MARKS" B9:=⟨Y.y.ci Y.f.g12⟩
instance:Co B "MOST_OF_MARK" Du:=⟨Y.y.ci Y.f.g13⟩
instance:Co B "MOST_ROOMS" FD:=⟨Y.y.ci Y.f.g14⟩
instance:Co B "MOST_RULES" FJ:=⟨Y.y.ci Y.f.g15⟩
instance:Co B "MOST_SIGNS" FC:=⟨Y.y.ci Y.f.g16⟩
instance:Co B "MOST_TESTS" Fy:=⟨Y.y.ci Y.f.g17⟩
instance:Co B "MOST_VERBS" FH:=⟨Y.y.ci Y.f.g18⟩
instance:Co B "MOST_WAYS" Hv:=⟨Y.y.ci Y.f.g19⟩
instance:Co B "MOST_WORDS" FI:=⟨Y.y.ci Y.f.g20⟩
instance:Co B "NOTHING_COMES" CD:=⟨Y.y.cx Y.f.g21⟩
instance:Co B "NO_NAMES" JE:=⟨Y.y.cs Y.f.g22⟩
instance:Co B "NO_WORDS" JF:=⟨Y.y.cs Y.f.g23⟩
instance:Co B "NO_WORDS_OF_ROWS" Ay:=⟨Y.y.cs Y.f.g24⟩
instance:Ff B BE "copied_rules" := ⟨ya (Y.f.j3.at 0 J)⟩
instance:Ff B BF "deeds" := ⟨ya (Y.f.u4.at 0 J)⟩
instance:Ff B zO "form" := ⟨ya (Y.f.k2.at 0 J)⟩
instance:Ff B GK "inner" := ⟨ya (Y.f.k9.at 0 J)⟩
instance:Ff B x4 "joining" := ⟨ya (Y.f.k2.at 1 J)⟩
instance:Ff B Ei "kept_dark" := ⟨ya (Y.f.j3.at 1 J)⟩
instance:Ff B Aw "kept_marks" := ⟨ya (Y.f.j3.at 2 J)⟩
instance:Ff B w5 "kept_things" := ⟨ya (Y.f.j3.at 3 J)⟩
instance:Ff B Dp "kept_verbs" := ⟨ya (Y.f.j3.at 4 J)⟩
instance:Ff B Bj "kept_ways" := ⟨ya (Y.f.j3.at 5 J)⟩
instance:Ff B vG "kind" := ⟨τ (ya (Y.f.k0.at 0 J)) (Y.f.k7.at 0 J)⟩
instance:Ff B yT "most" := ⟨ya (Y.f.k1.at 0 J)⟩
instance:Ff B AY "mosts_by_name" := ⟨ya (Y.f.j3.at 6 J)⟩
instance:Ff B vg "name" := ⟨τ (τ (ya (Y.f.k0.at 1 J)) (Y.f.k1.at 1 J)) (Y.f.k2.at 2 J)⟩
instance:Ff B Mm "one" := ⟨ya (Y.f.tX.at 0 J)⟩
instance:Ff B GL "other" := ⟨ya (Y.f.tX.at 1 J)⟩
instance:Ff B x6 "others" := ⟨ya (Y.f.k2.at 3 J)⟩
instance:Ff B DX "place" := ⟨τ (ya (Y.f.k3.at 0 J)) (Y.f.y?.at 0 J)⟩
instance:Ff B zP "refuses" := ⟨ya (Y.f.u4.at 1 J)⟩
instance:Ff B yU "rules_by_verb" := ⟨ya (Y.f.j3.at 7 J)⟩
instance:Ff B BG "shared_rules" := ⟨ya (Y.f.j3.at 8 J)⟩
instance:Ff B BH "shared_verbs" := ⟨ya (Y.f.j3.at 9 J)⟩
instance:Ff B wF "start" := ⟨τ (ya (Y.f.k0.at 2 J)) (Y.f.k1.at 2 J)⟩
instance:Ff B BI "term" := ⟨τ (τ (τ (τ (τ (τ (ya (Y.f.k3.at 1 J)) (Y.f.k4.at 0 J)) (Y.f.k5.at 0 J)) (Y.f.k6.at 0 J)) (Y.f.k7.at 1 J)) (Y.f.y?.at 1 J)) (Y.f.w?.at 0 J)⟩
instance:Ff B DY "tests" := ⟨ya (Y.f.u4.at 2 J)⟩
instance:Ff B Fw "text" := ⟨ya (Y.f.u4.at 3 J)⟩
instance:Ff B Ax "things_by_name" := ⟨ya (Y.f.j3.at 10 J)⟩
instance:Ff B DZ "value" := ⟨τ (ya (Y.f.k6.at 1 J)) (Y.f.w?.at 1 J)⟩
instance:Ff B yV "verb" := ⟨ya (Y.f.u4.at 4 J)⟩
instance:Ff B AZ "verbs_by_word" := ⟨ya (Y.f.j3.at 11 J)⟩
instance:Ff B JD "word" := ⟨ya (Y.f.k8.at 0 J)⟩
instance:Ff B xK "words" := ⟨ya (Y.f.k0.at 3 J)⟩
instance:Ff B Bk "your_name" := ⟨ya (Y.f.j3.at 12 J)⟩
instance:Af B 0 ["kind", "name", "start", "words"]:=⟨Y.f.k0⟩
instance:Af B 1 ["most", "name", "start"]:=⟨Y.f.k1⟩
instance:Af B 2 ["form", "joining", "name", "others"]:=⟨Y.f.k2⟩
instance:Af B 3 ["place", "term"]:=⟨Y.f.k3⟩
instance:Af B 4 ["term"]:=⟨Y.f.k4⟩
instance:Af B 5 ["term"]:=⟨Y.f.k5⟩
instance:Af B 6 ["term", "value"]:=⟨Y.f.k6⟩
instance:Af B 7 ["kind", "term"]:=⟨Y.f.k7⟩
instance:Af B 8 ["word"]:=⟨Y.f.k8⟩
instance:Af B 9 ["inner"]:=⟨Y.f.k9⟩
instance:Af B 10 ["one", "other"]:=⟨Y.f.tX⟩
instance:Af B 11 ["place", "term"]:=⟨Y.f.y?⟩
instance:Af B 12 ["term", "value"]:=⟨Y.f.w?⟩
instance:Af B 13 ["deeds", "refuses", "tests", "text", "verb"]:=⟨Y.f.u4⟩
instance:Af B 14 ["copied_rules", "kept_dark", "kept_marks", "kept_things", "kept_verbs", "kept_ways", "mosts_by_name", "rules_by_verb", "shared_rules", "shared_verbs", "things_by_name", "verbs_by_word", "your_name", "kept_rules"]:=⟨Y.f.j3⟩
instance:Ic B "At" t_At:=⟨3,wD Y.f.i_At J (Do 16 _) (B8.at ⟨Y.f.k0.ci,Y.f.k1.ci,Y.f.k2.ci,Y.f.k3.ci,Y.f.k4.ci,Y.f.k5.ci,Y.f.k6.ci,Y.f.k7.ci,Y.f.k8.ci,Y.f.k9.ci,Y.f.tX.ci,Y.f.y?.ci,Y.f.w?.ci,Y.f.u4.ci,Y.f.j3.ci,Y.f.D?.ci,trivial⟩),Y.y.g Y.f.a3⟩
instance:Ic B "Both" Pd:=⟨10,wD Y.f.i_Both J (Do 16 _) (B8.at ⟨Y.f.k0.ci,Y.f.k1.ci,Y.f.k2.ci,Y.f.k3.ci,Y.f.k4.ci,Y.f.k5.ci,Y.f.k6.ci,Y.f.k7.ci,Y.f.k8.ci,Y.f.k9.ci,Y.f.tX.ci,Y.f.y?.ci,Y.f.w?.ci,Y.f.u4.ci,Y.f.j3.ci,Y.f.D?.ci,trivial⟩),Y.y.g Y.f.a10⟩
instance:Ic B "Has" Y0:=⟨4,wD Y.f.i_Has J (Do 16 _) (B8.at ⟨Y.f.k0.ci,Y.f.k1.ci,Y.f.k2.ci,Y.f.k3.ci,Y.f.k4.ci,Y.f.k5.ci,Y.f.k6.ci,Y.f.k7.ci,Y.f.k8.ci,Y.f.k9.ci,Y.f.tX.ci,Y.f.y?.ci,Y.f.w?.ci,Y.f.u4.ci,Y.f.j3.ci,Y.f.D?.ci,trivial⟩),Y.y.g Y.f.a4⟩
instance:Ic B "Kind" U3:=⟨7,wD Y.f.i_Kind J (Do 16 _) (B8.at ⟨Y.f.k0.ci,Y.f.k1.ci,Y.f.k2.ci,Y.f.k3.ci,Y.f.k4.ci,Y.f.k5.ci,Y.f.k6.ci,Y.f.k7.ci,Y.f.k8.ci,Y.f.k9.ci,Y.f.tX.ci,Y.f.y?.ci,Y.f.w?.ci,Y.f.u4.ci,Y.f.j3.ci,Y.f.D?.ci,trivial⟩),Y.y.g Y.f.a7⟩
instance:Ic B "Lit" Y1:=⟨15,wD Y.f.i_Lit J (Do 16 _) (B8.at ⟨Y.f.k0.ci,Y.f.k1.ci,Y.f.k2.ci,Y.f.k3.ci,Y.f.k4.ci,Y.f.k5.ci,Y.f.k6.ci,Y.f.k7.ci,Y.f.k8.ci,Y.f.k9.ci,Y.f.tX.ci,Y.f.y?.ci,Y.f.w?.ci,Y.f.u4.ci,Y.f.j3.ci,Y.f.D?.ci,trivial⟩),Y.y.g Y.f.a15⟩
instance:Ic B "Mark" U4:=⟨1,wD Y.f.i_Mark J (Do 16 _) (B8.at ⟨Y.f.k0.ci,Y.f.k1.ci,Y.f.k2.ci,Y.f.k3.ci,Y.f.k4.ci,Y.f.k5.ci,Y.f.k6.ci,Y.f.k7.ci,Y.f.k8.ci,Y.f.k9.ci,Y.f.tX.ci,Y.f.y?.ci,Y.f.w?.ci,Y.f.u4.ci,Y.f.j3.ci,Y.f.D?.ci,trivial⟩),Y.y.g Y.f.a1⟩
instance:Ic B "Marked" NQ:=⟨6,wD Y.f.i_Marked J (Do 16 _) (B8.at ⟨Y.f.k0.ci,Y.f.k1.ci,Y.f.k2.ci,Y.f.k3.ci,Y.f.k4.ci,Y.f.k5.ci,Y.f.k6.ci,Y.f.k7.ci,Y.f.k8.ci,Y.f.k9.ci,Y.f.tX.ci,Y.f.y?.ci,Y.f.w?.ci,Y.f.u4.ci,Y.f.j3.ci,Y.f.D?.ci,trivial⟩),Y.y.g Y.f.a6⟩
instance:Ic B "Move" U5:=⟨11,wD Y.f.i_Move J (Do 16 _) (B8.at ⟨Y.f.k0.ci,Y.f.k1.ci,Y.f.k2.ci,Y.f.k3.ci,Y.f.k4.ci,Y.f.k5.ci,Y.f.k6.ci,Y.f.k7.ci,Y.f.k8.ci,Y.f.k9.ci,Y.f.tX.ci,Y.f.y?.ci,Y.f.w?.ci,Y.f.u4.ci,Y.f.j3.ci,Y.f.D?.ci,trivial⟩),Y.y.g Y.f.a11⟩
instance:Ic B "Not" U6:=⟨9,wD Y.f.i_Not J (Do 16 _) (B8.at ⟨Y.f.k0.ci,Y.f.k1.ci,Y.f.k2.ci,Y.f.k3.ci,Y.f.k4.ci,Y.f.k5.ci,Y.f.k6.ci,Y.f.k7.ci,Y.f.k8.ci,Y.f.k9.ci,Y.f.tX.ci,Y.f.y?.ci,Y.f.w?.ci,Y.f.u4.ci,Y.f.j3.ci,Y.f.D?.ci,trivial⟩),Y.y.g Y.f.a9⟩
instance:Ic B "Put" Y2:=⟨12,wD Y.f.i_Put J (Do 16 _) (B8.at ⟨Y.f.k0.ci,Y.f.k1.ci,Y.f.k2.ci,Y.f.k3.ci,Y.f.k4.ci,Y.f.k5.ci,Y.f.k6.ci,Y.f.k7.ci,Y.f.k8.ci,Y.f.k9.ci,Y.f.tX.ci,Y.f.y?.ci,Y.f.w?.ci,Y.f.u4.ci,Y.f.j3.ci,Y.f.D?.ci,trivial⟩),Y.y.g Y.f.a12⟩
instance:Ic B "Rule" U7:=⟨13,wD Y.f.i_Rule J (Do 16 _) (B8.at ⟨Y.f.k0.ci,Y.f.k1.ci,Y.f.k2.ci,Y.f.k3.ci,Y.f.k4.ci,Y.f.k5.ci,Y.f.k6.ci,Y.f.k7.ci,Y.f.k8.ci,Y.f.k9.ci,Y.f.tX.ci,Y.f.y?.ci,Y.f.w?.ci,Y.f.u4.ci,Y.f.j3.ci,Y.f.D?.ci,trivial⟩),Y.y.g Y.f.a13⟩
instance:Ic B "Seen" U8:=⟨5,wD Y.f.i_Seen J (Do 16 _) (B8.at ⟨Y.f.k0.ci,Y.f.k1.ci,Y.f.k2.ci,Y.f.k3.ci,Y.f.k4.ci,Y.f.k5.ci,Y.f.k6.ci,Y.f.k7.ci,Y.f.k8.ci,Y.f.k9.ci,Y.f.tX.ci,Y.f.y?.ci,Y.f.w?.ci,Y.f.u4.ci,Y.f.j3.ci,Y.f.D?.ci,trivial⟩),Y.y.g Y.f.a5⟩
instance:Ic B "Thing" QA:=⟨0,wD Y.f.i_Thing J (Do 16 _) (B8.at ⟨Y.f.k0.ci,Y.f.k1.ci,Y.f.k2.ci,Y.f.k3.ci,Y.f.k4.ci,Y.f.k5.ci,Y.f.k6.ci,Y.f.k7.ci,Y.f.k8.ci,Y.f.k9.ci,Y.f.tX.ci,Y.f.y?.ci,Y.f.w?.ci,Y.f.u4.ci,Y.f.j3.ci,Y.f.D?.ci,trivial⟩),Y.y.g Y.f.a0⟩
instance:Ic B "Verb" U9:=⟨2,wD Y.f.i_Verb J (Do 16 _) (B8.at ⟨Y.f.k0.ci,Y.f.k1.ci,Y.f.k2.ci,Y.f.k3.ci,Y.f.k4.ci,Y.f.k5.ci,Y.f.k6.ci,Y.f.k7.ci,Y.f.k8.ci,Y.f.k9.ci,Y.f.tX.ci,Y.f.y?.ci,Y.f.w?.ci,Y.f.u4.ci,Y.f.j3.ci,Y.f.D?.ci,trivial⟩),Y.y.g Y.f.a2⟩
instance:Ic B "Word" Va:=⟨8,wD Y.f.i_Word J (Do 16 _) (B8.at ⟨Y.f.k0.ci,Y.f.k1.ci,Y.f.k2.ci,Y.f.k3.ci,Y.f.k4.ci,Y.f.k5.ci,Y.f.k6.ci,Y.f.k7.ci,Y.f.k8.ci,Y.f.k9.ci,Y.f.tX.ci,Y.f.y?.ci,Y.f.w?.ci,Y.f.u4.ci,Y.f.j3.ci,Y.f.D?.ci,trivial⟩),Y.y.g Y.f.a8⟩
instance:K0f B "Lit" 15:=⟨⟨Y.f.D?.mks,Y.f.n_Lit,Y.f.D?.kp⟩,Y.y.g Y.f.a15⟩
instance:Ij B 16:=⟨injR Y.f.nd⟩
theorem eqL{A:Type}{l:List A}{n:Nat}(h:l.length=n):l.length=n:=h
theorem eqE{e:PySem.Expr}{v:PySem.Env}{r:PySem.Sem PySem.Value}(h:PySem.eval e v=r):PySem.eval e v=r:=h
local macro_rules|`(tactic|trivial)=>do let x:=("aeB aeo aen aep aeq Qu aeu abo abV aer abm ab0 abU aa7 aa8 abW abY abR abr abL zr_lT abv ab1 abe abf abg abh abb abZ aev ab2 zr_rpN abc abq zr_mqI ab4 ab6 abX aci abp abn abl aa6 zr_i2I abA abB aes ab8 abj abk abi aew aex abF aa9 aba abG zr_gT abd acf acg ach ab5 ab7 ab9 aet abt abu aca acb abH abw abx aco abI abJ abK acd ace XY XX XZ zr_gtuL abM abN abO abz zr_r2I abP abC zr_xeI abD acz abE XW ab3 acw zr_srI zr_mxI zr_mnI acv zr_wxI aby ack zr_dP zr_xsI acm acn XU acj".splitOn " ").toArray.map fun s=>Lean.mkIdent (.mkSimple s);`(tactic|repeat' first|(with_reducible intro _)|((with_reducible first|apply eqL|apply eqE);rfl)|kernel_rfl|((with_reducible first|apply abS|apply abT);rotate_left 7;rfl)|(with_reducible first $[|apply $x]*)|exact qJ)
instance:Df B 1 "is_small_letters" (et B.G yB):=e7 J Y.f.q25 J (by unfold AA;trivial)
instance:Df B 2 "is_name" (et B.G yb):=e7 J Y.f.q26 J (by unfold La;trivial)
instance:Df B 2 "is_word" (et B.G yc):=e7 J Y.f.q27 J (by unfold Lb;trivial)
instance:Df B 1 "is_one_of" (et B.G vS):=e7 J Y.f.q28 J (by unfold Hw;trivial)
instance:Df B 1 "is_whole" (et B.G zu):=e7 J Y.f.q29 J (by unfold JG;trivial)
instance:Df B 1 "is_list_up_to" (et B.G v7):=e7 J Y.f.q30 J (by unfold CG;trivial)
instance:Df B 1 "own_list" (et B.G EH):=e7 J Y.f.q31 J (by unfold JH;trivial)
def EA:S? B (Dw (cm (top 82) 0)) "Thing.__init__" (cm (top 82) 0) (vQ (cm (top 82) 0)) 0 Ca:=by
 unfold Ca;refine Qu ?_ ?_
 all_goals trivial
instance:Kf B 1 "Thing" 0 yW [D.J]:=gJ4 (dds:=[D.J]) Y.f.k0 Y.f.a0 J Y.f.q32 J J EA 0
instance:Kf B 1 "Thing" 0 yW []:=gJ4 (dds:=[D.J]) Y.f.k0 Y.f.a0 J Y.f.q32 J J EA 1
instance:Kf B 1 "Mark" 1 HA []:=υ Y.f.k1 Y.f.a1 J Y.f.q33 J J (by unfold Hy;trivial)
def Aj:S? B (Dw (cm (top 84) 0)) "Verb.__init__" (cm (top 84) 0) (vQ (cm (top 84) 0)) 0 Dy:=by
 unfold Dy;refine Qu ?_ ?_
 all_goals trivial
instance:Kf B 1 "Verb" 2 wc [D.J,(D.str "one"),D.J]:=gJ4 (dds:=[D.J,(D.str "one"),D.J]) Y.f.k2 Y.f.a2 J Y.f.q34 J J Aj 0
instance:Kf B 1 "Verb" 2 wc [(D.str "one"),D.J]:=gJ4 (dds:=[D.J,(D.str "one"),D.J]) Y.f.k2 Y.f.a2 J Y.f.q34 J J Aj 1
instance:Kf B 1 "Verb" 2 wc [D.J]:=gJ4 (dds:=[D.J,(D.str "one"),D.J]) Y.f.k2 Y.f.a2 J Y.f.q34 J J Aj 2
instance:Kf B 1 "Verb" 2 wc []:=gJ4 (dds:=[D.J,(D.str "one"),D.J]) Y.f.k2 Y.f.a2 J Y.f.q34 J J Aj 3
instance:Kf B 1 "At" 3 D2 []:=υ Y.f.k3 Y.f.a3 J Y.f.q35 J J (by unfold Lc;trivial)
instance:Kf B 1 "Has" 4 Cb []:=υ Y.f.k4 Y.f.a4 J Y.f.q36 J J (by unfold JI;trivial)
instance:Kf B 1 "Seen" 5 HC []:=υ Y.f.k5 Y.f.a5 J Y.f.q37 J J (by unfold HB;trivial)
instance:Kf B 1 "Marked" 6 wN []:=υ Y.f.k6 Y.f.a6 J Y.f.q38 J J (by unfold El;trivial)
instance:Kf B 1 "Kind" 7 xx []:=υ Y.f.k7 Y.f.a7 J Y.f.q39 J J (by unfold HD;trivial)
instance:Kf B 1 "Word" 8 DA []:=υ Y.f.k8 Y.f.a8 J Y.f.q40 J J (by unfold HE;trivial)
instance:Kf B 1 "Not" 9 xD []:=υ Y.f.k9 Y.f.a9 J Y.f.q41 J J (by unfold JJ;trivial)
instance:Kf B 1 "Both" 10 HG []:=υ Y.f.tX Y.f.a10 J Y.f.q42 J J (by unfold HF;trivial)
instance:Kf B 1 "Move" 11 x8 []:=υ Y.f.y? Y.f.a11 J Y.f.q43 J J (by unfold HI;trivial)
instance:Kf B 1 "Put" 12 zv []:=υ Y.f.w? Y.f.a12 J Y.f.q44 J J (by unfold JK;trivial)
instance:Kf B 2 "Rule" 13 zQ []:=gJ4 (dds:=[(D.U δ)]) Y.f.u4 Y.f.a13 J Y.f.q45 J J (by unfold HJ;trivial) 1
instance:Mf B 9 "can_hold" v5:=⟨λc h e=>by
 unfold v5 at e;split at e
 .cases e;exact n3 (k:=8) Y.f.k0 J Y.f.q46 J (by unfold BJ;trivial)
 .cases e⟩
instance:Mf B 9 "has_mark" xn:=⟨λc h e=>by
 unfold xn at e;split at e
 .cases e;exact n3 (k:=8) Y.f.k0 J Y.f.q47 J (by unfold BL;trivial)
 .cases e⟩
instance:Mf B 9 "is_plainly" wb:=⟨λc h e=>by
 unfold wb at e;split at e
 .cases e;exact n3 (k:=8) Y.f.k0 J Y.f.q48 J (by unfold AB;trivial)
 .cases e⟩
instance:Df B 1 "refuse_unless" (et B.G u9):=e7 J Y.f.q49 J (by unfold CH;trivial)
instance:Df B 1 "count_of" (et B.G Cc):=e7 J Y.f.q50 J (by unfold JL;trivial)
instance:Df B 10 "plain_ones" (q? B.G yX):=P' J Y.f.q51 J (by unfold FK;trivial)
instance:Df B 2 "is_mark" (et B.G GO):=e7 J Y.f.q52 J (by unfold GN;trivial)
instance:Df B 11 "check_things" (et B.G AE):=e7 J Y.f.q53 J (by unfold AD;trivial)
instance:Df B 3 "check_marks" (et B.G Bm):=e7 J Y.f.q54 J (by unfold Bl;trivial)
instance:Df B 1 "are_unlike" (et B.G xE):=e7 J Y.f.q55 J (by unfold FL;trivial)
instance:Df B 3 "check_names" (et B.G Bo):=e7 J Y.f.q56 J (by unfold Bn;trivial)
instance:Df B 10 "mark_names" (q? B.G yY):=P' J Y.f.q57 J (by unfold FM;trivial)
instance:Df B 10 "is_start" (et B.G EJ):=e7 J Y.f.q58 J (by unfold EI;trivial)
instance:Df B 1 "comes_to_room_checks" (et B.G xF):=gA4 J Y.f.q59 J (by unfold yZ;trivial)
instance:Df B 11 "check_starts" (et B.G AG):=gF5 ["things", "starts", "thing"] J Y.f.q60 J (by unfold AF;trivial)
instance:Df B 3 "are_words" (et B.G A3):=e7 J Y.f.q61 J (by unfold HK;trivial)
instance:Df B 1 "has_all" (et B.G BN):=e7 J Y.f.q62 J (by unfold Ld;trivial)
instance:Df B 2 "is_told_apart" (et B.G z9):=e7 J Y.f.q63 J (by unfold z8;trivial)
instance:Df B 11 "check_words_of_things" (et B.G xq):=e7 J Y.f.q64 J (by unfold xp;trivial)
instance:Df B 2 "check_dark" (et B.G Ce):=e7 J Y.f.q65 J (by unfold Cd;trivial)
instance:Df B 3 "is_way" (et B.G JN):=e7 J Y.f.q66 J (by unfold JM;trivial)
instance:Df B 4 "check_ways" (et B.G Cg):=e7 J Y.f.q67 J (by unfold Cf;trivial)
instance:Df B 3 "is_verb" (et B.G Lf):=e7 J Y.f.q68 J (by unfold Le;trivial)
instance:Df B 4 "check_verbs" (et B.G zD):=e7 J Y.f.q69 J (by unfold Em;trivial)
instance:Df B 1 "are_apart" (et B.G zR):=e7 J Y.f.q70 J (by unfold HL;trivial)
instance:Df B 11 "check_vocabulary" (et B.G yD):=e7 J Y.f.q71 J (by unfold yC;trivial)
instance:Df B 12 "check_parts" (et B.G Bq):=e7 J Y.f.q72 J (by unfold Bp;trivial)
instance:Df B 4 "does" (et B.G AH):=e7 J Y.f.q73 J (by unfold Vc;trivial)
instance:Df B 4 "refuses" (et B.G wx):=e7 J Y.f.q74 J (by unfold Lg;trivial)
instance:Df B 5 "hand_rules" (q? B.G Ci):=P' J Y.f.q75 J (by unfold FN;trivial)
instance:Df B 5 "put_rules" (q? B.G DB):=P' J Y.f.q76 J (by unfold HM;trivial)
instance:Df B 5 "lid_rules" (q? B.G DC):=P' J Y.f.q77 J (by unfold HN;trivial)
instance:Df B 5 "flame_rules" (q? B.G Br):=P' J Y.f.q78 J (by unfold En;trivial)
instance:Df B 3 "way_tests" (q? B.G DD):=P' J Y.f.q79 J (by unfold HP;trivial)
instance:Df B 5 "go_rules" (q? B.G EL):=P' J Y.f.q80 J (by unfold EK;trivial)
instance:Df B 5 "wait_rules" (q? B.G FQ):=P' J Y.f.q81 J (by unfold FP;trivial)
instance:Df B 6 "common_rules" (q? B.G AI):=P' J Y.f.q82 J (by unfold DE;trivial)
instance:Df B 3 "common_verbs" (q? B.G y4):=P' J Y.f.q83 J (by unfold DF;trivial)
instance:Df B 1 "by_name" (et B.G GQ):=e7 J Y.f.q84 J (by unfold GP;trivial)
instance:Df B 10 "mosts_by_name" (et B.G Ab):=e7 J Y.f.q85 J (by unfold Aa;trivial)
instance:Df B 1 "verbs_by_word" (et B.G yt):=e7 J Y.f.q86 J (by unfold CJ;trivial)
instance:Df B 1 "by_verb" (et B.G Li):=e7 J Y.f.q87 J (by unfold Lh;refine⟨R9 (stW (by kernel_rfl) MY J) (SW qJ J (Ni (M5 B.G.K (OG (Kx (by kernel_rfl))))) (pgI (by kernel_rfl)) (LI (PB (Tv B.G.K jU mh pE Gq (UC (Kx (by kernel_rfl)) (TQ (OG (Kx (by kernel_rfl))) (Ff.p (B:=B))) (S8 z6) ⟨J,J,J,J⟩) (w6 (Kx (by kernel_rfl)) z6))))) (Ol (PE.ghost (Kx (by kernel_rfl))))⟩)
instance:Mf B 9 "of_kind" yn:=⟨λc h e=>by
 unfold yn at e;split at e
 .cases e;exact n3 (k:=8) Y.f.j3 J Y.f.q88 J (by unfold CK;trivial)
 .cases e⟩
instance:Mf B 9 "all_verbs" yu:=⟨λc h e=>by
 unfold yu at e;split at e
 .cases e;exact n3 (k:=8) Y.f.j3 J Y.f.q89 J (by unfold A4;trivial)
 .cases e⟩
instance:Df B 1 "is_same_text" (et B.G wV):=e7 J Y.f.q90 J (by unfold DG;trivial)
instance:Df B 4 "copy_of" (et B.G GR):=e7 J Y.f.q91 J (by unfold Lj;trivial)
instance:Mf B 9 "thing_of" vw:=⟨λc h e=>by
 unfold vw at e;split at e
 .cases e;exact n3 (k:=8) Y.f.j3 J Y.f.q92 J (by unfold BO;trivial)
 .cases e⟩
instance:Mf B 9 "most_of" wH:=⟨λc h e=>by
 unfold wH at e;split at e
 .cases e;exact n3 (k:=8) Y.f.j3 J Y.f.q93 J (by unfold CM;trivial)
 .cases e⟩
instance:Mf B 9 "verb_of" wQ:=⟨λc h e=>by
 unfold wQ at e;split at e
 .cases e;exact n3 (k:=8) Y.f.j3 J Y.f.q94 J (by unfold CN;trivial)
 .cases e⟩
instance:Mf B 9 "you" zw:=⟨λc h e=>by
 unfold zw at e;split at e
 .cases e;exact n3 (k:=8) Y.f.j3 J Y.f.q95 J (by unfold HQ;trivial)
 .cases e⟩
instance:Df B 2 "is_by_command" (et B.G wg):=e7 J Y.f.q96 J (by unfold CO;trivial)
instance:Df B 2 "is_here" (et B.G zx):=e7 J Y.f.q97 J (by unfold Lk;trivial)
instance:Df B 10 "named" (et B.G A6):=e7 J Y.f.q98 J (by unfold QC;trivial)
instance:Df B 11 "is_of_kind" (et B.G Ae):=e7 J Y.f.q99 J (by unfold FR;trivial)
instance:Df B 11 "is_term" (et B.G BP):=e7 J Y.f.q100 J (by unfold Ll;trivial)
instance:Df B 11 "is_place" (et B.G Cj):=e7 J Y.f.q101 J (by unfold EM;trivial)
instance:Df B 12 "is_moved" (et B.G EO):=e7 J Y.f.q102 J (by unfold EN;trivial)
instance:Df B 10 "is_mark_value" (et B.G yy):=e7 J Y.f.q103 J (by unfold yx;trivial)
instance:Df B 13 "is_move" (et B.G GU):=e7 J Y.f.q104 J (by unfold GT;trivial)
instance:Df B 1 "is_said" (et B.G BQ):=e7 J Y.f.q105 J (by unfold Lm;trivial)
instance:Df B 10 "is_verb_name" (et B.G AJ):=e7 J Y.f.q106 J (by unfold DH;trivial)
instance:Df B 1 "does_or_refuses" (et B.G y6):=e7 J Y.f.q107 J (by unfold A7;trivial)
instance:Df B 12 "is_plain_test" (et B.G Ac):=e7 J Y.f.q108 J (by unfold wz;trivial)
instance:Df B 1 "is_test" (et B.G (yH 0)):=e7 (k:=0) J Y.f.q109 J (by trivial)
instance:Df B 13 "is_test" (et B.G (yH 1)):=e7 (k:=12) J Y.f.q109 J (by unfold yG;trivial)
instance:Df B 14 "is_test" (et B.G (yH 2)):=e7 (k:=13) J Y.f.q109 J (by unfold yG;trivial)
instance:Df B 15 "is_test" (et B.G (yH 3)):=e7 (k:=14) J Y.f.q109 J (by unfold yG;trivial)
instance:Df B 16 "is_test" (et B.G (yH 4)):=e7 (k:=15) J Y.f.q109 J (by unfold yG;trivial)
instance:Df B 14 "is_deed" (et B.G GV):=e7 J Y.f.q110 J (by unfold D3;trivial)
instance:Df B 18 "are_tests" (et B.G DI):=e7 J Y.f.q111 J (by unfold HR;trivial)
instance:Df B 15 "are_deeds" (et B.G DJ):=e7 J Y.f.q112 J (by unfold HS;trivial)
instance:Df B 19 "is_rule" (et B.G GY):=e7 J Y.f.q113 J (by unfold GW;trivial)
instance:Kf B 20 "World" 14 Ag []:=υ Y.f.j3 Y.f.a14 J Y.f.q114 J J (by unfold y7;trivial)
instance:Mf B 9 "is_dark" zF:=⟨λc h e=>by
 unfold zF at e;split at e
 .cases e;exact n3 (k:=8) Y.f.j3 J Y.f.q115 J (by unfold CP;trivial)
 .cases e⟩
instance:Mf B 9 "own_marks" Ad:=⟨λc h e=>by
 unfold Ad at e;split at e
 .cases e;exact n3 (k:=8) Y.f.j3 J Y.f.q116 J (by unfold A8;trivial)
 .cases e⟩
instance:Mf B 9 "names" yI:=⟨λc h e=>by
 unfold yI at e;split at e
 .cases e;exact n3 (k:=8) Y.f.j3 J Y.f.q117 J (by unfold Eo;trivial)
 .cases e⟩
instance:Mf B 9 "way_words" yz:=⟨λc h e=>by
 unfold yz at e;split at e
 .cases e;exact n3 (k:=8) Y.f.j3 J Y.f.q118 J (by unfold A9;trivial)
 .cases e⟩
instance:Mf B 9 "rules_to_try" yE:=⟨λc h e=>by
 unfold yE at e;split at e
 .cases e;exact n3 (k:=8) Y.f.j3 J Y.f.q119 J (by unfold zS;trivial)
 .cases e⟩
instance:Mf B 12 "parts" zT:=⟨λc h e=>by
 unfold zT at e;split at e
 .cases e;exact n3 (k:=11) Y.f.j3 J Y.f.q120 J (by unfold Er;trivial)
 .cases e⟩
instance:Df B 10 "own_starts" (et B.G Ck):=e7 J Y.f.q121 J (by unfold FV;trivial)
instance:Df B 10 "first_value" (et B.G yp):=e7 J Y.f.q122 J (by unfold Es;trivial)
instance:Df B 13 "first_stand" (et B.G Bs):=e7 J Y.f.q123 J (by unfold Et;trivial)
instance:Df B 1 "value_of" (et B.G Cn):=e7 J Y.f.q124 J (by unfold JO;trivial)
instance:Df B 2 "at_of" (et B.G zH):=e7 J Y.f.q125 J (by unfold QD;trivial)
instance:Df B 2 "mark_of" (et B.G Am):=e7 J Y.f.q126 J (by unfold Ln;trivial)
instance:Df B 1 "with_part" (et B.G Bb):=e7 J Y.f.q127 J (by unfold HU;trivial)
instance:Df B 3 "holders_of" (q? B.G yd):=P' J Y.f.q128 J (by unfold FW;trivial)
instance:Df B 10 "room_of" (et B.G An):=e7 J Y.f.q129 J (by unfold Lo;trivial)
instance:Df B 10 "has" (et B.G Vd):=e7 J Y.f.q130 J (by unfold Y3;trivial)
instance:Df B 10 "is_shut" (et B.G zy):=e7 J Y.f.q131 J (by unfold Lp;trivial)
instance:Df B 11 "in_open" (et B.G zz):=e7 J Y.f.q132 J (by unfold Lq;trivial)
instance:Df B 12 "burns_in" (et B.G AK):=e7 J Y.f.q133 J (by unfold JP;trivial)
instance:Df B 13 "is_lit" (et B.G FX):=e7 J Y.f.q134 J (by unfold NS;trivial)
instance:Df B 14 "is_seen" (et B.G yJ):=e7 J Y.f.q135 J (by unfold Lr;trivial)
instance:Df B 10 "is_of_way" (et B.G Bc):=e7 J Y.f.q136 J (by unfold HV;trivial)
instance:Df B 11 "things_of" (et B.G wR):=e7 J Y.f.q137 J (by unfold HW;trivial)
instance:Df B 12 "meant" (et B.G wB):=e7 J Y.f.q138 J (by unfold QE;trivial)
instance:Df B 10 "at_parts" (et B.G ER):=e7 J Y.f.q139 J (by unfold JQ;trivial)
instance:Df B 10 "mark_parts" (et B.G Ah):=e7 J Y.f.q140 J (by unfold FY;trivial)
instance:Df B 11 "can_go" (et B.G FZ):=e7 J Y.f.q141 J (by unfold NT;trivial)
instance:Df B 11 "can_show" (et B.G ES):=e7 J Y.f.q142 J (by unfold JR;trivial)
instance:Mf B 16 "holds" (vT 0):=⟨λc h e=>by
 unfold vT Cp at e;split at e
 .cases e;exact n3 (k:=15) Y.f.k3 J Y.f.q143 J (by unfold JS;trivial)
 .cases e;exact n3 (k:=15) Y.f.k4 J Y.f.q144 J (by unfold HX;trivial)
 .cases e;exact n3 (k:=15) Y.f.k5 J Y.f.q145 J (by unfold F0;trivial)
 .cases e;exact n3 (k:=15) Y.f.k6 J Y.f.q146 J (by unfold DK;trivial)
 .cases e;exact n3 (k:=15) Y.f.k7 J Y.f.q147 J (by unfold F2;trivial)
 .cases e;exact n3 (k:=15) Y.f.k8 J Y.f.q148 J (by unfold F4;trivial)
 .cases e;exact n3 (k:=15) Y.f.D? J Y.f.q149 J (by unfold HZ;trivial)
 .cases e⟩
instance:Mf B 17 "holds" (vT 1):=⟨λc h e=>by
 unfold vT at e;split at e
 .cases e;exact n3 (k:=16) Y.f.k9 J Y.f.q150 J (by unfold zU;trivial)
 .cases e;exact n3 (k:=16) Y.f.tX J Y.f.q151 J (by unfold y8;trivial)
 .exact(Mf.p (B:=B) (g:=vT 0) c h e).mono J⟩
instance:Mf B 18 "holds" (vT 2):=⟨λc h e=>by
 unfold vT at e;split at e
 .cases e;exact n3 (k:=17) Y.f.k9 J Y.f.q150 J (by unfold zU;trivial)
 .cases e;exact n3 (k:=17) Y.f.tX J Y.f.q151 J (by unfold y8;trivial)
 .exact(Mf.p (B:=B) (g:=vT 0) c h e).mono J⟩
instance:Mf B 19 "holds" (vT 3):=⟨λc h e=>by
 unfold vT at e;split at e
 .cases e;exact n3 (k:=18) Y.f.k9 J Y.f.q150 J (by unfold zU;trivial)
 .cases e;exact n3 (k:=18) Y.f.tX J Y.f.q151 J (by unfold y8;trivial)
 .exact(Mf.p (B:=B) (g:=vT 0) c h e).mono J⟩
instance:Mf B 14 "done" Cq:=⟨λc h e=>by
 unfold Cq at e;split at e
 .cases e;exact n3 (k:=13) Y.f.y? J Y.f.q152 J (by unfold Ib;trivial)
 .cases e;exact n3 (k:=13) Y.f.w? J Y.f.q153 J (by unfold JT;trivial)
 .cases e⟩
instance:Df B 10 "is_object" (et B.G zV):=e7 J Y.f.q154 J (by unfold Ie;trivial)
instance:Df B 11 "fits_form" (et B.G DL):=e7 J Y.f.q155 J (by unfold Ig;trivial)
instance:Df B 12 "is_command" (et B.G Cr):=e7 J Y.f.q156 J (by unfold F6;trivial)
instance:Df B 13 "check_command" (et B.G yA):=e7 J Y.f.q157 J (by unfold CQ;trivial)
instance:Df B 20 "fits" (et B.G Mn):=e7 J Y.f.q158 J (by unfold Ve;trivial)
instance:Df B 15 "outcome" (et B.G D4):=e7 J Y.f.q159 J (by unfold Ls;trivial)
instance:Df B 21 "answered" (et B.G EV):=e7 J Y.f.q160 J (by unfold JU;trivial)
instance:Df B 22 "step" (et B.G Mo):=e7 J Y.f.q161 J (by unfold Vf;trivial)
instance:Df B 10 "objects_of" (q? B.G yf):=P' J Y.f.q162 J (by unfold ye;trivial)
instance:Df B 11 "commands" (q? B.G EX):=P' J Y.f.q163 J (by unfold EW;trivial)
instance:Df B 3 "comes_to_room_stands" (et B.G xG):=gA4 J Y.f.q164 J (by unfold y9;trivial)
instance:Df B 1 "is_two" (et B.G JV):=e7 J Y.f.q165 J (by unfold NU;trivial)
instance:Df B 2 "is_part" (et B.G GZ):=e7 J Y.f.q166 J (by unfold Lu;trivial)
instance:Df B 10 "is_holder" (et B.G DM):=e7 J Y.f.q167 J (by unfold Ih;trivial)
instance:Df B 11 "is_value" (et B.G EY):=e7 J Y.f.q168 J (by unfold JW;trivial)
instance:Df B 13 "is_stand" (et B.G EZ):=e7 J Y.f.q169 J (by unfold JX;trivial)
instance:Df B 1 "_law_cell_at" (et B.G zc):=e7 J Y.f.q170 J (by unfold DN;trivial)
instance:Df B 1 "_law_digit" (rh B.G uS):=η J Y.f.q171 J J (by unfold Ai;trivial)
instance:Df B 1 "_law_named" (q? B.G wj):=P' J Y.f.q172 J (by unfold F7;trivial)
instance:Df B 3 "_law_things" (rh B.G Bt):=gM5 ["_law_state", "_law_rooms", "_law_things_here", "_law_holders", "_law_pool", "_law_turn", "_law_k", "_law_name", "_law_words", "_law_kind"] J Y.f.q173 J J (by unfold Eu;trivial)
instance:Df B 3 "_law_marks" (rh B.G Cs):=η J Y.f.q174 J J (by unfold F8;trivial)
instance:Df B 2 "_law_ways" (rh B.G DO):=gM5 ["_law_state", "_law_things_here", "_law_marks_here", "_law_rooms", "_law_doors", "_law_ways_here", "_law_k", "_law_room", "_law_word", "_law_goal", "_law_mark"] J Y.f.q175 J J (by unfold Ii;trivial)
instance:Df B 3 "_law_verbs" (rh B.G Ct):=η J Y.f.q176 J J (by unfold F9;trivial)
instance:Df B 2 "_law_term" (rh B.G xg):=η J Y.f.q177 J J (by unfold Ik;trivial)
instance:Df B 2 "_law_mark_term" (rh B.G yg):=η J Y.f.q178 J J (by unfold BR;trivial)
instance:Df B 3 "_law_marked" (rh B.G zI):=η J Y.f.q179 J J (by unfold Ew;trivial)
instance:Df B 1 "_law_test" (rh B.G (xh 0)):=η (k:=0) J Y.f.q180 J J (by trivial)
instance:Df B 4 "_law_test" (rh B.G (xh 1)):=η (k:=3) J Y.f.q180 J J (by unfold zW;trivial)
instance:Df B 5 "_law_test" (rh B.G (xh 2)):=η (k:=4) J Y.f.q180 J J (by unfold zW;trivial)
instance:Df B 6 "_law_test" (rh B.G (xh 3)):=η (k:=5) J Y.f.q180 J J (by unfold zW;trivial)
instance:Df B 3 "_law_deed" (rh B.G DP):=η J Y.f.q181 J J (by unfold Il;trivial)
instance:Df B 8 "_law_rules" (rh B.G Cu):=gM5 ["_law_state", "_law_things_here", "_law_marks_here", "_law_verbs_here", "_law_most", "_law_forms", "_law_rules_here", "_law_k", "_law_verb", "_law_form", "_law_tests", "_law_refuses", "_law_deeds"] J Y.f.q182 J J (by unfold Ga;trivial)
instance:Df B 9 "_law_made" (rh B.G zX):=η J Y.f.q183 J J (by unfold Im;trivial)
instance:Df B 1 "_law_parts" (et B.G Cv):=e7 J Y.f.q184 J (by unfold Gb;trivial)
instance:Df B 1 "_law_leads" (et B.G Cw):=e7 J Y.f.q185 J (by unfold Gc;trivial)
instance:Df B 2 "_law_right" (et B.G Cy):=gF5 ["_law_things_here", "_law_marks_here", "_law_stand", "_law_rooms", "_law_holders", "_law_mosts", "_law_mark", "_law_by", "_law_part", "_law_value"] J Y.f.q186 J (by unfold Ge;trivial)
def Wc:S? B (Dw (top 183)) "law" (top 183) (vQ (top 183)) 22 Vg:=by
 unfold Vg;refine Qu ?_ ?_
 all_goals trivial
end
end K39x
namespace K39x
open PySem L2 L3 L4
def Q6(K:av):Sp:=λd H Q y=>∃(a:Addr) (b:List Int),d=[.ref a]/\fb K H a (b.map V.int)/\b.length<=63/\∀c,Q (.U γ) c
theorem LD{G:Bg}{H:Hp}:∀a:List Int,b? G H (a.map D.int) (a.map V.int)
 |[]=>vJ
 |n::a=>vM (xa n) (LD a)
def YD{G:Bg}:∀c H Q E,Q6 G.K c H Q E->et G Y4 c H Q E:=λc H Q E h=>by obtain⟨a,b,rfl,i,f,k⟩:=h;refine⟨H,[.qi (b.map D.int)],.U γ,ve.refl _,vM (by unfold L4.df;exact⟨a,_,J,i,LD b⟩) vJ,ac8 b f,λv e d y y y y r=>?_⟩;unfold L4.df at r;subst r;exact k d
section
variable{K:av}{x m q:Str}{st:Stmt}{f C:Addr}{oc:aa}{od:Option Addr}{kV doc pm:aa}{an:Option Addr}{cdv ct:aa}{osl:Array (Option aa)}
def Wd(lk:K.lookup f=Z ⟨oc,od,.func (fA x q (yM st) (vQ st) (vn st) .none kV doc pm an cdv ct),osl⟩)(b:ie K cdv q=γ)(c:eB K (.ref f)=γ):∃a,T? K x q st f a:=⟨_,⟨_,_,_,_,_,_,_,_,_,J,lk,b⟩,c⟩
def gd_mk(h:ip K aZ x=Z (Z (.ref f)))(lk:K.lookup f=Z ⟨oc,od,.func (fA x x (yM st) (vQ st) (vn st) .none kV doc pm an cdv ct),osl⟩)(a:ie K cdv x=γ)(b:eB K (.ref f)=γ):GD K x st:=⟨f,(Wd lk a b).imp λy F=>⟨h,F⟩⟩
def gm_mk(h:cW K (.ref C) m=Z (Z (.ref f)))(b:kC K (.ref f)=γ)(lk:K.lookup f=Z ⟨oc,od,.func (fA m q (yM st) (vQ st) (vn st) .none kV doc pm an cdv ct),osl⟩)(a:ie K cdv q=γ)(c:eB K (.ref f)=γ):GM K C m q st:=⟨f,(Wd lk a c).imp λy F=>⟨h,b,F⟩⟩
end
theorem all_mk{l:ig}{w:aw}{K:av}{h:Heap}{p:Str->Option aa}{M:Addr}(X:K.In h)(I:h.Ns aZ p)(hfa:p "law" = Z (.ref M)){q r t u x y z A C E b d i j m o:Addr}(F:Fx K q r t u x y z A C E b d i j m o):
  ∃H:bU,(∀(s:af) (v:aa),il s H ⟨[v],[]⟩ [("_law_script", v)])/\∀b1:Heap,K.In b1->b1.Ns aZ p->zi l.prog w K p b1 ze 23 M H ["_law_script"] (Q6 K):=by
 have nr:∃B:Bg,B.K=K/\B.ca 0=q/\B.ca 1=r/\B.ca 2=t/\B.ca 3=u/\B.ca 4=x/\B.ca 5=y/\B.ca 6=z/\B.ca 7=A/\B.ca 8=C/\B.ca 9=E/\B.ca 10=b/\B.ca 11=d/\B.ca 12=i/\B.ca 13=j/\B.ca 14=m/\B.ca 15=o/\B.hs=tupleKeyHash (vv l.prog w):=⟨⟨K,λc=>[q,r,t,u,x,y,z,A,C,E,b,d,i,j,m,o].getD c 0,_⟩,J,J,J,J,J,J,J,J,J,J,J,J,J,J,J,J,J,J⟩;obtain⟨B,rfl,rfl,rfl,rfl,rfl,rfl,rfl,rfl,rfl,rfl,rfl,rfl,rfl,rfl,rfl,rfl,rfl,P⟩:=nr;have AT:∀b1,Yx ⟨l.prog,w,p,b1,B⟩:=λb1=>⟨⟨h,X,I⟩,P,F⟩;obtain⟨f,H,a,FF⟩:=F.q187;have e:=hfa.symm.t (ji X I a);cases e;obtain⟨T,U,kV,doc,W,Q,cdv,R,osl,rfl,lk,hcd⟩:=FF.ex;exact⟨_,λs v=>.of_eq J,λb1 _ _=>(Qe J J J FF (oz (N:=Dw (top 183)) (ps:=["_law_script"]) (np:=1) (n:=14) (by kernel_rfl)).1 ((@Wc _ (AT b1)).ok J _)).imp (YD (G:=B))⟩
def walk{l:ig}{q:aB}{loose:aC}{XP:(Str->Option aa)->Heap->Prop}{YP:aw->Heap->Prop}{d:DefRec}{K:Params->av}(j:l.most=Z 63)(hdf:d.params.defaults=[])
  (hY:∀(w:aw) (h:Heap),YP w h->(K w.params).In h)
  (F:∀(w:aw) (b:Str->Option aa) (c:Addr) (h:Heap),(K w.params).In h->h.Ns aZ b->b d.name=Z (.ref c)->
   ∃e:bU,(∀(s:af) (u:aa),il s e ⟨[u],[]⟩ [("_law_script", u)])/\∀b1:Heap,(K w.params).In b1->b1.Ns aZ b->zi l.prog w (K w.params) b b1 ze 23 c e ["_law_script"] (Q6 (K w.params))):
  W.WalkO q loose XP YP l.row.toRowW d [] (λf o=>nN f o):=
 L2.WK (n:=63) (k:=23) (x:="_law_script") (CX:=λy=>ze) (sp:=λw=>Q6 (K w.params)) j (by decide) hdf ⟨J,by decide,by decide⟩ hY F (λy y a m i y hS=>⟨a,m,J,hS,i,λy=>J⟩) λy y y y y z=>z
end K39x
set_option maxHeartbeats 0
open PySem PySem.W PyProof.Rows
set_option tactic.hygienic true
theorem PySem.Challenge.cw_tellworld_k39_whole_a_tree_holds : PySem.Challenge.rw_tellworld_k39_whole_a_tree.Holds := by
 refine hd ?_
 k_fill
 refine K39x.walk (l:=PySem.Challenge.rw_tellworld_k39_whole_a_tree) rfl rfl (λw h Y=>Y) ?F
 case F=>
  intro w mg fa h KX G hmg;refine' K39x.all_mk KX G hmg ?Q
  case Q=>
   constructor
   all_goals as_aux_lemma=>first
   |k_is
   |kernel_rfl
   |exact⟨⟨⟨by k_is,by k_is,by k_is,by k_is⟩,by k_is,by k_is,by k_is,by k_is⟩,by k_is,by k_is,by kernel_rfl⟩
   |exact⟨_,by k_is⟩
   |exact K39x.gd_mk (by k_is) (by k_is) (by k_is) (by k_is)
   |exact⟨_,_,by k_is,⟨_,_,_,_,_,_,_,_,_,rfl,by k_is,by k_is⟩,by k_is⟩
   |exact K39x.gm_mk (by k_is) (by k_is) (by k_is) (by k_is) (by k_is)
   |exact⟨_,_,_,_,by k_is,by k_is,by rfl,by rfl,by simp,by repeat' first|exact .nil|exact .cons rfl .nil|refine .cons rfl ?_⟩
   |exact⟨_,_,_,_,[_],_,by k_is,by k_is,⟨⟨_,_,_,_,_,_,_,_,_,rfl,by k_is,by k_is⟩,by k_is⟩,by k_is,by rfl,.cons (by first|rfl|exact⟨_,rfl⟩) .nil⟩
   |exact⟨_,_,_,_,[_,_,_],_,by k_is,by k_is,⟨⟨_,_,_,_,_,_,_,_,_,rfl,by k_is,by k_is⟩,by k_is⟩,by k_is,by rfl,.cons (by first|rfl|exact⟨_,rfl⟩) (.cons (by first|rfl|exact⟨_,rfl⟩) (.cons (by first|rfl|exact⟨_,rfl⟩) .nil))⟩
end
