import PyProof.Rows.All
import Open.Pieces
import OpenK.KLine
import PySem.Challenge.RW_tellworld_k24_whole_tests_hang_on_their
import PyProof.EqAt
import PyProof.EqKinds
import PyProof.TupleCall
import PyProof.StrWalks
import PyProof.ConsumeWalk
import PyProof.NeKinds
import PyProof.Rows.SetFrom
import KE.KEqDict
import KE.KIsAll
import PyProof.WalksMore
import PyProof.TupleKey
import PyProof.DictWalks
import PyProof.Rows.ZipGen
import KE.KDictLaws
import PyProof.DictItems
import KE.KSortTup
import PyProof.TupleOfSeq
import PyProof.Rows.SortStr
import PyProof.Rows.StrInSeq3
import PyProof.TupleIter
import KE.KDictOf
import PyProof.CollectWalk
import PyProof.Rows.SeqMore
import PyProof.IsiH_tuple
import PyProof.AttrMiss
import PyProof.Rows.Tup
import PyProof.WalksS
import PyProof.DictRoadsH
import PyProof.EnumIter
import PyProof.EnumFor
import PyProof.EnumMake
import PyProof.EnumStmt
import PyProof.Rows.StrJoin2
import PyProof.AutoSeq1
set_option genSizeOf false
set_option compiler.extract_closed false
local macro_rules|`(#v[$a,*])=>`(⟨$a,*⟩)
local macro_rules (kind:=Lean.Parser.Command.in)|s=>do
 if s[0][1].isStrLit?.isNone then Lean.Macro.throwUnsupported
 return Lean.mkNullNode (((s[0][1].isStrLit?.getD "").splitOn ";").toArray.map fun l=>
  let w:=l.splitOn " "
  let f:=fun z:String=>match z.splitOn "ϑ" with
   |a::b=>a++"".intercalate (b.map fun x=>w.getD (x.front.toNat-48) ""++(x.drop 1).toString)
   |_=>z
  s[2].rewriteBottomUp fun t=>match t with
   |.ident i _ n _=>
    let y:=n.toString
    if y.contains 'ϑ' then let y:=f y;if y.front.isDigit then .node i `num #[.atom i y] else Lean.mkIdentFrom t y.toName else t
   |.atom i x=>.atom i (f x)
   |_=>t)
local macro_rules (kind:=Lean.Parser.Command.set_option)|s=>if s[1].getId= `h then return s.setArg 1 (Lean.mkIdent `tactic.hygienic) else Lean.Macro.throwUnsupported
local macro_rules (kind:=Lean.Parser.Command.declaration)|s=>do
 if s.getPos?.isNone||s[1][1][0].getId.getRoot== `PySem then Lean.Macro.throwUnsupported
 let s:=s.rewriteBottomUp (·.setInfo .none)
 if s[1].getKind∈[``Lean.Parser.Command.definition,``Lean.Parser.Command.abbrev,``Lean.Parser.Command.instance]&&s[0][4].isNone then
  return s.setArg 0 (s[0].setArg 4 (Lean.mkNullNode #[Lean.Syntax.node .none ``Lean.Parser.Command.noncomputable #[Lean.mkAtom "noncomputable"]]))
 return s
set_option bootstrap.genMatcherCode false
noncomputable section
open Option renaming some->U,none->Z
open Bool renaming true->γ,false->δ
def J{b:Sort _}{a:b}:a=a:=rfl
open List renaming length_map->ah,getElem?_eq_getElem->aI,length_append->aH,mem_map->aw,map_cons->aA,mem_singleton->aN,length_cons->aL,mem_cons_self->aX,mem_cons_of_mem->bg,mem_cons->aJ,length_singleton->bq,mem_append_left->bw,map_append->aZ,mem_append_right->bG,getD_eq_getElem?_getD->bV,getElem?_map->br,map_map->aT,getElem?_eq_some_iff->bZ,mem_append->bt,size_toArray->bI,all_eq_true->bH,mem_map_of_mem->bT,length_take->bJ,mem_filter->bE,append_nil->bF,append_assoc->bN,mem_of_getElem?->ck,range->bh,nil_append->bQ,getElem?_set->cc,getElem?_append_right->cR,not_mem_nil->b0,getElem?_append_left->cU,mem_range->bY,nodup_append->cq,length_replicate->cP,nodup_cons->cu,length_range->cI,getElem_mem->cG,length_drop->cJ,map_nil->cf,filterMap_cons->dF,foldl_cons->c4,mem_iff_getElem->dY,getElem?_drop->dG,length->cD,length_nil->dr,zipWith_cons_cons->fK,length_pos_iff->eX,zip_cons_cons->eY,any_eq_true->eA,pairwise_iff_getElem->hJ,getElem?_eq_none->gf,length_set->eC,getElem?_replicate->hX,length_eq_zero_iff->ib,drop_eq_getElem_cons->iR,take_append_drop->ic,lookup_cons->fM,filter_cons->fO,zipWith->dP,getElem?_cons_succ->iU,find?_cons->fP,length_zip->fQ,lookup->dQ,any_cons->fw,replicate->fR,perm_append_singleton->jZ,exists_cons_of_ne_nil->j3,length_filter_le->iX,getElem?_set_self->j7,mem_filterMap->ja,take_of_length_le->j8,map_drop->gA,map_take->gE,getElem?_toArray->j9,take_sublist->je,nodup_nil->ir,mem_of_mem_drop->kh,mem_of_find?_eq_some->lG,length_zipWith->kl,all_cons->iw,find?_eq_none->kr,drop_eq_nil_of_le->lI,getElem?_zipWith->lK,perm_middle->kB,zip_map'->jv,getElem?_set_ne->lL,mem_erase_of_ne->lQ,of_mem_zip->kE,countP_eq_length_filter->oP,getElem?_range->lR,getElem_of_mem->lS,filter_eq_self->lT,mergeSort_perm->lU,getElem_range->l4,getElem?_take->l5,getElem?_zip_eq_some->oT,mem_or_eq_of_mem_set->oU,getLastD_eq_getLast?->oV,ext_getElem?->l7,any_eq_false->l8,foldl_append->mf,length_erase_of_mem->oZ,getElem_inj->mm,nodup_range->mC,any_map->kK,toArray->kL,length_pos_of_mem->pb,zip_append->mG,contains_iff_mem->pj,filterMap_append->pD,length_eraseIdx->pI,pairwise_append->pJ,mem_of_mem_take->pK,map_congr_left->pU,contains_cons->pX,map_filterMap->p8,append_of_mem->p9,take_add_one->qc,all_map->ny,pairwise_map->qf,map_fst_zip->qv,le_antisymm->qw,ext_getElem->qz,getElem_map->qA,map_id->nO,find?_some->qQ,drop_nil->rq,map->oa,rec->sF
open PySem.Heap renaming get?_push_of_some->aK,get?_push_size->bz,lt_size->aQ,get?_update_self->eU,size_push->c5,get?_update_other->gd,SameBut->gH
open PySem renaming wpAny_bind->ar,Value->aa,wpAny_pure->aC,Shared->aq,starEach->aE,wpAny->av,sizeLine->aS,mainGlobals->bR,sizeLine_eq->bS,Spec->vd,compareOp->bD,Program->bj,World->aR,Around->bp,wpAny_truthy_bool->dH,wpAny_setState_of->dO,wpAny_Call_Name_kw->dZ,wpAny_mono->cE,wpAny_holding->dt,codeAny_builtin->eD,backTo->bM,FuncData->cy,sysModules->c6,wpAny_call_entry->fN,SetTable->cH,wpAny_newObj_type->gn,assignEach->dw,bootBuiltins->eF,attributeBase->fo,wpAny_passesOwn->gx,keywordEach->eI,plainId_quiet->fS,codeAny->cK,mem_of_lookup->iY,binaryOp->c8,wpAny_specialOf->iq,behindInMarks->gz,wpAny_pyIter_list->jc,foldedSetIterable->jd,ofAClassStatement->jf,wpAny_setField->iu,swapsWith->eL,filterMap_getElem?_range->lH,letOwnedTupleGo->jk,Builtin->dA,wpAny_updateSeq->jo,codeAny_mono->iz,NameKind->eO,isSubtype_type->jr,wpAny_forIn_list->ky,wpAny_execs_nil->kC,call_meetsIn->jw,wpAny_typeOf->jx,wpAny_pyIter_tuple->lV,tupleKind_room_in1->lZ,wpAny_Call_method->me,wpAny_pyIter_slot->mh,Paired->gR,wpAny_newList->kH,Scope->dg,noFill_tuple_add->mr,wpAny_askSetting->mB,wpAny_isInstance->mD,Keyword->fV,wpAny_loadPart'->pf,wpAny_isTrue_Compare1->ph,wpAny_eqIsQuiet_tuple->pA,builtinLookup_eq_fast->pB,carriedByValue->mK,wpAny_seqItems->mL,codeAny_call_builtin->pF,wpAny_runValue->mM,entryFor_alias->mN,codeAny_extend_loopS->pH,typeIs_none->kP,PassesOwn->jA,seq_tuple_add->mU,wpAny_call->kR,Within->m3,BindsTo->iI,concat_meets->m9,slot_list_getitem->qb,wpAny_pyIter_dict->qd,wpAny_setEpoch_of->qh,wpAny_storeSet_of->ql,wpAny_execs_cons->qm,wpAny_pyIter_zip->qu,seqIndex_of->nI,codeAny_of_tree->qH,typeLookup_type->qN,wpAny_Name->nP,wpAny_load->nQ,PlainAttrs->nS,call_meets->nU,meets_dict_get->qT,call->nV,boot_len->qV,wpAny_newTuple->qX,wpAny_rule->nX,KeyKind->rb,intBits_le_64->rf,evalPart_none->rg,call_list_seq->rh,wpAny_standAt->rj,signature?_of->rG,Result->k6
open Prod renaming fst->aj,snd->cb
open Nat renaming le_refl->aG,ne_of_lt->bf,le_of_ble_eq_true->cB,lt_of_lt_of_le->cF,zero_le->bP,le_trans->bW,lt_succ_self->cY,lt_succ_of_lt->dJ,min_eq_left->eB,lt_irrefl->eE,le_of_lt_succ->gq,ne_of_gt->fz,min_self->fA,succ_pos->fC,lt_of_le_of_lt->jb,ble_eq->eJ,mod_lt->eK,lt_trichotomy->jh,le_of_lt->gG,le_add_right->jj,add_right_comm->ko,le_succ->gK,sub_self->iA,ble->eP,zero_add->kI,lt_trans->kJ,add_le_add->mQ,beq->iH,le_of_eq->m5,le_of_succ_le->qj,succ_le_succ->qr,le_of_not_lt->qt,min_le_left->qG,not_lt_zero->qP,beq_refl->rJ,add_comm->rO,lt_or_ge->rU,pow_succ->rV,sub_sub->sd
open Bool renaming false_ne_true->bB,and_eq_true->bA,eq_iff_iff->dj,false_eq_true->gm,not_eq_true'->ik,eq_false_iff->jg,false_and->jq,or_eq_false_iff->lM,or_eq_true->kF,or_false->mV,true_and->mZ,or_true->nz,not_eq_true->qB,rec->n8
open Array renaming length_toList->bL,getElem?_toList->cp,getElem?_eq_getElem->di,getD_eq_getD_getElem?->fJ,getElem?_eq_some_iff->jY,perm_iff_toList_perm->oR,toList_push->mj,size_setIfInBounds->o5,toList_filterMap->pd,replicate->mI,size_eq_one_iff->pC,forIn_toList->pZ,size_map->q9,toList->rK,map->sE
open PySem.W renaming Frag->ay,kia_one->cQ,emptyDict->eG,findIn->c9,kitOne->de,kas_descPart->fU,instObj->fD,kas_count->fE,keepIn->eM,kas_asc->dR,kas_tail3->gQ,kas_rev->fG,kas_place->iB,kas_sort->gS,kitx_dict->kO,fnOf->fH,codeIn->iC,OpenLaw->iF,kas_desc->iG,plainGet_of->mS,callWith_K0->mT,plainGet->kQ,callWith_K->m8,kat_cons->jB,cellsFrom_some->qo,methodObj->nE,hasDictIn->nG,kitx_list->nH,methodCall_KW->qF,kas_ask->jE,lookIn->kX,looks_findIn->qS,makes_of->nY,takerIn->nZ,makesIn->n4,kitx_tuple->rL,kat_yes->kY,nsIn->jF,mg_of->kZ,plainOver->rX,make_core->rY,specialIn->rZ,isFn->k5
open PySem.SetTable renaming below->bO,turns->cv,insertAt->cX,runEnd->cM,Probe->dE,bits->du,advance->ip,fits->iy,grown->jt,insertAt_perm->lJ,fill->mY,sizeAbove->qa,layClean->qk,slot->rE,leap->rF,laid->rH,has->rR
open Int renaming eq_ofNat_of_zero_le->cW,toNat_natCast->ig,natCast_nonneg->lX,emod_lt_of_pos->l6,emod_nonneg->mJ,negSucc_lt_zero->pM,max_eq_right->qp,min_eq_left->qD,ofNat_le->rM,le_of_lt->rN,le_refl->sv
open PySem.SetTable.layClean renaming free->dX
open Option.some renaming inj->cZ,injEq->uZ
open PySem.Around renaming under_plainId->eV,in1_units->kz,under->m6
open PySem.Heap.SameBut renaming update->eW
open PyProof.Rows.F renaming plain_set_update_loop->gb,entry_set_update_loop->j6
open Classical renaming byContradiction->hU,propDecidable->iV,choose_spec->pE
open PySem.SetTable.probe renaming go->eZ
open List.Sublist renaming refl->fj,append->uT,map->u6
open PySem.Obj renaming data_mapFields->fL,mapSeq->c7,mapFields->gB,isFreed_of_fields->ka,cls_mapFields->ml,putSet->nW
open Ne renaming symm->cg
open PySem.Calls renaming spliced_cons->gh,callWith_builtin->iW,spliced_nil->ie,evalArgs_plain->kc,call_function_entry->lF,Name_function_global->oQ
open False renaming elim->dv
open PySem.Builtin.List renaming listExtendWith->jW,listLengthHint->jX,listTooLong->j4,listSameRef->j5
open Option renaming map_some->gu,getD_some->my,bind_eq_some_iff->o6,map_eq_some_iff->o8,map->kW,getD_none->qC
open PySem.SetTable.below renaming go->il
open PySem.F renaming called_set->fT,plainAttrs_list->ji,slot_NoneType_hash->kj,slot_dict_get->jn,plainAttrs_dict->ku,plain_list_iadd->kx,slot_dict_itemiterator_iter->oO,args_tuple_add_2->lW,slot_list_append->lY,entry_tuple_add->l9,args_dict_get_2->md,slot_tuple_add->mw,entry_dict_get->mx,slot_dict_setdefault->o9,slot_list_pop->mF,entry_proto_collect->px,plain_proto_collect->pz,sub_list_frozenset->pG,plain_extend_loop->pT,slot_list_extend->pY,type_list_append->p6,slot_dict_items->qe,entry_list_iadd->qg,type_dict_get->qE,plain_set_new->qI,type_list_pop->qL,slot_set_iter->qO,sub_list_set->qU
open PyProof.Rows renaming StrsAre->kg,AllBare->fF,subscriptTail_builtinR->o7,entry_list_sort->mH,slot_list_sort->mO,args_list_sort->mP,lt_str->pS,IsTup->dS,listUpdate_at->mW,plain_sorted->ng,entry_sorted->ni,args_sorted1->nu,seqEpoch_at->nL,kind_sorted->nM,boot_sorted->nN,get?_update_seq->qJ,boot_isinstance->qK,list_sort_treeK->qM,IntsAre->jC,Subscript_->nR,sorted_out_str->qY,sortedHeap_old->qZ,strKind_oneLt->rB,sortedHeap_at->rD
open PySem.SeqAt.EqAt renaming same->jm,str_str->kq,of_refs->l3,none_int->pN,none_str->pO,int_none->pP,str_none->pR,int_str->pV,str_int->pW,tuple_none->uq,tuple_bool->ur,tuple_list->uu,list_tuple->uv,none_tuple->uw,bool_tuple->ux,none_bool->uz,bool_none->uA,bool_bool->uB,tuple_int->uC,tuple_str->uD,list_none->uE,list_bool->uF,none_list->uG,bool_list->uH,int_tuple->uI,str_tuple->uJ,bool_int->uK,bool_str->uL,int_bool->uM,str_bool->uN,list_int->uO,list_str->uP,int_list->uQ,str_list->uR,int_int->uV
open PySem.Shared renaming TypeIs->ju
open Nat.succ renaming inj->jy
open LawfulBEq renaming eq_of_beq->gO
open List.Perm renaming refl->kG,eq_of_pairwise->oY
open PySem.AutoSeq1 renaming sub_tuple_tuple->oW,wpAny_loadPart'->oX
open PySem.SeqAt renaming EqAt->jz,in_tupleAt->qq
open Sum.inr renaming inj->kM
open Iff renaming rfl->gU
open PySem.Paired renaming length->mR,snoc->r9
open List.cons renaming inj->mX
open PySem.Walks renaming list->kU,dictKeys->qW,tuple->se
open PySem.Code renaming isFrame->m7,frames->r6
open PySem.Builtin.Tuple renaming tupleCompareSizes->tG
open Prod.mk renaming inj->nD
open PySem.Moved renaming trans->nJ
open PySem.Builtin.Frozenset renaming updateFrom->tI,newClass->tK,sizeOf->uk,slot0->uo
open PySem.PassesOwn renaming never->qR
open PySem.Txt renaming mul->jD
open PySem.SeqAt.RcNeAt renaming lists_lengths->tJ,tuples->uS,lists->uW
open PySem.EqNone renaming eq_none_none->tL,eq_none_bool->tN,eq_bool_none->tP,ne_none_none->tS,ne_none_bool->tT,ne_bool_none->tU,eq_none_int->tY,eq_none_str->tZ,eq_int_none->t8,eq_str_none->ub,ne_none_int->ud,ne_none_str->ue,ne_int_none->uf,ne_str_none->uh
open PySem.EqMixed renaming eq_bool_str->tQ,eq_str_bool->tR,ne_bool_str->tV,ne_str_bool->tW,eq_int_str->ua,eq_str_int->uc,ne_int_str->ug,ne_str_int->ui
open PySem.Value renaming isStrOf->ra,isInt->rW
open PySem.SeqAt.RcAt renaming lists_lengths->uj,tuples->u0,lists->u5
open PySem.Pv renaming boot_tuple->rA,boot_list->rQ,boot_set->sf,boot_int->sr
open PySem.Builtin.Range renaming rangeSize->um
open PySem.W.KatTups renaming cons->rP,nil->sj
open PySem.pickOrder renaming go->rS
open PySem.Str renaming ofString->rT,length->sy
open List.Pairwise renaming sublist->uy,map->u4
open PySem.ItemsOf renaming nil->su
open PySem.Heap.IsSliceOf renaming new->uU
open PySem.W.WShape renaming has->sA
open List.Nodup renaming sublist->uX
open PySem.Within renaming cons->uY
open PyProof.Rows.IsTup renaming new->sC
open PySem.Heap.DictOf renaming new->u7
open PySem.W.Looks renaming ld->sG
open PySem.Value.type renaming inj->u9
def af:=@if_pos
def ai:=@if_neg
def aM:=@decide_eq_true
def aP:=@decide_eq_false
def ba:=@of_decide_eq_true
def au:=@absurd
def bU:=@decide_eq_true_eq
def aW:=@congrArg
def Eq.t:=@Eq.trans
def Iff.t:=@Iff.trans
def List.Perm.t:=@List.Perm.trans
def PySem.Heap.SameBut.t:=@PySem.Heap.SameBut.trans
def PySem.Moved.t:=@PySem.Moved.trans
abbrev dh:=List (PySem.Addr×PySem.Obj)
abbrev aD:=List PySem.Str
set_option Elab.async false
set_option linter.all false
namespace L5
open PySem PySem.W
noncomputable def z0(l:List Obj):Nat->List Addr->List Obj:=
 @sF Obj (λ_=>Nat->List Addr->List Obj) (λ_ _=>[])
  (λo _ b i as=>@sF Addr (λ_=>List Obj) [] (λa r _=>@n8 (λ_=>List Obj) (b (Nat.succ i) as) (o::b (Nat.succ i) r) (iH a i)) as) l
def QR(i:Nat)(as:List Addr):z0 [] i as=[]:=rfl
def U5(o:Obj)(l:List Obj)(i:Nat)(r:List Addr):z0 (o::l) i (i::r)=o::z0 l (i+1) r:=by show @n8 (λ_=>List Obj) _ _ (iH i i)=_;rw[rJ];rfl
def U6(o:Obj)(l:List Obj)(i a:Nat)(r:List Addr)(h:a≠i):z0 (o::l) i (a::r)=z0 l (i+1) (a::r):=by
 show @n8 (λ_=>List Obj) _ _ (iH a i)=_;have:iH a i=δ:=by
  cases q:iH a i with
  |false=>rfl
  |true=>exact au (Nat.eq_of_beq_eq_true q) h
 rw[this];rfl
theorem JK:∀(l:List Obj) (i:Nat) (as:List Addr),(z0 l i as).length=as.length->∀j (c:j<as.length),∃b,as[j]=i+b/\l[b]?=(z0 l i as)[j]?
 |[],i,as,h,j,c=>by rw[QR]at h;simp at h;omega
 |o::l,i,[],h,j,c=>by simp at c
 |o::l,i,a::r,h,j,c=>by
  by_cases q:a=i
  .subst q;rw[U5]at h ⊢;cases j with
   |zero=>exact#v[0,J,J]
   |succ j=>obtain⟨b,d,e⟩:=JK l (a+1) r (by simpa using h) j (by simpa using c);exact#v[b+1,by rw[List.getElem_cons_succ,d];exact ko a 1 b,by simpa using e]
  .rw[U6 _ _ _ _ _ q]at h ⊢;obtain⟨b,d,e⟩:=JK l (i+1) (a::r) h j c;exact#v[b+1,by rw[d];exact ko i 1 b,by simpa using e]
def live(o:Obj):Bool:=match o with|#v[_,_,.freed,_]=>δ|_=>γ
def U7{h:Heap}{as:List Addr}{K:Frag}(e:as=K.map (·.1))(x:(z0 h.objs.toList 0 as,K.all λp=>live p.2)=(K.map (·.2),γ)):K.In h:=by
 obtain⟨i,r⟩:=nD x;refine Frag.in_of e (l7 λj=>?_);rw[br,br];by_cases a:j<as.length
 .have q:(z0 h.objs.toList 0 as).length=as.length:=by rw[i,e,ah,ah]
  obtain⟨b,l,m⟩:=JK _ _ _ q j a;have f:j<K.length:=by rw[e,ah]at a;exact a
  rw[aI a,aI f,gu,gu,l,kI];have o:h.objs[b]?=U (K[j].2):=by rw[<-cp,m,i,br,aI f];rfl
  have lv:live K[j].2=γ:=bH.1 r _ (cG f);refine aW U ?_;unfold Heap.get?;rw[o];revert lv;cases K[j].2 with
  |mk c d data t=>cases data<;>intro lv<;>first|rfl|cases lv
 .rw[gf (by omega),gf (by rw[e,ah]at a;omega)];rfl
noncomputable def acW(K:Params->Frag) (as:List Addr) (e:∀P,as=(K P).map (·.1)):Hook:=
 #v[List Obj×Bool,λs=>(z0 s.heap.objs.toList 0 as,γ),λw=>((K w.params).map (·.2),(K w.params).all λp=>live p.2),InK K,λw s x=>U7 (e w.params) (by
  obtain⟨a,b⟩:=nD x;rw[a,<- b]),InK.keeps]
end L5
section
open PySem PySem.W PyProof.Rows
local macro_rules|`(tactic|o_head ($f:ident $k $as $e))=>`(tactic|o_head ((L5.acW $k $as (fun _=>by kernel_rfl)):W.Hook))
local macro_rules|`(command|#where)=>do
 let mut r:=#[]
 for (k,l) in [("o",List.range' 43 1629),("sts",[49,128,184,200,243,286,329,372,415,458,494,537,587,646,691,714,738,765,829,900,916,966,1016,1068,1157,1246,1255,1484,1567,1649]),("tree",[47,127,183,199,242,285,328,371,414,457,493,536,586,645,690,713,737,764,828,899,915,965,1015,1067,1156,1245,1254,1395,1480,1566,1648,1671]),("heap",[39,46,1672]),("view",[39])] do
  for n in l do
   let x:=Lean.mkIdent (.mkSimple s!"tw{((Lean.Name.mkSimple "hd").str s!"{k}_{n}").hash}")
   r:=r.push ((<-`(command|noncomputable def $x:ident:=0)).raw.rewriteBottomUp (·.setInfo .none))
 return Lean.mkNullNode r
noncomputable section
namespace PySem.W.Fast
def tw14744853185053245930:=0
#where
end PySem.W.Fast
end
def zvp:=PySem.Challenge.pw_tellworld_k24_whole_tests_hang_on_their
noncomputable def zvq:=view zvp [165]
local macro_rules|`(tactic|refine $t)=>do
 if t.raw[0].getId != ``PySem.W.holds_open||t.raw[1][0][3].getId.eraseMacroScopes== `zvq then Lean.Macro.throwUnsupported
 let n:=fun (i:Nat) (x:Lean.Term) (a:Array Lean.Syntax)=>a.set! i (a[i]!.setArg 3 x)
 `(tactic|refine $(Lean.TSyntax.mk (t.raw.setArg 1 (Lean.mkNullNode (n 0 (<-`(zvq)) (n 1 (<-`(zvp.boundNames)) (n 2 (<-`(fun s=>xlAt zvq [] s&&recOk [] s)) (n 3 (<-`(XL zvq [])) t.raw[1].getArgs))))))))
set_option maxRecDepth 100000 in
set_option maxHeartbeats 0 in
open_top hd for PySem.Challenge.rw_tellworld_k24_whole_tests_hang_on_their
end
section
local macro_rules|`(tactic|erw[$a,*]$[$l]?)=>do
 let b:=a.getElems.map fun x=>(⟨x.raw[1]⟩:Lean.Term)
 `(tactic|simp only[$[$b:term],*]$[$l]?)
local macro_rules (kind:=Lean.Parser.Tactic.tacticLet__)|s=>do
 let d:=s[2][0]
 if d.getKind != ``Lean.Parser.Term.letPatDecl then Lean.Macro.throwUnsupported
 let n:=fun k=>Lean.Syntax.node .none (`Lean.Parser.Tactic++k)
 let z:=fun a=>Lean.mkNullNode a
 let m:=fun t=>n `rcasesPatMed #[z #[t]]
 let p:=d[0].rewriteBottomUp fun t=>
  if t.isIdent then n `rcasesPat.one #[t] else
  if t.getKind== ``Lean.Parser.Term.hole then n `rcasesPat.ignore #[t[0]] else
  if t[0].getAtomVal∈["⟨","#v["] then n `rcasesPat.tuple #[Lean.mkAtom "⟨",z (t[1].getArgs.map fun x=>if x.isAtom then x else n `rcasesPatLo #[m x,z #[]]),Lean.mkAtom "⟩"] else t
 return n `obtain #[Lean.mkAtom "obtain",z #[m p],z d[2][0].getArgs,z #[Lean.mkAtom ":=",z #[d[4]]]]
local macro_rules (kind:=Lean.Elab.Tactic.Ext.ext)|s=>do let x:Lean.Term:=⟨s[1][0][0][0]⟩;`(tactic|cases $x:term)
local macro_rules|`(tactic|calc $t:term)=>`(tactic|refine $t)
local macro_rules|`(tactic|show $t:term)=>`(tactic|exact $t)
local macro_rules|`(~~~$s)=>`(($s).heap.objs.size)
local macro_rules|`(())=>`(by omega)
local macro_rules|`(#[])=>`(by decide)
local macro_rules|`(tactic|exists $t)=>`(tactic|simpa using $t)
local macro_rules (kind:=Lean.Parser.Tactic.delta)|s=>return .node .none ``Lean.Parser.Tactic.unfold (s.getArgs.set! 0 (Lean.mkAtom "unfold"))
local macro_rules|`(command|#print $i:ident)=>if i.getId== `h then `(command|set_option tactic.hygienic true) else `(command|set_option tactic.hygienic false)
#print f
set_option maxRecDepth 100000
namespace L2
open PySem PySem.Spec PyProof.Rows
abbrev ef:=Sum Int Str
def GT:ef->aa->Bool
 |.inl k,v=>rW k v
 |.inr x,v=>ra x v
def keyH(w:aR):ef->Int
 |.inl k=>hashInt k
 |.inr x=>hashStr w x
def wC:∀{k:ef} {v:aa},GT k v=γ->(∃i t,k=Sum.inl i/\v=Value.int i t)\/(∃x t,k=Sum.inr x/\v=Value.str x t)
 |.inl i,v,h=>by let#v[t,e]:=Value.isInt_shape (k:=i) (v:=v) h;show .inl #v[i,t,J,e]
 |.inr x,v,h=>by let#v[t,e]:=Value.isStrOf_shape (x:=x) (v:=v) h;show .inr #v[x,t,J,e]
def Py(i:Int)(t:Tok):GT (.inl i) (.int i t)=γ:=by simp[GT,rW]
def Pz(x:Str)(t:Tok):GT (.inr x) (.str x t)=γ:=by simp[GT,ra]
def YW(a b:Int):decide ((Sum.inl a:ef)=Sum.inl b)=(a==b):=by
 by_cases e:a=b
 .subst e;simp
 .have h:¬(Sum.inl a:ef)=Sum.inl b:=λq=>e (Sum.inl.inj q);rw[aP h];show(beq_eq_false_iff_ne.2 e).symm
def YX(a b:Str):decide ((Sum.inr a:ef)=Sum.inr b)=decide (a=b):=by
 by_cases e:a=b
 .subst e;simp
 .have h:¬(Sum.inr a:ef)=Sum.inr b:=λq=>e (kM q);rw[aP h,aP e]
#print "Y Int Str l r;Z Str Int r l" in def Yϑ0(a:ϑ1)(b:ϑ2):decide ((Sum.inϑ3 a:ef)=Sum.inϑ4 b)=δ:=aP (λq=>nomatch q)
def vB(prog:bj)(w:aR):rb prog w ef where
 is:=GT
 hash:=keyH w
 inj:=λv a b ha d=>by
  rcases wC ha with ⟨i,t,rfl,rfl⟩|⟨x,t,rfl,rfl⟩
  .rcases wC d with ⟨j,u,rfl,e⟩|⟨y,u,rfl,e⟩
   .injection e with c _;rw[c]
   .show nomatch e
  .rcases wC d with ⟨j,u,rfl,e⟩|⟨y,u,rfl,e⟩
   .show nomatch e
   .injection e with c _;rw[c]
 byValue:=λk v h=>by rcases wC h with ⟨i,t,rfl,rfl⟩|⟨x,t,rfl,rfl⟩<;>rfl
 pyHash:=λhv h=>by
  rcases wC hv with ⟨i,t,rfl,rfl⟩|⟨x,t,rfl,rfl⟩
  .show wpAny_pyHash_int h
  .show wpAny_pyHash_str h
 eqBool:=λf hv h=>by
  rcases wC f with ⟨i,t,rfl,rfl⟩|⟨x,t,rfl,rfl⟩
  .rcases wC hv with ⟨j,u,rfl,rfl⟩|⟨y,u,rfl,rfl⟩
   .rw[YW]at h;show wpAny_eqBool_int h
   .rw[YY]at h;show pV i t y u _ _ _ _ h
  .rcases wC hv with ⟨j,u,rfl,rfl⟩|⟨y,u,rfl,rfl⟩
   .rw[YZ]at h;show pW x t j u _ _ _ _ h
   .rw[YX]at h;show wpAny_eqBool_str h
 «strs»:=λk x t v h=>by
  rcases wC h with ⟨i,u,rfl,e⟩|⟨y,u,rfl,e⟩
  .show nomatch e
  .injection e with c _;subst c;ext v<;>rfl
#print "Y i Int l int y;Z x Str r str z" in def Kϑ0(prog:bj)(w:aR)(ϑ1:ϑ2)(t:Tok):(vB prog w).is (.inϑ3 ϑ1) (.ϑ4 ϑ1 t)=γ:=Pϑ5 ϑ1 t
inductive V where
 |I|bl (b:Bool)|int (i:Int)|str (x:Str)|Y (b:Array UInt8)|flt (b:UInt64)|ref (a:Addr)|ty (n:String)
 deriving DecidableEq
abbrev bC:=List V
def d?:V->aa->Prop
 |.I,u=>u=Value.none
 |.bl b,u=>u=Value.bool b
 |.int i,u=>∃t,u=Value.int i t
 |.str x,u=>∃t,u=Value.str x t
 |.Y b,u=>∃t,u=Value.bytes b t
 |.flt b,u=>∃t,u=Value.float b t
 |.ref a,u=>u=Value.ref a
 |.ty n,u=>u=Value.type n
abbrev df:bC->List aa->Prop:=gR d?
theorem df.length(r:df xs a):xs.length=a.length:=mR r
theorem df.get:∀{xs:bC} {a:List aa} {i:Nat} {x:V},df xs a->xs[i]?=U x->∃u,a[i]?=U u/\d? x u
 |_,_,_,_,.nil,e=>by simp at e
 |_,_,0,_,.cons r _,e=>by simp at e;subst e;show#v[_,J,r]
 |_,_,i+1,x,.cons _ t,e=>by let#v[u,b,c]:=df.get (i:=i) (x:=x) t (by exists e);show#v[u,by simpa using b,c]
theorem df.set(r:d? x u):∀{b:bC} {a:List aa} (i:Nat),df b a->df (b.set i x) (a.set i u)
 |_,_,_,.nil=>.nil
 |_,_,0,.cons _ t=>.cons r t
 |_,_,i+1,.cons q t=>.cons q (df.set r i t)
theorem df.append:∀{c d:bC} {a b:List aa},df c a->df d b->df (c++d) (a++b)
 |_,_,_,_,.nil,s=>s
 |_,_,_,_,.cons r t,s=>.cons r (df.append t s)
theorem df.take:∀{xs:bC} {a:List aa} (n:Nat),df xs a->df (xs.take n) (a.take n)
 |_,_,0,_=>.nil
 |_,_,_+1,.nil=>.nil
 |_,_,n+1,.cons r t=>.cons r (df.take n t)
theorem df.drop:∀{xs:bC} {a:List aa} (n:Nat),df xs a->df (xs.drop n) (a.drop n)
 |_,_,0,r=>r
 |_,_,_+1,.nil=>.nil
 |_,_,n+1,.cons _ t=>df.drop n t
def Cp:Option V->Option aa->Prop
 |some v,U u=>d? v u
 |none,Z=>True
 |_,_=>False
def KV{a:Type}:List (a×V)->List (a×aa)->Prop:=gR λ(p:a×V) (q:a×aa)=>p.1=q.1/\d? p.2 q.2
def kV:ef->V
 |.inl i=>.int i
 |.inr x=>.str x
inductive HO where
 |ax (xs:bC)
 |bx (xs:bC)
 |dK (kvs:List (ef×V))|dT (kvs:List (List ef×V))
 |set (S:Int->Bool) (n:Nat)
 |l' (C dx:Addr) (fs:List (Str×V))
 |gy (x:Addr)
 |xd (fs:List (Str×V))
 |met (f x:Addr)
 |rng (lo hi:Int)
 |k4 (o:Obj) (u:HO)
 |tbl (ps:Array aa)
 |ext (φ:Heap->Prop)
abbrev Hp:=Addr->Option HO
def el(H:Hp)(a:Addr)(o:HO):Hp:=λb=>if b=a then U o else H b
def vp:el H a o a=U o:=by delta el;rw[af J]
def vt(h:b≠a):el H a o b=H b:=by delta el;rw[ai h]
def acY{H:Hp}{a b:Addr}{o u:HO}(h:H a=U o)(c:H b=U u)(d:o≠u):a≠b:=by intro e;subst e;rw[h]at c;show d (cZ c)
def xZ{H:Hp}{a b:Addr}{o:HO}(h:H a=U o)(c:H b=Z):a≠b:=by intro e;subst e;rw[h]at c;ext c
section
variable(P:bj)(w:aR)
def er(H:Hp)(h:Heap)(a:Addr):HO->Prop
 |.ax c=>c.length<=aS/\∃(b:List aa) (n:Nat),df c b/\h.get? a=U { cls:=.type "list", data:=.seq b.toArray n }
 |.bx c=>c.length<=aS/\∃b:List aa,df c b/\dS h a b.toArray/\∀o,h.get? a=U o->o.dict=Z
 |.dK kvs=>kvs.length<=aS/\(a==c6)=δ/\∃m,KV kvs m/\h.DictOf (vB P w) a m
 |.dT kvs=>kvs.length<=aS/\(a==c6)=δ/\∃c:List (List ef×Addr×aa),
   gR (λ(p:List ef×V) (q:List ef×Addr×aa)=>p.1=q.1/\H q.2.1=U (.bx (p.1.map kV))/\d? p.2 q.2.2) kvs c/\
   ∃o i r,h.get? a=U o/\o.ExactDict/\o.data=.dict i r/\i.toList=c.map (entryOfKey (tupleKind (vB P w)))/\(c.map (·.1)).Nodup
 |.set S n=>h.SetOf (intKind P w) a S n
 |.l' C d fs=>H d=U (.gy a)/\fs.length<=1000/\d≠a/\h.get? a=U (fD C d)/\
   ∃mA,h.Ns1 d mA/\(∀f,Cp (fs.lookup f) (mA f))/\m3 mA (fs.map (·.1))
 |.gy _=>∃o,h.get? a=U o
 |.xd fs=>∃mA,h.Ns1 a mA/\∀f,Cp (fs.lookup f) (mA f)
 |.rng lo y=>∃t u v,h.get? a=U { cls:=.type "range", data:=.fields #[.int lo t,.int y u,.int 1 v] }
 |.k4 o u=>h.get? a=U o/\er H h a u
 |.tbl z=>h.get? a=U { cls:=.none,data:=.fields z }
 |.met f x=>h.get? a=U (nE (.ref f) (.ref x))
 |.ext e=>e h/\(∃o,h.get? a=U o)/\∀j l:Heap,e j->(∀o,j.get? a=U o->l.get? a=U o)->e l
def q?(H:Hp)(h:Heap):Prop:=∀a o,H a=U o->er P w H h a o
end
section
variable{P:bj}{w:aR}{H H':Hp}{h h':Heap}{a:Addr}{o:HO}
theorem er.lt(x:er P w H h a o):a<h.objs.size:=by
 cases o with
 |ax b=>let#v[_,_,_,_,e]:=x;show aQ e
 |bx b=>let#v[_,_,_,p,_]:=x;show p.lt
 |dK kvs=>let#v[_,_,_,_,o,_,_,e,_]:=x;show aQ e
 |dT kvs=>let#v[_,_,_,_,o,_,_,e,_]:=x;show aQ e
 |set S n=>let#v[o,_,_,_,e,_]:=x;show aQ e
 |l' C c fs=>let#v[_,_,_,e,_]:=x;show aQ e
 |gy y=>let#v[_,e]:=x;show aQ e
 |xd fs=>let#v[_,#v[_,_,_,e,_],_]:=x;show aQ e
 |rng lo d=>let#v[_,_,_,e]:=x;show aQ e
 |k4 i u=>let#v[e,_]:=x;show aQ e
 |tbl j=>show aQ (show h.get? a=U _ from x)
 |met f y=>show aQ (show h.get? a=U _ from x)
 |ext l=>let#v[_,#v[_,e],_]:=x;show aQ e
theorem Paired.mapP{e i:Type}{F G:e->i->Prop}:∀{c:List e} {d:List i},gR F c d->(∀a b,F a b->G a b)->gR G c d
 |_,_,.nil,_=>.nil
 |_,_,.cons r t,f=>.cons (f _ _ r) (Paired.mapP t f)
def er.v?(x:er P w H h a o)(k:∀b u,(b=a\/H b=U (.gy a))->h.get? b=U u->h'.get? b=U u)
  (G:∀b,H b=U (.gy a)->H' b=U (.gy a)) (I:∀b xs,H b=U (.bx xs)->H' b=U (.bx xs)):er P w H' h' a o:=by
 induction o with
 |ax xs=>let#v[z,m,n,r,e]:=x;show#v[z,m,n,r,k _ _ (.inl J) e]
 |bx xs=>let#v[z,m,r,#v[i,e,c],f]:=x;show#v[z,m,r,#v[i,k _ _ (.inl J) e,c],λR B=>by rw[k _ _ (.inl J) e]at B;ext B;show f _ e]
 |dK kvs=>let#v[z,y,N,r,i,l,j,e,c]:=x;show#v[z,y,N,r,i,l,j,k _ _ (.inl J) e,c]
 |dT kvs=>let#v[z,y,xs,r,i,l,j,e,c]:=x;show#v[z,y,xs,Paired.mapP r λp q z=>#v[z.1,I _ _ z.2.1,z.2.2],i,l,j,k _ _ (.inl J) e,c]
 |set S n=>let#v[i,l,j,t,e,c]:=x;show#v[i,l,j,t,k _ _ (.inl J) e,c]
 |l' C O fs=>let#v[d,z,ne,e,mA,#v[A,l,j,F,c],r]:=x;show#v[G _ d,z,ne,k _ _ (.inl J) e,mA,#v[A,l,j,k _ _ (.inr d) F,c],r]
 |gy y=>let#v[i,e]:=x;show#v[i,k _ _ (.inl J) e]
 |xd fs=>let#v[mA,#v[A,l,j,e,c],r]:=x;show#v[mA,#v[A,l,j,k _ _ (.inl J) e,c],r]
 |rng lo Q=>let#v[t,u,v,e]:=x;show#v[t,u,v,k _ _ (.inl J) e]
 |k4 i u M=>let#v[e,q]:=x;show#v[k _ _ (.inl J) e,M q]
 |tbl E=>have e:h.get? a=U { cls:=.none,data:=.fields E }:=x;change h'.get? a=U { cls:=.none,data:=.fields E };show k a _ (.inl J) e
 |met f y=>have e:h.get? a=U (nE (.ref f) (.ref y)):=x;change h'.get? a=U (nE (.ref f) (.ref y));show k a _ (.inl J) e
 |ext T=>let#v[p,#v[o,e],st]:=x;show#v[st _ _ p λo q=>k _ _ (.inl J) q,#v[o,k _ _ (.inl J) e],st]
theorem q?.lt(x:q? P w H h)(e:H a=U o):a<h.objs.size:=(x a o e).lt
def q?.fresh(x:q? P w H h)(e:h.objs.size<=a):H a=Z:=by
 cases q:H a with
 |none=>rfl
 |some u=>show au (cF (x.lt q) e) (eE _)
def q?.gp(x:q? P w H h)(k:∀b u,h.get? b=U u->h'.get? b=U u):q? P w H h':=λa o e=>
 (x a o e).v? (λb u z q=>k b u q) (λz q=>q) λz z q=>q
def q?.laid(x:q? P w H h)(k:∀b u,h.get? b=U u->h'.get? b=U u)(i:h.objs.size<=a)(new:er P w (el H a o) h' a o):q? P w (el H a o) h':=λb u e=>by
 have f:=x.fresh i;by_cases d:b=a
 .subst d;rw[vp]at e;ext e;show new
 .rw[vt d]at e;show(x b u e).v? (λc v z q=>k c v q) (λc q=>by rw[vt (xZ q f)];show q) λc j q=>by rw[vt (xZ q f)];show q
end
def Rd(H:Hp)(a:Addr)(u:HO):Prop:=H a=U u\/∃o,H a=U (.k4 o u)
def Rd.ok(r:Rd H a u)(x:q? P w H h):er P w H h a u:=by
 rcases r with r|⟨o,r⟩
 .show x a u r
 .let#v[_,q]:=x a _ r;show q
def Mut:Option HO->Prop
 |some (.ax _)=>True
 |some (.dK _)=>True
 |some (.dT _)=>True
 |some (.set _ _)=>True
 |some (.l' _ _ _)=>True
 |some (.ext _)=>True
 |_=>False
section
variable{P:bj}{w:aR}{H:Hp}{h h':Heap}{x e:Addr}{o':HO}
def q?.xp(ok:q? P w H h)(f:Mut (H x))(j:e=x\/H e=U (.gy x))(k:∀b u,b≠e->h.get? b=U u->h'.get? b=U u)(heo:∃u,h'.get? e=U u)
  (new:er P w (el H x o') h' x o'):q? P w (el H x o') h':=λb u q=>by
 have nown:∀c y,H c=U (.gy y)->c≠x:=λc y r z=>by subst z;rw[r]at f;show f
 have ntup:∀c i,H c=U (.bx i)->c≠x:=λc i r z=>by subst z;rw[r]at f;show f
 by_cases a:b=x
 .subst a;rw[vp]at q;ext q;show new
 .rw[vt a]at q;by_cases hbe:b=e
  .have l:H b=U (.gy x):=by
    rcases j with z|z
    .show au (hbe.t z) a
    .rw[hbe];show z
   rw[q]at l;ext l;let#v[v,m]:=heo;show#v[v,by rw[hbe];show m]
  .refine(ok b u q).v? (λc v d r=>k c v ?_ r) (λc r=>by rw[vt (nown c b r)];show r) λc i r=>by rw[vt (ntup c i r)];show r
   rcases d with rfl|d
   .show hbe
   .rintro rfl;rcases j with z|z
    .show nown c b d z
    .rw[d]at z;ext z;show a J
end
structure Un(fs ex:List Addr)(H H':Hp)(h h':Heap):Prop where
 keep:∀b o,h.get? b=U o->H b=Z->b∉fs->b∉ex->h'.get? b=U o
 slot:∀b o,h.get? b=U o->H b=Z->b∈fs->b∉ex->∃sl,h'.get? b=U { o with slots:=sl }
 free:∀b o,h.get? b=U o->H b=Z->b∉ex->H' b=Z
 there:∀b o,h.get? b=U o->b∉ex->∃o',h'.get? b=U o'
 n5:∀b xs,H b=U (.bx xs)->H' b=U (.bx xs)
 tj:∀b o u,H b=U (.k4 o u)->H' b=U (.k4 o u)
 u?:∀b ps,H b=U (.tbl ps)->∃more,H' b=U (.tbl (ps++more))
section
variable{fs fs' ex ex':List Addr}{H H1 H2:Hp}{h h1 h2 h':Heap}{a x e:Addr}{o:HO}
def Un.any(u:Un fs ex H H1 h h1)(q:h.get? b=U ob)(n:H b=Z)(d:b∉ex):∃sl,h1.get? b=U { ob with slots:=sl }:=by
 by_cases c:b∈fs
 .show u.slot b ob q n c d
 .show#v[ob.slots,u.keep b ob q n c d]
def Un.gp(k:∀b u,h.get? b=U u->h'.get? b=U u):Un fs ex H H h h':=
 #v[λb c q z z z=>k b c q,λb c q z z z=>#v[c.slots,k b c q],λz z z n z=>n,λb c q z=>#v[c,k b c q],λz z q=>q,λz z z q=>q,λz d q=>#v[[].toArray,by rw[q];simp]]
def Un.refl:Un fs ex H H h h:=Un.gp λz z q=>q
def Un.laid(k:∀b u,h.get? b=U u->h'.get? b=U u)(c:h.objs.size<=a)(hn:H a=Z):Un fs ex H (el H a o) h h' where
 keep:=λb u q z z z=>k b u q
 slot:=λb u q z z z=>#v[u.slots,k b u q]
 free:=λb u q n z=>by rw[vt (bf (cF (aQ q) c))];show n
 there:=λb u q z=>#v[u,k b u q]
 n5:=λb xs q=>by rw[vt (xZ q hn)];show q
 tj:=λb u xs q=>by rw[vt (xZ q hn)];show q
 u?:=λb ps q=>#v[[].toArray,by rw[vt (xZ q hn),q];simp]
def Un.xp(c:Mut (H x))(j:e=x\/H e=U (.gy x))(k:∀b u,b≠e->h.get? b=U u->h'.get? b=U u)(heo:∃u,h'.get? e=U u):Un fs ex H (el H x o) h h':=by
 have i:∀b,H b=Z->b≠x:=λb n z=>by subst z;rw[n]at c;show c
 have f:∀b,H b=Z->b≠e:=λb n z=>by
  subst z;rcases j with r|r
  .show i b n r
  .rw[n]at r;ext r
 have d:∀b u,H b=U u->¬Mut (U u)->b≠x:=λb u q l z=>by subst z;rw[q]at c;show l c
 refine#v[λb u q n w w=>k b u (f b n) q,λb u q n w w=>#v[u.slots,k b u (f b n) q],λb u q n w=>by rw[vt (i b n)];show n,λb u q w=>?_,
  λb m q=>by rw[vt (d b _ q λz=>z)];show q,λb u m q=>by rw[vt (d b _ q λz=>z)];show q,λb p q=>#v[[].toArray,by rw[vt (d b _ q λz=>z),q];simp]]
 by_cases hbe:b=e
 .subst hbe;show heo
 .show#v[u,k b u hbe q]
end
def trk(h:Heap)(H:Hp):List Addr:=(bh h.objs.size).filter λa=>(H a).isSome
def JL(h:Heap)(H:Hp):Heap:=W.hideAll h (trk h H)
def PB(h:Heap)(H:Hp):(JL h H).objs.size=h.objs.size:=W.hideAll_size _ _
def QS{h:Heap}(e:h.get? b=U o)(n:H b=Z):(JL h H).get? b=U o:=
 W.hideAll_get _ e λa=>by have q:(H b).isSome=γ:=(bE.1 a).2;rw[n]at q;simp at q
def U8(e:(JL h H).get? b=U o):h.get? b=U o/\H b=Z:=by
 have a:h.get? b=U o:=W.of_hideAll (trk h H) e;calc#v[a,?_];cases q:H b with
 |none=>rfl
 |some x=>have c:b∈trk h H:=bE.2 #v[bY.2 (aQ a),by simp[q]];have z:(JL h H).get? b=Z:=W.hideAll_none (trk h H) c;rw[z]at e;ext e
def U9(g h:Heap)(L:Addr):dh:=(bh h.objs.size).filterMap λa=>if a=L\/(g.get? a).isSome=γ then Z else (h.get? a).map λo=>(a,o)
def eu(g h:Heap)(L d:Addr):dh:=(U9 g h L).filter λp=>decide (p.1≠d)
structure Mod(K:ay)(mg:Str->Option aa)(a7:Heap):Prop where
 kin:K.In a7
 Ai:a7.Ns bR mg
 blt:∃mb,a7.Ns builtinsNs mb/\∀x:Str,x≠"__name__" -> mb x=eF x
 nolimit:a7.NoLimit
structure Cx where
 prog:bj
 w:aR
 K:ay
 mg:Str->Option aa
 a7:Heap
 A:bp
 N:aD
 s₀:aq
 H₀:Hp
 a8:Env
 b8:List Env
 stack:List Env
 ex:List Addr
 fn:Str->Bool
 k3:Bool
 pn:dh
 xe:aa->aq->Prop
def χ(l:List Env):List Addr:=l.filterMap (·.frame)
abbrev Cx.fs(X:Cx):List Addr:=χ X.b8
def Vis(a:dg)(x:Str):Prop:=a.names.lookup x=U .local\/a.names.lookup x=U .cell\/a.names.lookup x=U .free
def Loc(a:dg)(x:Str):Prop:=a.names.lookup x=U .local\/a.names.lookup x=U .cell
def Look(a8:Env)(h:Heap)(m:Str->Option aa)(x:Str)(u:aa):Prop:=
 (a8.kindOf x=U .local/\m x=U u)\/((a8.kindOf x=U .cell\/a8.kindOf x=U .free)/\∃c,a8.cells.lookup x=U c/\h.IsCell c (U u))
structure Cx.Ok(X:Cx):Prop where
 Dv:Mod X.K X.mg X.a7
 kind:X.a8.scope.kind=.function
 Ai:X.a8.globals=bR
 blt:X.a8.builtins=builtinsNs
 above:X.s₀.heap.objs.size<=X.a8.locals
 inj:∀x y c,X.a8.cells.lookup x=U c->X.a8.cells.lookup y=U c->x=y
 has:∀x,(X.a8.kindOf x=U .cell\/X.a8.kindOf x=U .free)->∃c,X.a8.cells.lookup x=U c
 cab:∀x c,X.fn x=γ->X.a8.cells.lookup x=U c->X.s₀.heap.objs.size<=c
 hd:X.k3=γ->X.A.handled=Z
 frames:X.A.frames=U X.stack
 stk:X.stack=X.b8\/(X.stack=X.a8::X.b8/\X.a8.frame=U X.a8.locals)
 exf:∀b∈X.ex,b≠X.a8.locals/\∀x c,X.a8.cells.lookup x=U c->c≠b
 bs:∀b o,X.a7.get? b=U o->X.s₀.heap.get? b=U o/\X.H₀ b=Z
 bsz:X.a7.objs.size<=X.s₀.heap.objs.size
 Xi:∀b o,X.a7.get? b=U o->b∉X.ex
 XC:∀b∈X.ex,b∉X.fs
 ts:X.s₀.heap.FunFrames X.a7 X.b8
 frf:∀b∈X.fs,X.H₀ b=Z
structure b9(X:Cx)(pins:dh)(σ:List (Option V))(H:Hp)(s:aq):Prop where
 ok:X.Ok
 os:s.os=X.s₀.os
 jl:fF s.gens
 a7:Un X.fs X.ex X.H₀ H X.s₀.heap s.heap
 B':∃m,s.heap.Ns X.a8.locals m/\∀(i:Nat) (x:Str) (v:V),X.N[i]?=U x->σ[i]?=U (U v)->Vis X.a8.scope x->∃u,d? v u/\Look X.a8 s.heap m x u
 cell:∀x c,X.a8.cells.lookup x=U c->∃v,s.heap.IsCell c v
 free:H X.a8.locals=Z
 j?:∀x c,X.a8.cells.lookup x=U c->H c=Z
 x4:∀p∈X.pn++pins,s.heap.get? p.1=U p.2/\H p.1=Z/\p.1≠X.a8.locals/\p.1∉X.fs/\∀v,p.2.data≠.cell v
 e8:q? X.prog X.w H s.heap
 len:σ.length=X.N.length
section
variable{X:Cx}{pins:dh}{σ:List (Option V)}{H H':Hp}{s:aq}{h':Heap}
def Cx.Ok.nofr(ok:X.Ok)(e:X.a7.get? b=U o):b∉X.fs:=λa=>by have:=(ok.ts.mem a).1;rw[e]at this;ext this
theorem b9.bs(I:b9 X pins σ H s):∀b o,X.a7.get? b=U o->s.heap.get? b=U o/\H b=Z:=λb o e=>
 #v[I.a7.keep b o (I.ok.bs b o e).1 (I.ok.bs b o e).2 (I.ok.nofr e) (I.ok.Xi b o e),I.a7.free b o (I.ok.bs b o e).1 (I.ok.bs b o e).2 (I.ok.Xi b o e)]
def b9.bk(I:b9 X pins σ H s):∀b o,X.a7.get? b=U o->s.heap.get? b=U o:=λb o e=>(I.bs b o e).1
theorem b9.Dv(I:b9 X pins σ H s):Mod X.K X.mg X.a7:=I.ok.Dv
def b9.n?(I:b9 X pins σ H s):X.K.In s.heap:=I.ok.Dv.kin.keeps I.bk
def b9.fr(I:b9 X pins σ H s):∃m,Fr X.a7 X.a8.locals s.heap m:=
 let #v[m,a,_]:=I.B'
 #v[m,a,I.bk,bW I.ok.bsz I.ok.above]
theorem b9.lt(I:b9 X pins σ H s):X.a8.locals< ~~~s:=let #v[_,a,_]:=I.B';a.lt
def b9.sz(I:b9 X pins σ H s):X.s₀.heap.objs.size<= ~~~s:=bW I.ok.above (gG I.lt)
def b9.nofs(I:b9 X pins σ H s)(h: ~~~s<=a):a∉X.fs:=λb=>by let#v[_,o,c,_]:=I.ok.ts.mem b;show au (cF (aQ c) (bW I.sz h)) (eE _)
def b9.cne(I:b9 X pins σ H s):∀x c,X.a8.cells.lookup x=U c->c≠X.a8.locals:=λx c e z=>by let#v[v,o,d,hd]:=I.cell x c e;let#v[m,#v[i,h,f,b,a,_],_]:=I.B';rw[z,b]at d;ext d;rw[a]at hd;ext hd
theorem b9.ts(I:b9 X pins σ H s):s.heap.FunFrames X.a7 X.b8:=by
 have all:∀(l:List Env),(∀b∈χ l,b∈X.fs)->X.s₀.heap.FunFrames X.a7 l->s.heap.FunFrames X.a7 l:=by
  intro l
  induction l with
  |nil=>intro _ _;trivial
  |cons a8 r p=>intro d h;let#v[f,#v[L,o,c,i,j,hd],m]:=h;have hL:L∈X.fs:=d L (by delta χ;rw[dF,c];show aX);let#v[q,e]:=I.a7.slot L o j (I.ok.frf L hL) hL λz=>I.ok.XC L z hL;show#v[f,#v[L,_,c,i,e,hd],p (λb a=>d b (by delta χ;rw[dF,c];show bg _ a)) m]
 show all X.b8 (λw a=>a) I.ok.ts
theorem b9.stack(I:b9 X pins σ H s):s.heap.FunFrames X.a7 X.stack:=by
 rcases I.ok.stk with e|⟨e,a⟩
 .rw[e];show I.ts
 .rw[e];let#v[m,b,_]:=I.B';calc .cons (by rw[I.ok.kind];decide) a b ?_ I.ts;show Heap.get?_none_of_le (bW I.ok.bsz I.ok.above)
def b9.R0(I:b9 X pins σ H s):∀b∈χ X.stack,b∈X.a8.locals::X.fs:=λb a=>by
 rcases I.ok.stk with e|⟨e,c⟩
 .rw[e]at a;show bg _ a
 .rw[e]at a;delta χ at a;rw[dF,c]at a;show a
def b9.U'(I:b9 X pins σ H s):∀b∈χ X.stack,H b=Z:=λb a=>by
 rcases aJ.1 (I.R0 b a)with e|a
 .rw[e];show I.free
 .let#v[_,o,c,_]:=I.ok.ts.mem a;show I.a7.free b o c (I.ok.frf b a) λz=>I.ok.XC b z a
def b9.step{g':Array GenState}{t':Nat}{d':Drawn}{ch:List Addr}(I:b9 X pins σ H s)
  (hch:∀b∈ch,(b∈X.ex\/X.s₀.heap.objs.size<=b)/\b≠X.a8.locals/\(∀x c,X.a8.cells.lookup x=U c->c≠b)/\∀p∈X.pn++pins,p.1≠b)
  (keep:∀b o,b≠X.a8.locals->b∉X.fs->b∉ch->s.heap.get? b=U o->H b=Z->h'.get? b=U o)
  (slot:∀b o,b≠X.a8.locals->b∈X.fs->b∉ch->s.heap.get? b=U o->H b=Z->∃sl,h'.get? b=U { o with slots:=sl }) (free:∀b o,b∉ch->s.heap.get? b=U o->H b=Z->H' b=Z)
  (there:∀b o,b∉ch->s.heap.get? b=U o->∃y,h'.get? b=U y)
  (n5:∀b xs,H b=U (.bx xs)->H' b=U (.bx xs)) (tj:∀b o u,H b=U (.k4 o u)->H' b=U (.k4 o u)) (u?:∀b ps,H b=U (.tbl ps)->∃more,H' b=U (.tbl (ps++more)))
  (ns:∀m,s.heap.Ns X.a8.locals m->h'.Ns X.a8.locals m) (e8:q? X.prog X.w H' h') (G:fF g'):
  b9 X pins σ H' { s with heap:=h',gens:=g',drawn:=d',toks:=t' }:=by
 have neL:∀b o,X.s₀.heap.get? b=U o->b≠X.a8.locals:=λb o e=>bf (cF (aQ e) I.ok.above);have neC:∀b o,X.s₀.heap.get? b=U o->b∉X.ex->b∉ch:=λb o e a h=>by
  rcases(hch b h).1 with z|z
  .show a z
  .show au (cF (aQ e) z) (eE _)
 have cellK:∀x c,X.a8.cells.lookup x=U c->∀v,s.heap.IsCell c v->h'.IsCell c v:=λx c e v #v[o,j,hd]=>by
  have nch:c∉ch:=λz=>(hch c z).2.2.1 x c e J;by_cases B:c∈X.fs
  .let#v[sl,q]:=slot c o (I.cne x c e) B nch j (I.j? x c e);show#v[_,q,hd]
  .show#v[o,keep c o (I.cne x c e) B nch j (I.j? x c e),hd]
 refine#v[I.ok,I.os,G,#v[λb o e n h a=>?_,λb o e n h a=>?_,λb o e n a=>?_,λb o e a=>?_,λb xs e=>n5 b xs (I.a7.n5 b xs e),λb o xs e=>tj b o xs (I.a7.tj b o xs e),λb ps e=>?_],?_,λx c e=>?_,?_,λx c e=>?_,λp C=>?_,e8,I.len]
 .show keep b o (neL b o e) h (neC b o e a) (I.a7.keep b o e n h a) (I.a7.free b o e n a)
 .let#v[sl,f]:=I.a7.slot b o e n h a;let#v[A,t]:=slot b _ (neL b o e) h (neC b o e a) f (I.a7.free b o e n a);show#v[A,t]
 .let#v[y,f]:=I.a7.there b o e a;show free b y (neC b o e a) f (I.a7.free b o e n a)
 .let#v[y,f]:=I.a7.there b o e a;show there b y (neC b o e a) f
 .let#v[N,f]:=I.a7.u? b ps e;let#v[O,t]:=u? b _ f;show#v[N++O,by rw[t,Array.append_assoc]]
 .let#v[m,hn,M]:=I.B';calc#v[m,ns m hn,λi x v f t F=>?_];let#v[u,r,l]:=M i x v f t F;calc#v[u,r,?_];rcases l with l|⟨k,c,e,z⟩
  .show .inl l
  .show .inr #v[k,c,e,cellK x c e _ z]
 .let#v[v,z]:=I.cell x c e;show#v[v,cellK x c e v z]
 .let#v[m,#v[o,_,_,j,_],_]:=I.B';show free _ o (λz=>(hch _ z).2.1 J) j I.free
 .let#v[v,o,j,hd]:=I.cell x c e;show free c o (λz=>(hch c z).2.2.1 x c e J) j (I.j? x c e)
 .let#v[e,n,ne,E,d]:=I.x4 p C;have nch:p.1∉ch:=λz=>(hch p.1 z).2.2.2 p C J;show#v[keep p.1 p.2 ne E nch e n,free p.1 p.2 nch e n,ne,E,d]
def b9.un(I:b9 X pins σ H s)(u:Un X.fs [] H H' s.heap h')(e8:q? X.prog X.w H' h'):b9 X pins σ H' { s with heap:=h',toks:=t' }:=by
 let#v[m,#v[o,es,ep,f,r],_]:=id I.B';let#v[sl,hL]:=u.any f I.free (by simp);show I.step (g':=s.gens) (d':=s.drawn) (ch:=[]) (λv z=>nomatch z) (λb o v d v e n=>u.keep b o e n d (by simp)) (λb o v d v e n=>u.slot b o e n d (by simp)) (λb o v e n=>u.free b o e n (by simp)) (λb o v e=>u.there b o e (by simp)) u.n5 u.tj u.u? (λp hm=>by
  let#v[q,es',c,a,h]:=hm;rw[f]at a;ext a;show#v[_,es',c,hL,h]) e8 I.jl
def b9.call(I:b9 X pins σ H s)(u:Un (χ X.stack) ch H H' s.heap h')(e8:q? X.prog X.w H' h')(j:fF g')
  (hch:∀b∈ch,(b∈X.ex\/X.s₀.heap.objs.size<=b)/\b≠X.a8.locals/\(∀x c,X.a8.cells.lookup x=U c->c≠b)/\∀p∈X.pn++pins,p.1≠b):
  b9 X pins σ H' { s with heap:=h',gens:=g',drawn:=d',toks:=t' }:=by
 let#v[m,#v[o,es,ep,h,r],_]:=id I.B';let#v[sl,hL]:=u.any h I.free λz=>(hch _ z).2.1 J;show I.step (ch:=ch) hch (λb o hL i a e n=>u.keep b o e n (λz=>(aJ.1 (I.R0 b z)).elim hL i) a) (λb o v v a e n=>u.any e n a) (λb o a e n=>u.free b o e n a) (λb o a e=>u.there b o e a) u.n5 u.tj u.u? (λq hm=>by
  let#v[t,es',f,d,l]:=hm;rw[h]at d;ext d;show#v[_,es',f,hL,l]) e8 j
def b9.ia(I:b9 X pins σ H s)(k:∀b o,b≠it->s.heap.get? b=U o->h'.get? b=U o)(hn:H it=Z)(hL:it≠X.a8.locals)
  (h1:it∈X.ex\/X.s₀.heap.objs.size<=it) (h2:∀x c,X.a8.cells.lookup x=U c->c≠it) (h3:∀p∈X.pn++pins,p.1≠it):b9 X pins σ H { s with heap:=h',toks:=t' }:=by
 have nit:∀b u,H b=U u->b≠it:=λb u e z=>by rw[z,hn]at e;ext e
 refine I.step (g':=s.gens) (d':=s.drawn) (ch:=[it]) (λb d=>?_) (λb o w w a e w=>k b o (λz=>a (by simp[z])) e) (λb o w w a e w=>#v[o.slots,k b o (λz=>a (by simp[z])) e]) (λw w w w n=>n)
  (λb o a e=>#v[o,k b o (λz=>a (by simp[z])) e]) (λw w e=>e) (λw w w e=>e) (λb ps e=>#v[[].toArray,by rw[e];simp]) (λm hm=>?_) (λb u e=>?_) I.jl
 .have e:b=it:=by exists d
  subst e;show#v[h1,hL,h2,h3]
 .let#v[o,es,ep,f,r]:=hm;show#v[o,es,ep,k _ o (cg hL) f,r]
 .calc(I.e8 b u e).v? (λc v a q=>k c v ?_ q) (λw q=>q) λw w q=>q;rcases a with z|z
  .rw[z];show nit b u e
  .show nit c _ z
def b9.w?(I:b9 X pins σ H s)(t:Nat):b9 X pins σ H { s with toks:=t }:=I.un (h':=s.heap) (t':=t) Un.refl I.e8
theorem b9.gp(I:b9 X pins σ H s)(k:∀b u,s.heap.get? b=U u->h'.get? b=U u):b9 X pins σ H { s with heap:=h',toks:=t' }:=I.un (Un.gp k) (I.e8.gp k)
theorem b9.laid(I:b9 X pins σ H s)(k:∀b u,s.heap.get? b=U u->h'.get? b=U u)(c: ~~~s<=a)(new:er X.prog X.w (el H a o) h' a o):
  b9 X pins σ (el H a o) { s with heap:=h',toks:=t' }:=I.un (Un.laid k c (I.e8.fresh c)) (I.e8.laid k c new)
theorem b9.xp(I:b9 X pins σ H s)(c:Mut (H x))(a:e=x\/H e=U (.gy x))(k:∀b u,b≠e->s.heap.get? b=U u->h'.get? b=U u)(heo:∃u,h'.get? e=U u)
  (new:er X.prog X.w (el H x o) h' x o):b9 X pins σ (el H x o) { s with heap:=h',toks:=d }:=I.un (Un.xp c a k heo) (I.e8.xp c a k heo new)
def b9.cx{a:List (Option V)}(I:b9 X pins σ H s)(f:a.length=σ.length)(w:∀(i:Nat) v,a[i]?=U (U v)->σ[i]?=U (U v)):b9 X pins a H s:=
 #v[I.ok,I.os,I.jl,I.a7,let #v[m,h,b]:=I.B';#v[m,h,λi x v c d e=>b i x v c (w i v d) e],I.cell,I.free,I.j?,I.x4,I.e8,f.t I.len]
def b9.T?(I:b9 X pins σ H s)(h:∀p∈a,s.heap.get? p.1=U p.2/\H p.1=Z/\p.1≠X.a8.locals/\p.1∉X.fs/\∀v,p.2.data≠.cell v):b9 X a σ H s:=
 #v[I.ok,I.os,I.jl,I.a7,I.B',I.cell,I.free,I.j?,λp b=>(bt.1 b).elim (λz=>I.x4 p (bw _ z)) (h p),I.e8,I.len]
def K0{N:aD}(hN:N.Nodup){i j:Nat}{x:Str}(a:N[i]?=U x)(b:N[j]?=U x):i=j:=by let#v[e,c]:=bZ.1 a;let#v[f,d]:=bZ.1 b;show(mm hN).1 (c.t d.symm)
def PD(I:b9 X pins σ H s)(hN:X.N.Nodup)(hi:X.N[i]?=U x)(t:Loc X.a8.scope x)(r:d? v u)
  (h:∀s',b9 X pins (σ.set i (U v)) H s'->(∃a,gH a s.heap s'.heap/\(a=X.a8.locals\/X.a8.cells.lookup x=U a))->Q Unit.unit s') (hf:X.fn x=γ\/X.a8.scope.names.lookup x=U .local:=by first|show .inl J|show .inr J|assumption):av M A (storeName X.a8 x u) Q E s:=by
 let#v[m,hn,hl]:=id I.B';have hcls:(X.a8.scope.kind==.class||(X.a8.scope.kind==.module&&X.a8.locals != X.a8.globals))=δ:=by rw[I.ok.kind];rfl
 have hiσ:i<σ.length:=by rw[I.len];show(bZ.1 hi).1
 have cne:=I.cne;have tracked:∀{a:Addr} {h':Heap},(∃o,s.heap.get? a=U o/\H a=Z)->gH a s.heap h'->q? X.prog X.w H h':=λ{a h'} ha hs b ob e=>by
  let#v[_,_,hfree]:=ha;calc(I.e8 b ob e).v? (λc R l q=>(hs.2 c ?_).t q) (λ_ q=>q) λ_ _ q=>q;rintro rfl;rcases l with rfl|l
  .rw[hfree]at e;ext e
  .rw[hfree]at l;ext l
 rcases t with C|C
 .calc wpAny_storeName_local C hn (λh' T hs=>?_) hcls;let#v[oL,_,_,hoL,_]:=id hn;refine h _ #v[I.ok,I.os,I.jl,#v[λb o e n F t=>?_,λb o e n F t=>?_,I.a7.free,λb o e t=>?_,I.a7.n5,I.a7.tj,I.a7.u?],#v[_,T,λj y v' f B S=>?_],λy c e=>?_,I.free,I.j?,λp W=>?_,tracked #v[oL,hoL,I.free] hs,by exists I.len] #v[_,hs,.inl J]
  .show(hs.2 b (bf (cF (aQ e) I.ok.above))).t (I.a7.keep b o e n F t)
  .let#v[sl,f]:=I.a7.slot b o e n F t;show#v[sl,(hs.2 b (bf (cF (aQ e) I.ok.above))).t f]
  .let#v[o',f]:=I.a7.there b o e t;show#v[o',(hs.2 b (bf (cF (aQ e) I.ok.above))).t f]
  .by_cases G:j=i
   .subst G;rw[hi]at f;ext f;rw[j7 hiσ]at B;ext B;show#v[u,r,.inl #v[C,by simp]]
   .rw[lL (cg G)]at B;let#v[u',r',q]:=hl j y v' f B S;calc#v[u',r',?_];rcases q with ⟨k,e⟩|⟨k,c,e,z⟩
    .calc .inl #v[k,?_];have:y≠x:=λe=>G (K0 hN f (e▸hi));simp[this,e]
    .show .inr #v[k,c,e,z.sameBut hs (cne y c e)]
  .let#v[R,z]:=I.cell y c e;show#v[R,z.sameBut hs (cne y c e)]
  .let#v[e,n,ne,Y,d]:=I.x4 p W;show#v[(hs.2 p.1 ne).t e,n,ne,Y,d]
 .have hfn:X.fn x=γ:=by
   rcases hf with z|z
   .show z
   .rw[z]at C;ext C
  let#v[c,l]:=I.ok.has x (.inl C);let#v[R,z]:=I.cell x c l;calc wpAny_storeName_cell I.ok.kind C l z (λh' O hs=>?_);let#v[oc,hoc,hocd]:=id z;refine h { s with heap:=h' } #v[I.ok,I.os,I.jl,#v[λb o e n F t=>?_,λb o e n F t=>?_,I.a7.free,λb o e t=>?_,I.a7.n5,I.a7.tj,I.a7.u?],#v[m,hn.sameBut hs (cg (cne x c l)),λj y v' f B S=>?_],λy P e=>?_,I.free,I.j?,λp W=>?_,tracked #v[oc,hoc,I.j? x c l] hs,by exists I.len] #v[c,hs,.inr l]
  .show(hs.2 b (bf (cF (aQ e) (I.ok.cab x c hfn l)))).t (I.a7.keep b o e n F t)
  .let#v[sl,f]:=I.a7.slot b o e n F t;show#v[sl,(hs.2 b (bf (cF (aQ e) (I.ok.cab x c hfn l)))).t f]
  .let#v[o',f]:=I.a7.there b o e t;show#v[o',(hs.2 b (bf (cF (aQ e) (I.ok.cab x c hfn l)))).t f]
  .by_cases G:j=i
   .subst G;rw[hi]at f;ext f;rw[j7 hiσ]at B;ext B;show#v[u,r,.inr #v[.inl C,c,l,O]]
   .rw[lL (cg G)]at B;let#v[u',r',q]:=hl j y v' f B S;calc#v[u',r',?_];rcases q with q|⟨k,P,e,z'⟩
    .show .inl q
    .calc .inr #v[k,P,e,z'.sameBut hs ?_];rintro rfl;show G (K0 hN f (I.ok.inj _ _ _ e l▸hi))
  .by_cases hcc:P=c
   .subst hcc;show#v[_,O]
   .let#v[w2,z2]:=I.cell y P e;show#v[w2,z2.sameBut hs hcc]
  .let#v[e,n,ne,Y,d]:=I.x4 p W;calc#v[(hs.2 p.1 ?_).t e,n,ne,Y,d];intro q;rw[q,hoc]at e;have q':oc=p.2:=cZ e;show d R (by rw[<-q'];show hocd)
def K1(I:b9 X pins σ H s)(hN:X.N.Nodup)(d:X.N[i]?=U x)(e:Loc X.a8.scope x)(r:d? v u)
  (h:∀a,b9 X pins (σ.set i (U v)) H a->Q Unit.unit a) (c:X.fn x=γ\/X.a8.scope.names.lookup x=U .local:=by first|show .inl J|show .inr J|assumption):av M A (storeName X.a8 x u) Q E s:=
 PD I hN d e r (λa b z=>h a b) c
def b9.call'{a:aq}(I:b9 X pins σ H s)(l:a.os=s.os)(u:Un (χ X.stack) i H H' s.heap a.heap)(e8:q? X.prog X.w H' a.heap)(j:fF a.gens)
  (hch:∀b∈i,(b∈X.ex\/X.s₀.heap.objs.size<=b)/\b≠X.a8.locals/\(∀x c,X.a8.cells.lookup x=U c->c≠b)/\∀p∈X.pn++pins,p.1≠b):b9 X pins σ H' a:=by
 let#v[h',f,d,h,m]:=a;have e:m=s.os:=l;subst e;show I.call (g':=f) (t':=h) (d':=d) u e8 j hch
end
abbrev XK:=aa->Option Addr->Hp->Prop
abbrev St:=List (Option V)
abbrev VK:=V->Hp->Prop
abbrev TE:=St->Hp->VK->Prop
abbrev TT:=St->Hp->(Bool->Hp->Prop)->Prop
abbrev TA:=St->Hp->(bC->Hp->Prop)->Prop
structure zE where
 nx:St->Hp->Prop
 rt:VK
 bk:St->Hp->Prop:=λz z=>False
 ct:St->Hp->Prop:=λz z=>False
abbrev TS:=zE->St->Hp->Prop
inductive IEP(X:Cx) (pins:dh) (σ:St) (Q:VK) (u:aa) (s':aq):Prop
 |i (v:_) (H':_) (h0:b9 X pins σ H' s') (h1:d? v u) (h2:Q v H'):IEP X pins σ Q u s'
def EP(X:Cx)(a:dh)(c:St)(Q:VK)(u:aa)(b:aq):Prop:=IEP X a c Q u b
inductive ITP(X:Cx) (pins:dh) (σ:St) (Q:Bool->Hp->Prop) (b:Bool) (s':aq):Prop
 |i (H':_) (h0:b9 X pins σ H' s') (h1:Q b H'):ITP X pins σ Q b s'
def TP(X:Cx)(a:dh)(d:St)(Q:Bool->Hp->Prop)(b:Bool)(c:aq):Prop:=ITP X a d Q b c
inductive IAP(X:Cx) (pins:dh) (σ:St) (Q:bC->Hp->Prop) (us:List aa) (s':aq):Prop
 |i (vs:_) (H':_) (h0:b9 X pins σ H' s') (h1:df vs us) (h2:Q vs H'):IAP X pins σ Q us s'
def AP(X:Cx)(a:dh)(d:St)(Q:bC->Hp->Prop)(c:List aa)(b:aq):Prop:=IAP X a d Q c b
inductive ISE(X:Cx) (pins:dh) (Q:St->Hp->Prop) (s':aq):Prop
 |i (σ':St) (H':Hp) (h0:b9 X pins σ' H' s') (h1:Q σ' H'):ISE X pins Q s'
inductive ISR(X:Cx) (pins:dh) (R:VK) (u:aa) (s':aq):Prop
 |i (v:V) (σ':St) (H':Hp) (h0:b9 X pins σ' H' s') (h1:d? v u) (h2:R v H'):ISR X pins R u s'
def SP(X:Cx)(a:dh)(D:zE)(f:Flow)(b:aq):Prop:=
 match f with
 |.next=>ISE X a D.nx b
 |.brk=>ISE X a D.bk b
 |.cont=>ISE X a D.ct b
 |.ret u=>ISR X a D.rt u b
def PE(X:Cx)(e:Expr)(t:TE):Prop:=
 ∀(a:dh) (s:aq) (b:St) (H:Hp) (Q:VK),b9 X a b H s->t b H Q->av (model X.prog X.w) X.A (eval e X.a8) (EP X a b Q) X.xe s
def PT(X:Cx)(e:Expr)(t:TT):Prop:=
 ∀(a:dh) (s:aq) (b:St) (H:Hp) (Q:Bool->Hp->Prop),b9 X a b H s->t b H Q->av (model X.prog X.w) X.A (isTrue e X.a8 (eval e X.a8)) (TP X a b Q) X.xe s
def PW(X:Cx)(e:Expr)(t:TT):Prop:=
 ∀(whole:Sem aa) (a:dh) (s:aq) (b:St) (H:Hp) (Q:Bool->Hp->Prop),b9 X a b H s->t b H Q->av (model X.prog X.w) X.A (isTrue e X.a8 whole) (TP X a b Q) X.xe s
def PW.pt(h:PW X e t):PT X e t:=h _
def PA(X:Cx)(c:List Expr)(t:TA):Prop:=
 ∀(pos:Pos) (a:dh) (s:aq) (b:St) (H:Hp) (Q:bC->Hp->Prop),b9 X a b H s->t b H Q->av (model X.prog X.w) X.A (spliced (bM pos (aE c X.a8))) (AP X a b Q) X.xe s
def PS(X:Cx)(st:Stmt)(t:TS):Prop:=
 ∀(a:dh) (s:aq) (b:St) (H:Hp) (D:zE),b9 X a b H s->t D b H->av (model X.prog X.w) X.A (exec st X.a8) (SP X a D) X.xe s
def kv(X:Cx)(st:List Stmt)(t:TS):Prop:=
 ∀(a:dh) (s:aq) (b:St) (H:Hp) (D:zE),b9 X a b H s->t D b H->av (model X.prog X.w) X.A (execs st X.a8) (SP X a D) X.xe s
def fb{c:Type}{t:Sem c}{Q b:c->aq->Prop}{M:Model}{A:bp}{E:aa->aq->Prop}{s:aq}(h:av M A t Q E s)(hQ:∀a s,Q a s->b a s):av M A t b E s:=cE h hQ λz z x=>x
section
variable{X:Cx}
def bin{a b:Expr}{o p:TE}(z:PE X a o)(B:PE X b p){c:dh}{s:aq}{e:St}{H:Hp}{R:V->V->Hp->Prop}(I:b9 X c e H s)(h:o e H λx m=>p e m λy d=>R x y d)
  {q:Type} {Q:q->aq->Prop} {f:aa->aa->Sem q}
  (C:∀v u l x y d,b9 X c e d l->d? x v->d? y u->R x y d->av (model X.prog X.w) X.A (f v u) Q X.xe l):
  av (model X.prog X.w) X.A (eval a X.a8) (λv i=>av (model X.prog X.w) X.A (eval b X.a8) (λu j=>av (model X.prog X.w) X.A (f v u) Q X.xe j) X.xe i) X.xe s:=by
 calc fb (z c s e H _ I h) λv N zz=>?_;let#v[x,m,r,G,E]:=zz;calc fb (B c N e m _ r E) λu l zz=>?_;let#v[y,d,t,M,F]:=zz;show C v u l x y d t G M F
inductive X1(i:Nat) (σ:St) (H:Hp) (Q:VK):Prop
 |i (v) (h0:σ[i]?=U (U v)) (h1:Q v H):X1 i σ H Q
def Aa(i:Nat):TE:=λa H Q=>X1 i a H Q
def tC(v:V):TE:=λz H Q=>Q v H
def Y0(hN:X.N[i]?=U x)(p:Vis X.a8.scope x)(hd:(x==("__debug__" : Str))=δ:=by decide)(hcd:(x==("__classdict__" : Str))=δ:=by decide):PE X (.Name x pos) (Aa i):=by
 intro b s q H Q I h;let#v[v,e,h]:=h;let#v[m,o,f]:=I.B';let#v[u,r,l]:=f i x v hN e p;have fin:EP X b q Q u s:=#v[v,H,I,r,h];rcases l with ⟨a,j⟩|⟨a,c,d,hcell⟩
 .show nP (wpAny_loadName_local I.ok.kind a o j fin) hd
 .rcases a with a|a
  .show nP (wpAny_loadName_cell I.ok.kind a d hcell fin) hd
  .show nP (wpAny_loadName_free I.ok.kind a d hcell fin hcd) hd
def MG{i j pos}:PE X (.Constant (.int i) j pos) (tC (.int i)):=λz z z H z I h=>wpAny_Constant_int #v[.int i,H,I.w? _,#v[_,J],h]
def acZ{b j pos}:PE X (.Constant (.bool b) j pos) (tC (.bl b)):=λz z z H z I h=>Constant_bool #v[.bl b,H,I,J,h]
def Y1{j pos}:PE X (.Constant .none j pos) (tC .I):=λz z z H z I h=>Constant_none #v[.I,H,I,J,h]
def QT{x j pos}:PE X (.Constant (.str x) j pos) (tC (.str x)):=λz z z H z I h=>Calls.Constant_str #v[.str x,H,I.w? _,#v[_,J],h]
def Gl(X:Cx)(x:Str):Prop:=X.a8.kindOf x=U .globalImplicit
def Ec(I:b9 X a d H s)(b:Gl X x)(c:X.mg x=U u)(h:Q u s)
  (hd:(x==("__debug__" : Str))=δ:=by decide):av (model X.prog X.w) X.A (eval (.Name x pos) X.a8) Q E s:=
 oQ I.ok.kind b (Calls.loadGlobal_global (by rw[I.ok.Ai];show I.Dv.Ai.keeps I.bk) c h) hd
def Bs(I:b9 X a l H s)(d:Gl X x)(e:X.mg x=Z)(i:eF x=U u)(h:Q u s)
  (f:x≠"__name__" := by decide) (hd:(x==("__debug__" : Str))=δ:=by decide):av (model X.prog X.w) X.A (eval (.Name x pos) X.a8) Q E s:=by
 let#v[j,b,c]:=I.Dv.blt;show oQ I.ok.kind d (Calls.loadGlobal_builtin (by rw[I.ok.Ai];show I.Dv.Ai.keeps I.bk) e (by rw[I.ok.blt];show b.keeps I.bk) ((c x f).t i) h) hd
def N8(a:Gl X x)(b:X.mg x=U u)(r:d? v u)(hd:(x==("__debug__" : Str))=δ:=by decide):PE X (.Name x pos) (tC v):=
 λz z z H z I h=>Ec I a b #v[v,H,I,r,h] hd
def Va(a:Gl X x)(b:X.mg x=Z)(d:eF x=U u)(r:d? v u)(c:x≠"__name__" := by decide)(hd:(x==("__debug__" : Str))=δ:=by decide):PE X (.Name x pos) (tC v):=
 λz z z H z I h=>Bs I a b d #v[v,H,I,r,h] c hd
variable{a b:Expr}{ta tb:TE}{pos:Pos}
def PC(X:Cx)(op:CmpOp)(a b:Expr)(t:TE):Prop:=
 ∀(c:dh) (s:aq) (f:St) (H:Hp) (Q:VK),b9 X c f H s->t f H Q->
  av (model X.prog X.w) X.A (eval a X.a8) (λv d=>av (model X.prog X.w) X.A (eval b X.a8) (λu e=>av (model X.prog X.w) X.A (bD op v u) (EP X c f Q) X.xe e) X.xe d) X.xe s
def tB(t:TE):TT:=λe H Q=>t e H λx d=>∃c,x=.bl c/\Q c d
def ae6(h:PC X op a b t)(f:gz op b=δ:=by first|show nobehind _ #[] #[]|rfl):PT X (.Compare a [op] [b] pos) (tB t):=by intro e s r H Q I m;calc ph (fb (h e s r H _ I m) λv w f=>fb f λu y l=>fb l λc z zz=>?_) f;let#v[x,i,j,p,o]:=zz;let#v[d,rfl,q]:=o;ext p;show dH #v[i,j,q]
def Y2(h:PE X e t)(j:∀whole,isTrue e X.a8 whole=(do let v<-whole;standAt e.pos;holding [v] (truthy v)):=by intro _;rfl):PT X e (tB t):=by intro c s p H Q I l;calc isTrue_plain (fb (h c s p H _ I l) λv r zz=>?_) (j _);let#v[x,f,i,o,m]:=zz;let#v[d,rfl,q]:=m;ext o;show dH #v[f,i,q]
variable{tA tB':TT}{eu:List Expr}
def tAnd(t u:TT):TT:=λe H Q=>t e H λc d=>if c=γ then u e d Q else Q δ d
def tOr(t u:TT):TT:=λe H Q=>t e H λc d=>if c=γ then Q γ d else u e d Q
def tNot(t:TT):TT:=λe H Q=>t e H λc d=>Q (!c) d
def Vb(f:PT X a tA):PW X (.BoolOp .And [a] pos) tA:=by
 intro l d s i H Q I h;calc isTrue_and (fb (f d s i H Q I h) λc j e=>?_);cases c with
 |true=>show isTrue_and_nil e
 |false=>show e
def Y3(f:PT X a tA):PW X (.BoolOp .Or [a] pos) tA:=by
 intro l d s i H Q I h;calc isTrue_or (fb (f d s i H Q I h) λc j e=>?_);cases c with
 |false=>show isTrue_or_nil e
 |true=>show e
def Y4(l:PT X a tA)(m:PW X (.BoolOp .And (b::eu) pos) tB'):PW X (.BoolOp .And (a::b::eu) pos) (tAnd tA tB'):=by
 intro p d s j H Q I h;calc isTrue_and (fb (l d s j H _ I h) λc o zz=>?_);let#v[e,f,i]:=zz;cases c with
 |true=>show m p d o j e Q f i
 |false=>show#v[e,f,i]
def ac1(l:PT X a tA)(m:PW X (.BoolOp .Or (b::eu) pos) tB'):PW X (.BoolOp .Or (a::b::eu) pos) (tOr tA tB'):=by
 intro p d s j H Q I h;calc isTrue_or (fb (l d s j H _ I h) λc o zz=>?_);let#v[e,f,i]:=zz;cases c with
 |true=>show#v[e,f,i]
 |false=>show m p d o j e Q f i
def Y5(i:PT X a tA):PT X (.UnaryOp .Not a pos) (tNot tA):=by intro d s l H Q I h;show isTrue_not (fb (i d s l H (λc e=>Q (!c) e) I h) λc m #v[e,f,j]=>#v[e,f,j])
def ac2(ta tb:TE):TE:=λe H Q=>ta e H λx d=>∃c,x=.bl c/\if c=γ then tb e d Q else Q (.bl δ) d
def tOrV(ta tb:TE):TE:=λe H Q=>ta e H λx d=>∃c,x=.bl c/\if c=γ then Q (.bl γ) d else tb e d Q
def ac3(ta:TE):TE:=λe H Q=>ta e H λx d=>∃c,x=.bl c/\Q (.bl (!c)) d
def Y6{op}(h:PE X a t):PE X (.BoolOp op [a] pos) t:=λc s e H Q I d=>BoolOp_one (h c s e H Q I d)
def Y7(l:PE X a ta)(m:PE X (.BoolOp .And (b::eu) pos) tb):PE X (.BoolOp .And (a::b::eu) pos) (ac2 ta tb):=by
 intro d s j H Q I h;calc BoolOp_and (fb (l d s j H _ I h) λv p zz=>?_);let#v[x,f,i,o,e]:=zz;let#v[c,rfl,e]:=e;ext o;calc dH ?_;cases c with
 |true=>show m d p j f Q i e
 |false=>show#v[.bl δ,f,i,J,e]
def ac4(l:PE X a ta)(m:PE X (.BoolOp .Or (b::eu) pos) tb):PE X (.BoolOp .Or (a::b::eu) pos) (tOrV ta tb):=by
 intro d s j H Q I h;calc BoolOp_or (fb (l d s j H _ I h) λv p zz=>?_);let#v[x,f,i,o,e]:=zz;let#v[c,rfl,e]:=e;ext o;calc dH ?_;cases c with
 |false=>show m d p j f Q i e
 |true=>show#v[.bl γ,f,i,J,e]
def Y8(j:PE X a ta):PE X (.UnaryOp .Not a pos) (ac3 ta):=by intro d s m H Q I h;calc UnaryOp_ (fb (j d s m H _ I h) λv o zz=>?_);let#v[x,f,i,l,e]:=zz;let#v[c,rfl,e]:=e;ext l;show not_of (dH #v[.bl (!c),f,i,J,e])
def tIf(t:TT)(ta tb:TE):TE:=λd H Q=>t d H λc e=>if c=γ then ta d e Q else tb d e Q
def QU(q:PT X c tA)(o:PE X a ta)(p:PE X b tb):PE X (.IfExp c a b pos) (tIf tA ta tb):=by
 intro e s f H Q I h;calc wpAny_IfExp (fb (q e s f H _ I h) λd m zz=>?_);let#v[i,j,l]:=zz;cases d with
 |true=>show o e m f i Q j l
 |false=>show p e m f i Q j l
end
def f?(K:ay)(H:Hp)(a:Addr)(c:bC):Prop:=
 Rd H a (.ax c)\/
  ∃(o:Obj) (b:Array aa) (n:Nat),K.lookup a=U o/\o.cls=.type "list" /\ o.dict=Z/\o.data=.seq b n/\b.size<=aS/\df c b.toList
def fh(K:ay)(H:Hp)(a:Addr)(c:bC):Prop:=
 Rd H a (.bx c)\/
  ∃(o:Obj) (b:Array aa) (n:Nat),K.lookup a=U o/\o.cls=.type "tuple" /\ o.data=.seq b n/\b.size<=aS/\df c b.toList
def absV:aa->Option V
 |.none=>U .I
 |.bool b=>U (.bl b)
 |.int i _=>U (.int i)
 |.str x _=>U (.str x)
 |.bytes b _=>U (.Y b)
 |.float b _=>U (.flt b)
 |.ref a=>U (.ref a)
 |.type n=>U (.ty n)
 |_=>Z
def d?.abs(r:d? x u):absV u=U x:=by
 cases x with
 |I=>ext r;rfl
 |bl _=>ext r;rfl
 |int _=>let#v[t,rfl]:=r;rfl
 |str _=>let#v[t,rfl]:=r;rfl
 |Y _=>let#v[t,rfl]:=r;rfl
 |flt _=>let#v[t,rfl]:=r;rfl
 |ref _=>ext r;rfl
 |ty _=>ext r;rfl
def d?.inj(r:d? x u)(q:d? y u):x=y:=cZ (r.abs.symm.t q.abs)
theorem df.inj:∀{b c:bC} {a:List aa},df b a->df c a->b=c
 |_,_,_,.nil,.nil=>rfl
 |_,_,_,.cons r t,.cons d e=>by rw[r.inj d,df.inj t e]
section
variable{X:Cx}{pins:dh}{σ:St}{H:Hp}{s:aq}{a:Addr}{xs ys:bC}
#print "? ax;h bx" in def fϑ0.of{K:ay}(h:H a=U (.ϑ1 xs)):fϑ0 K H a xs:=.inl (.inl h)
inductive ILs(xs:bC) (h:Heap) (a:Addr):Prop
 |i (its:List aa) (r:df xs its) (p:PlainL h a its.toArray) (z:xs.length<=aS):ILs xs h a
inductive ITs(xs:bC) (h:Heap) (a:Addr):Prop
 |i (its:List aa) (r:df xs its) (p:dS h a its.toArray) (z:xs.length<=aS):ITs xs h a
def b9.list(I:b9 X pins σ H s)(h:f? X.K H a xs):ILs xs s.heap a:=by
 rcases h with h|⟨o,b,n,d,c,hd,f,i,r⟩
 .let#v[z,b,n,r,e]:=h.ok I.e8;show#v[b,r,#v[_,n,e,J,J,J],z]
 .calc#v[b.toList,r,#v[o,n,I.n? a o d,c,hd,by exists f],?_];have e:=r.length;erw[bL]at e;omega
def b9.tuple(I:b9 X pins σ H s)(h:fh X.K H a xs):ITs xs s.heap a:=by
 rcases h with h|⟨o,b,n,d,c,f,i,r⟩
 .let#v[z,b,r,p,_]:=h.ok I.e8;show#v[b,r,p,z]
 .calc#v[b.toList,r,#v[o,I.n? a o d,c,n,by exists f],?_];have e:=r.length;erw[bL]at e;omega
def b9.K?(I:b9 X pins σ H s)(h:f? X.K H a xs)(l:f? X.K H a ys):xs=ys:=by
 let#v[c,r,#v[o,n,e,_,_,d],_]:=I.list h;let#v[b,m,#v[q,p,i,_,_,f],_]:=I.list l;rw[e]at i;ext i;rw[d]at f;injection f with j _;have:c=b:=by exists aW rK j
 subst this;show r.inj m
def b9.C?(I:b9 X pins σ H s)(h:fh X.K H a xs)(l:fh X.K H a ys):xs=ys:=by
 let#v[c,r,#v[o,e,_,n,d],_]:=I.tuple h;let#v[b,m,#v[q,i,_,p,f],_]:=I.tuple l;rw[e]at i;ext i;rw[d]at f;injection f with j _;have:c=b:=by exists aW rK j
 subst this;show r.inj m
end
abbrev Cx.z?(X:Cx)(E:aa->aq->Prop):Cx:={ X with xe:=E }
abbrev Cx.nox(X:Cx):Cx:=X.z? λw w=>False
theorem Cx.Ok.z?{X:Cx}(ok:X.Ok)(E:aa->aq->Prop):(X.z? E).Ok:=
 #v[ok.Dv,ok.kind,ok.Ai,ok.blt,ok.above,ok.inj,ok.has,ok.cab,ok.hd,ok.frames,ok.stk,ok.exf,ok.bs,ok.bsz,ok.Xi,ok.XC,ok.ts,ok.frf]
def Cx.Ok.nq{X:Cx}(ok:(X.z? E).Ok):X.Ok:=
 #v[ok.Dv,ok.kind,ok.Ai,ok.blt,ok.above,ok.inj,ok.has,ok.cab,ok.hd,ok.frames,ok.stk,ok.exf,ok.bs,ok.bsz,ok.Xi,ok.XC,ok.ts,ok.frf]
section
variable{X:Cx}{pins:dh}{σ:St}{H:Hp}{s:aq}{E:aa->aq->Prop}
theorem b9.z?(I:b9 X pins σ H s)(E:aa->aq->Prop):b9 (X.z? E) pins σ H s:=#v[I.ok.z? E,I.os,I.jl,I.a7,I.B',I.cell,I.free,I.j?,I.x4,I.e8,I.len]
theorem b9.nq(I:b9 (X.z? E) pins σ H s):b9 X pins σ H s:=#v[I.ok.nq,I.os,I.jl,I.a7,I.B',I.cell,I.free,I.j?,I.x4,I.e8,I.len]
theorem SP.nq(h:SP (X.z? E) pins D f c):SP X pins D f c:=by
 cases f with
 |next=>let#v[a,b,I,q]:=h;show#v[a,b,I.nq,q]
 |brk=>let#v[a,b,I,q]:=h;show#v[a,b,I.nq,q]
 |cont=>let#v[a,b,I,q]:=h;show#v[a,b,I.nq,q]
 |ret u=>let#v[v,a,b,I,r,q]:=h;show#v[v,a,b,I.nq,r,q]
theorem kv.nox{st:List Stmt}{t:TS}(h:kv X.nox st t):kv X st t:=λpins s σ H D I a=>
 cE (h pins s σ H D (I.z? _) a) (λw w q=>q.nq) λw w z=>dv z
end
section
variable{X:Cx}{st:Stmt}{eu:List Stmt}{t u:TS}{e:Expr}{te:TE}{pos:Pos}
def X2:TS:=λD a H=>D.nx a H
def tSeq(t u:TS):TS:=λD σ H=>t { D with nx:=u D } σ H
def N9:kv X [] X2:=λz z a H z I h=>kC #v[a,H,I,h]
def A9(h1:PS X st t)(h2:kv X eu u):kv X (st::eu) (tSeq t u):=by
 intro pins s σ H D I h;calc qm (fb (h1 pins s σ H { D with nx:=u D } I h) λf b q=>?_);cases f with
 |next=>let#v[σ',H',a,q]:=q;show h2 pins b σ' H' D a q
 |ret v=>show q
 |brk=>show q
 |cont=>show q
def Ed(b:PS X st t):kv X [st] t:=by
 intro a s c H D I h;calc qm (fb (b a s c H D I h) λf d q=>?_);cases f with
 |next=>show kC q
 |ret v=>show q
 |brk=>show q
 |cont=>show q
def b9.quiet(I:b9 X a b H s):interactive X.a8=δ:=by simp[interactive,I.ok.kind]
def X3(te:TE):TS:=λD a H=>te a H λz b=>D.nx a b
def Oa(f:PE X e te)(i:eL e Z pos.line X.a8=pure δ:=by rfl):PS X (.Expr e pos) (X3 te):=by intro a s b H D I h;show wpAny_Expr_any (fb (f a s b H _ I h) λv m #v[x,c,d,l,j]=>#v[b,c,d,j]) I.quiet i
def tRet(te:TE):TS:=λD a H=>te a H D.rt
def MH(f:PE X e te):PS X (.Return (U e) pos) (tRet te):=by intro a s b H D I h;show wpAny_Return_some (fb (f a s b H _ I h) λv l #v[x,c,d,j,i]=>#v[x,b,c,d,j,i])
def tIfS(c:TT)(t u:TS):TS:=λD a H=>c a H λb d=>if b=γ then t D a d else u D a d
def X4(r:PT X c w)(p:kv X a t)(q:kv X b u):PS X (.If c a b pos) (tIfS w t u):=by
 intro f s i H D I h;calc wpAny_If (fb (r f s i H _ I h) λd o zz=>?_);let#v[j,l,m]:=zz;cases d with
 |true=>show p f o i j D l m
 |false=>show q f o i j D l m
end
#print "G V;Gs bC" in abbrev Tϑ0:=ϑ1->St->Hp->(St->Hp->Prop)->Prop
def PG(X:Cx)(target:Expr)(t:TG):Prop:=
 ∀(a:dh) (s:aq) (b:St) (H:Hp) (v:V) (u:aa) (Q:St->Hp->Prop),b9 X a b H s->d? v u->t v b H Q->
  av (model X.prog X.w) X.A (assign target X.a8 u) (λz c=>ISE X a Q c) X.xe s
def Pr(X:Cx)(f:List Expr)(t:TGs):Prop:=
 ∀(a:dh) (s:aq) (d:St) (H:Hp) (c:bC) (b:List aa) (Q:St->Hp->Prop),b9 X a d H s->df c b->t c d H Q->
  av (model X.prog X.w) X.A (assignInOrder ((dw f X.a8).map (·.2)) b) (λz e=>ISE X a Q e) X.xe s
section
variable{X:Cx}{pos:Pos}
def Ab(i:Nat):TG:=λv a H Q=>Q (a.set i (U v)) H
def Ob(hN:X.N.Nodup)(d:X.N[i]?=U x)(e:Loc X.a8.scope x)(c:X.fn x=γ\/X.a8.scope.names.lookup x=U .local:=by first|show .inl J|show .inr J|assumption):PG X (.Name x pos) (Ab i):=by intro a s j H v u Q I r h;show wpAny_assign_Name (K1 I hN d e r (λf b=>#v[_,H,b,h]) c)
def gNil:TGs:=λa b H Q=>a=[]/\Q b H
inductive QV(t:TG) (u:TGs) (vs:bC) (σ:St) (H:Hp) (Q:(St->Hp->Prop)):Prop
 |i (v r) (h0:vs=v::r) (h1:t v σ H λσ' H'=>u r σ' H' Q):QV t u vs σ H Q
def X5(t:TG)(u:TGs):TGs:=λa b H Q=>QV t u a b H Q
def Vc:Pr X [] gNil:=by intro a s b H d c Q I r h;let#v[e,h]:=h;subst e;ext r;show assignInOrder_nil #v[b,H,I,h]
def QW(j:PG X e t)(l:Pr X b u)
  (m:(dw (e::b) X.a8).map (·.2)=assign e X.a8::(dw b X.a8).map (·.2):=by rfl):Pr X (e::b) (X5 t u):=by
 intro a s w H z x Q I r h;let#v[v,y,i,h]:=h;subst i;cases r with
 |cons r p=>rw[m];calc assignInOrder_cons (fb (j a s w H _ _ _ I r h) λn q zz=>?_);let#v[c,d,f,o]:=zz;show l a q c d _ _ Q f p o
inductive X6(K:ay) (n:Nat) (t:TGs) (v:V) (σ:St) (H:Hp) (Q:(St->Hp->Prop)):Prop
 |i (a xs) (h0:v=.ref a) (h1:fh K H a xs) (h2:xs.length=n) (h3:t xs σ H Q):X6 K n t v σ H Q
def Y9(K:ay)(n:Nat)(t:TGs):TG:=λv a H Q=>X6 K n t v a H Q
def Za(j:X.k3=γ)(h:Pr X es t)
  (hn:(dw es X.a8).length=n:=by rfl) (hst:(dw es X.a8).findIdx? (·.1)=Z:=by rfl):PG X (.Tuple es k pos) (Y9 X.K n t):=by
 intro pins s σ H v u Q I r c;let#v[a,xs,i,m,l,c]:=c;subst i;ext r;let#v[its,d,ht,q]:=I.tuple m;calc assign_Tuple_tuple (I.ok.hd j) ht (by simp[hn,<- l,d.length]) hst λh' p=>?_;have f:b9 X pins σ H { s with heap:=h' }:=I.gp (t':=s.toks) λb o e=>p b o (bf (aQ e)) e;show h pins _ σ H xs _ Q f (by exists d) c
def Ee(c:TE)(g:TG):TS:=λD a H=>c a H λx b=>g x a b D.nx
def Zb(j:PE X e u)(l:PG X b g)(m:swapsWithSole [b] e pos.line X.a8=pure δ:=by rfl)(o:swappedStores [b] e X.a8=pure Z:=by rfl)
  (i:(dw [b] X.a8).map (·.2)=[assign b X.a8]:=by rfl):PS X (.Assign [b] e pos) (Ee u g):=by
 intro a s c H D I h;calc wpAny_Assign_stores (fb (j a s c H _ I h) λv t zz=>?_) m o;let#v[x,d,f,r,p]:=zz;rw[i];show fb (l a t c d x v _ f r p) λz w q=>q
def QX(hN:X.N.Nodup)(l:X.N[i]?=U x)(o:Loc X.a8.scope x)(f:PE X e r)(m:eL e (U (.Name x pos')) pos.line X.a8=pure δ:=by rfl)(j:X.fn x=γ\/X.a8.scope.names.lookup x=U .local:=by first|show .inl J|show .inr J|assumption):
  PS X (.Assign [.Name x pos'] e pos) (Ee r (Ab i)):=by
 intro a s t H D I h;calc wpAny_Assign_Name (fb (f a s t H _ I h) λv u zz=>?_) m;let#v[y,b,c,q,p]:=zz;show K1 c hN l o q (λw d=>#v[_,b,d,p]) j
end
section
variable{X:Cx}{pos:Pos}
inductive Od(c:TT) (tb:TS) (D:zE) (σ:St) (H:Hp):Prop
 |i (W:Nat->St->Hp->Prop) (h0:(∃m,W m σ H)) (h1:∀m σ H,W m σ H->c σ H λb H1=>if b=γ then ∃N:St->Hp->Prop,(∀σ' H',N σ' H'->∃m',m'<m/\W m' σ' H')/\tb { D with nx:=N,ct:=N,bk:=D.nx } σ H1 else D.nx σ H1):Od c tb D σ H
def QY(c:TT)(a:TS):TS:=λD b H=>Od c a D b H
def QZ(B:jA (model X.prog X.w) X.A X.a8 X.xe)(F:PT X c R)(E:kv X body Q):PS X (.While c body [] pos) (QY R Q):=by
 intro a s Y H D I h;let#v[W,#v[G,S],turn]:=h;calc wpAny_While (codeAny_whileLoop (λn M=>∃j u,b9 X a j u M/\W n j u) ?_ G #v[Y,H,I,S]);rintro n O ⟨e,x,C,T⟩;calc gx B (fb (F a O e x _ C (turn n e x T)) λb P zz=>?_);let#v[y,z,l]:=zz;cases b with
 |true=>
  let#v[N,hN,l]:=l;rw[af J];calc gx B (fb (E a P e y _ z l) λf s3 m=>?_);cases f with
  |next=>let#v[d,i,o,r]:=m;let#v[q,p,t]:=hN d i r;show#v[q,p,d,i,o,t]
  |cont=>let#v[d,i,o,r]:=m;let#v[q,p,t]:=hN d i r;show#v[q,p,d,i,o,t]
  |brk=>show m
  |ret v=>show m
 |false=>rw[ai bB];show kC #v[e,y,z,l]
end
structure It where
 go:Nat->Hp->Prop
 yld:Nat->Hp->V->Hp->Prop
 stop:Nat->Hp->Prop
def Iq(X:Cx)(a:dh)(H:Hp)(b:Addr):Prop:=
 H b=Z/\b≠X.a8.locals/\b∉X.fs/\(b∈X.ex\/X.s₀.heap.objs.size<=b)/\(∀x c,X.a8.cells.lookup x=U c->c≠b)/\∀p∈X.pn++a,p.1≠b
def b9.I'(I:b9 X d j H s)(a: ~~~s<=b)(h:f b=Z):Iq X d f b:=by
 refine#v[h,fz (cF I.lt a),I.nofs a,.inr (bW I.sz a),λx c e z=>?_,λp i z=>?_]
 .let#v[v,q]:=I.cell x c e;show au (cF q.lt (by rw[z];show a)) (eE _)
 .show au (cF (aQ (I.x4 p i).1) (by rw[z];show a)) (eE _)
structure J'(P:bj)(w:aR)(K:ay)(tg:Expr)(A_:It)(fp:List Addr)(it:Addr)(tn:Nat->Heap->Prop):Prop where
 mem:it∈fp
 obj:∀i h,tn i h->∀b∈fp,∃o,h.get? b=U o/\∀v,o.data≠.cell v
 keep:∀i h h',tn i h->(∀b∈fp,∀o,h.get? b=U o->h'.get? b=U o)->tn i h'
 item:∀(X:Cx),X.prog=P->X.w=w->X.K=K->X.k3=γ->∀(i:Nat) (pins:dh) (s:aq) (σ:St) (H:Hp) (E:aa->aq->Prop),b9 X pins σ H s->(∀b∈fp,Iq X pins H b)->tn i s.heap->A_.go i H->
  av (model P w) X.A (pyNext (.ref it)) (λr s1=>∃u,r=U u/\
   av (model P w) X.A (jk tg (.ref it) u) (λz s2=>∃x H',b9 X pins σ H' s2/\d? x u/\A_.yld i H x H'/\tn (i+1) s2.heap/\∀b∈fp,H' b=Z) E s1) E s
 done:∀(X:Cx),X.prog=P->X.w=w->X.K=K->X.k3=γ->∀(i:Nat) (pins:dh) (s:aq) (σ:St) (H:Hp) (E:aa->aq->Prop),b9 X pins σ H s->(∀b∈fp,Iq X pins H b)->tn i s.heap->A_.stop i H->
  av (model P w) X.A (pyNext (.ref it)) (λr s1=>r=Z/\b9 X pins σ H s1) E s
 self:∀(A:bp) (i:Nat) (s:aq) (Q:aa->aq->Prop) (E:aa->aq->Prop),tn i s.heap->Q (.ref it) s->av (model P w) A (pyIter (.ref it)) Q E s
abbrev TI:=St->Hp->(It->Hp->Prop)->Prop
inductive IPIE(X:Cx) (pins:dh) (σ:St) (tg:Expr) (R:It->Hp->Prop) (itv:aa) (s2:aq):Prop
 |i (it:Addr) (fp:List Addr) (tn:Nat->Heap->Prop) (A_:It) (H':Hp) (h0:itv=.ref it) (h1:b9 X pins σ H' s2) (h2:J' X.prog X.w X.K tg A_ fp it tn) (h3:tn 0 s2.heap) (h4:(∀b∈fp,Iq X pins H' b)) (h5:R A_ H'):IPIE X pins σ tg R itv s2
def PIE(X:Cx)(a:dh)(d:St)(c:Expr)(R:It->Hp->Prop)(itv:aa)(b:aq):Prop:=IPIE X a d c R itv b
def PI(X:Cx)(d iter:Expr)(e:TI):Prop:=
 ∀(a:dh) (s:aq) (b:St) (H:Hp) (R:It->Hp->Prop),b9 X a b H s->e b H R->
  av (model X.prog X.w) X.A (eval iter X.a8) (λv c=>av (model X.prog X.w) X.A (pyIter v) (PIE X a b d R) X.xe c) X.xe s
def Oe{s:aq}(c:s.heap.get? d=U o)(a:o.cls=.type n)(hd:o.data=.fields f)
  (b:["enumerate", "zip", "dict_itemiterator", "dict_reverseitemiterator", "odict_iterator", "itertools.zip_longest", "itertools.pairwise"].contains n=δ) (hQ:Q Unit.unit s):av M A (jk e (.ref d) u) Q E s:=by
 delta jk;ext e<;>first
  |show aC hQ
  |(ext u<;>first
    |show aC hQ
    |(refine ar (nQ c ?_)
      rw[a,hd];change av M A (if (["enumerate", "zip", "dict_itemiterator", "dict_reverseitemiterator", "odict_iterator", "itertools.zip_longest", "itertools.pairwise"].contains n&&f[0]?==U (rawInt _))=γ then _ else _) Q E s;rw[ai (by intro h;rw[b,jq]at h;ext h)];show aC hQ))
#print "l ?;t h" in def Itϑ0(K:ay)(a:Addr):It:=
 #v[λi H=>∃b x,fϑ1 K H a b/\b[i]?=U x,λi H x c=>c=H/\∀b,fϑ1 K H a b->b[i]?=U x,λi H=>∃b,fϑ1 K H a b/\b.length<=i]
def Itr(lo:Int)(n:Nat):It:=#v[λi z=>i<n,λi H x a=>a=H/\x=.int (lo+i),λi z=>n<=i]
def PF{P:bj}{w:aR}{K:ay}{tg:Expr}(a it:Addr):J' P w K tg (Itl K a) [it] it (λi h=>h.IsListIter it a i) where
 mem:=by simp
 obj:=λi h st b f=>by
  have e:b=it:=by exists f
  subst e;let#v[o,e,c,d]:=st;show#v[o,e,λv z=>by rw[d]at z;ext z]
 keep:=λi h h' st k=>st.at λo e=>k it (by simp) o e
 item:=by intro X hP C hK M i pins s σ H E I l st B;subst hP C hK;let#v[xs,x,m,F]:=B;let#v[its,G,p,T]:=I.list m;let#v[u,R,W]:=G.get F;let#v[q,r,Q,t,y,A]:=l it (by simp);calc wpAny_pyNext_list_item st p.isList (x:=u) (by exists R) λh' j sb=>?_;have N:b9 X pins σ H { s with heap:=h' }:=I.ia (t':=s.toks) (λb o f e=>(sb.2 b f).t e) q r t y A;let#v[o,e,c,d]:=id j;show#v[u,J,Oe (s:={ s with heap:=h' }) e c d #[] #v[x,H,N,W,#v[J,λys S=>by rw[I.K? S m];show F],j,λb f=>(l b f).1]]
 done:=by intro X hP C hK M i pins s σ H E I l st B;subst hP C hK;let#v[xs,m,F]:=B;let#v[its,G,p,T]:=I.list m;let#v[q,r,Q,t,y,A]:=l it (by simp);have hl:=G.length;show wpAny_pyNext_list_end (I.ok.hd M) st p.isList (by simp;omega) λh' O=>#v[J,I.ia (t':=s.toks) (λb o f e=>O b o f e) q r t y A]
 self:=λn n n n n st h=>wpAny_pyIter_listiter st h
def MI{P:bj}{w:aR}{K:ay}{tg:Expr}(a it:Addr):J' P w K tg (Itt K a) [it] it (λi h=>h.IsTupleIter it a i) where
 mem:=by simp
 obj:=λi h st b f=>by
  have e:b=it:=by exists f
  subst e;let#v[o,e,c,d]:=st;show#v[o,e,λv z=>by rw[d]at z;ext z]
 keep:=λi h h' st k=>st.at λo e=>k it (by simp) o e
 item:=by intro X hP C hK M i pins s σ H E I l st B;subst hP C hK;let#v[xs,x,m,F]:=B;let#v[its,G,p,T]:=I.tuple m;let#v[u,R,W]:=G.get F;let#v[q,r,Q,t,y,A]:=l it (by simp);calc wpAny_pyNext_tuple_item st (show s.heap.IsTuple a its.toArray from p) (x:=u) (by exists R) λh' j sb=>?_;have N:b9 X pins σ H { s with heap:=h' }:=I.ia (t':=s.toks) (λb o f e=>(sb.2 b f).t e) q r t y A;let#v[o,e,c,d]:=id j;show#v[u,J,Oe (s:={ s with heap:=h' }) e c d #[] #v[x,H,N,W,#v[J,λys S=>by rw[I.C? S m];show F],j,λb f=>(l b f).1]]
 done:=by intro X hP C hK M i pins s σ H E I l st B;subst hP C hK;let#v[xs,m,F]:=B;let#v[its,G,p,T]:=I.tuple m;let#v[q,r,Q,t,y,A]:=l it (by simp);have hl:=G.length;show wpAny_pyNext_tuple_end (I.ok.hd M) st (show s.heap.IsTuple a its.toArray from p) (by simp;omega) λh' O=>#v[J,I.ia (t':=s.toks) (λb o f e=>O b o f e) q r t y A]
 self:=λn n n n n st h=>wpAny_pyIter_tupleiter st h
def MJ{P:bj}{w:aR}{K:ay}{tg:Expr}(it:Addr)(lo:Int)(n:Nat):J' P w K tg (Itr lo n) [it] it (λi h=>IsRangeIter h it (lo+(i:Nat) * 1) ((n:Int) - (i:Nat)) 1) where
 mem:=by simp
 obj:=λi h st b a=>by
  have e:b=it:=by exists a
  subst e;show#v[_,st,λv z=>by
   have C:Data.fields _=Data.cell v:=z;ext C]
 keep:=λi h h' st k=>k it (by simp) _ st
 item:=by intro X hP u hK q i pins s σ H E I d st r;subst hP u hK;let#v[f,j,A,l,m,p]:=d it (by simp);have W:=Walks.range (prog:=X.prog) (w:=X.w) (I.ok.hd q) it lo 1 n;calc W.item i s _ _ r st λv h' tk hv c B=>?_;let#v[t,rfl]:=hv;have x:b9 X pins σ H { s with heap:=h',toks:=tk }:=I.ia (λb o a e=>B b o (by exists a) e) f j l m p;calc#v[_,J,Oe (s:={ s with heap:=h',toks:=tk }) (n:="range_iterator") c rfl J #[] #v[.int (lo+i),H,x,#v[t,?_],#v[J,J],c,λb a=>(d b a).1]];rw[Int.mul_one]
 done:=by intro X hP u hK q i pins s σ H E I d st r;subst hP u hK;let#v[f,j,A,l,m,p]:=d it (by simp);show wpAny_pyNext_range_end (I.ok.hd q) st (by have:n<=i:=r;omega) λh' y=>#v[J,I.ia (t':=s.toks) (λb o a e=>y b o a e) f j l m p]
 self:=λ_ _ _ _ _ st h=>wpAny_pyIter_rangeiter st h
section
variable{X:Cx}{tg:Expr}
#print "Q0 ? l;Zc h t" in def ϑ0(K:ay)(c:TE):TI:=λe H R=>c e H λx b=>∃a,x=.ref a/\(∃d,fϑ1 K b a d)/\R (Itϑ2 K a) b
def Vd{l:Expr}{i:TE}(r:PE X l i):PI X tg l (Q0 X.K i):=by
 intro c s z H R I h;calc fb (r c s z H _ I h) λv f zz=>?_;let#v[x,j,d,y,w]:=zz;let#v[a,e,#v[E,t],q]:=w;subst e;ext y;let#v[u,B,p,A]:=d.list t;calc jc p.isList ?_;calc#v[~~~f,[~~~f],_,_,j,J,d.gp (t':=f.toks) λb o e=>aK _ e,PF a _,#v[_,bz _ J,J,J],λb m=>?_,q];have e:b= ~~~f:=by exists m
 subst e;show d.I' (aG _) (d.e8.fresh (aG _))
def Zd{l:Expr}{j:TE}(t:PE X l j):PI X tg l (Zc X.K j):=by
 intro c s z H R I h;calc fb (t c s z H _ I h) λv d zz=>?_;let#v[x,m,f,y,w]:=zz;let#v[a,e,#v[E,u],q]:=w;subst e;ext y;let#v[i,B,p,A]:=f.tuple u;calc lV (show d.heap.IsTuple a i.toArray from p) ?_;calc#v[~~~d,[~~~d],_,_,m,J,f.gp (t':=d.toks) λb o e=>aK _ e,MI a _,#v[_,bz _ J,J,J],λb r=>?_,q];have e:b= ~~~d:=by exists r
 subst e;show f.I' (aG _) (f.e8.fresh (aG _))
def Q1{pins:dh}{σ:St}{H:Hp}{s:aq}{R:It->Hp->Prop}{E:aa->aq->Prop}{lo hi:Int}{t u v:Tok}{tk:Nat}(I:b9 X pins σ H s)(h1:-(2 ^ 62)<=lo)(h2:lo<2 ^ 62)(h3:-(2 ^ 62)<=hi)(h4:hi<2 ^ 62)
  (q:R (Itr lo (hi - lo).toNat) H):av (model X.prog X.w) X.A (pyIter (.ref (~~~s))) (PIE X pins σ tg R) E { s with heap:=s.heap.push { cls:=.type "range", data:=.fields #[.int lo t,.int hi u,.int 1 v] },toks:=tk }:=by
 calc wpAny_pyIter_range (IsRange.new ..) (small_one h1 h2 h3 h4) ?_;have a:b9 X pins σ H { s with heap:=s.heap.push { cls:=.type "range", data:=.fields #[.int lo t,.int hi u,.int 1 v] },toks:=tk }:=I.gp λb o e=>aK _ e;refine#v[(s.heap.push { cls:=.type "range", data:=.fields #[.int lo t,.int hi u,.int 1 v] }).objs.size,[(s.heap.push { cls:=.type "range", data:=.fields #[.int lo t,.int hi u,.int 1 v] }).objs.size],_,_,H,J,
  a.gp (t':=tk) λb o e=>aK _ e,MJ _ lo (hi - lo).toNat,?_,λb f=>?_,q]
 .have c:lo+((0:Nat):Int) * 1=lo:=by simp
  have d:(((hi - lo).toNat:Nat):Int) - ((0:Nat):Int)=um lo hi 1:=by rw[rangeSize_one];split<;>omega
  change IsRangeIter _ _ (lo+((0:Nat):Int) * 1) ((((hi - lo).toNat:Nat):Int) - ((0:Nat):Int)) 1;rw[c,d];show bz _ J
 .have e:b=(s.heap.push { cls:=.type "range", data:=.fields #[.int lo t,.int hi u,.int 1 v] }).objs.size:=by exists f
  subst e;show a.I' (aG _) (a.e8.fresh (aG _))
def X7(b:TA):TI:=λd H R=>b d H λc a=>∃j:Int,c=[.int j]/\-(2 ^ 62)<=j/\j<2 ^ 62/\R (Itr 0 j.toNat) a
def PH{a:Expr}{d:TA}{p pos:Pos}(l:Gl X "range")(m:X.mg "range" = Z)(i:PA X [a] d)(o:aE [a] X.a8=[(δ,eval a X.a8)]:=by rfl):PI X tg (.Call (.Name "range" p) [a] [] pos) (X7 d):=by
 intro b s y H R I h;calc Call_ (Bs I l m boot_range (callWith_type1 (fb (i pos b s y H _ I h) λB A zz=>?_) o J));let#v[C,z,f,w,c]:=zz;let#v[j,e,c,u,q]:=c;subst e;cases w with
 |cons r x=>ext x;let#v[t,rfl]:=r;show call_range_1 (Q1 f () () c u (by exists q))
def Ve(c:TI)(g:TG)(tb:TS):TS:=λD σ H=>c σ H λA_ H1=>∃W:Nat->Nat->St->Hp->Prop,(∃m,W 0 m σ H1)/\∀i m σ H,W i m σ H->
 (A_.stop i H/\D.nx σ H)\/(A_.go i H/\∃N:St->Hp->Prop,(∀σ' H',N σ' H'->∃b,b<m/\W (i+1) b σ' H')/\∀x H',A_.yld i H x H'->g x σ H' λa H2=>tb { D with nx:=N,ct:=N,bk:=D.nx } a H2)
def GU(a:List Addr)(h:Heap):dh:=a.filterMap λb=>(h.get? b).map λo=>(b,o)
def Ac{h:Heap}(c:b∈a)(e:h.get? b=U o):(b,o)∈GU a h:=ja.2 #v[b,c,by rw[e];rfl]
def PJ(f:p∈GU c h):p.1∈c/\h.get? p.1=U p.2:=by
 let#v[b,d,e]:=ja.1 f;cases q:h.get? b with
 |none=>rw[q]at e;cases e
 |some o=>rw[q]at e;have a:(b,o)=p:=cZ e;subst a;show#v[d,q]
def b9.Rn(I:b9 X a t H s)(m:∀b∈f,Iq X a H b)(q:∀b∈f,∃o,s.heap.get? b=U o/\∀v,o.data≠.cell v):b9 X (a++GU f s.heap) t H s:=
 I.T? λp r=>(bt.1 r).elim (λz=>I.x4 p (bG _ z)) λz=>by let#v[h,e]:=PJ z;let#v[i,j,l,_]:=m p.1 h;let#v[o,c,d]:=q p.1 h;rw[e]at c;ext c;show#v[e,i,j,l,d]
def b9.nr(I:b9 X (a++pl) c H s):b9 X a c H s:=I.T? λp b=>I.x4 p (bG _ (bw _ b))
def MK(F:jA (model X.prog X.w) X.A X.a8 X.xe)(hc:X.k3=γ)(hi:PI X tg iter wi)(hg:PG X tg g)(p:kv X body tb)
  (hs:∀x,jd iter X.a8 x=pure x:=by intro _;rfl):PS X (.For tg iter body [] pos) (Ve wi g tb):=by
 intro a s σ H D I h;calc wpAny_For (fb (hi a s σ H _ I h) λv s1 h1=>fb h1 λitv s2 h2=>?_) hs;let#v[it,C,tn,A_,H2,e,I2,T,S,f2,W,#v[m0,w0],turn]:=h2;subst e;have stat:∀{y:Hp},(∀b∈C,y b=Z)->∀b∈C,Iq X a y b:=λhn b p=>#v[hn b p,(f2 b p).2];calc codeAny_forLoop_any (λn s'=>∃i q y,b9 X a q y s'/\tn i s'.heap/\(∀b∈C,y b=Z)/\W i n q y) ?_ m0 #v[0,σ,H2,I2,S,λb p=>(f2 b p).1,w0];rintro n s3 ⟨i,t,M,I3,G,E,w3⟩;rcases turn i n t M w3 with ⟨stop,qn⟩|⟨go,N,hN,step⟩
 .calc gx F (fb (T.done X J J J hc i a s3 t M X.xe I3 (stat E) G stop) λr s4 zz=>?_);let#v[Q,I4]:=zz;subst Q;show kC #v[t,M,I4,qn]
 .calc gx F (fb (T.item X J J J hc i a s3 t M X.xe I3 (stat E) G go) λr s4 zz=>?_);let#v[u,Q,h4]:=zz;subst Q;calc gx F (fb h4 λ_ s5 zz=>?_);let#v[x,H5,I5,r5,y5,B,P]:=zz;have O:=I5.Rn (stat P) (T.obj _ _ B);calc gx F (fb (hg _ s5 t H5 x u _ O r5 (step x H5 y5)) λ_ s6 zz=>?_);let#v[Y,H6,I6,q6]:=zz;calc gx F (fb (p _ s6 Y H6 _ I6 q6) λf R z=>?_);have again:∀{c:St} {j:Hp},b9 X (a++GU C s5.heap) c j R->N c j->∃m,m<n/\∃i q y,b9 X a q y R/\tn i R.heap/\(∀b∈C,y b=Z)/\W i m q y:=λ{c j} l n7=>by let#v[m',hm,w7]:=hN c j n7;calc#v[m',hm,i+1,c,j,l.nr,T.keep _ _ _ B λb p o e=>(l.x4 (b,o) (bG _ (bG _ (Ac p e)))).1,λb p=>?_,w7];let#v[o,e,d]:=T.obj _ _ B b p;show(l.x4 (b,o) (bG _ (bG _ (Ac p e)))).2.1
  cases f with
  |next=>let#v[c,j,l,n7]:=z;show again l n7
  |cont=>let#v[c,j,l,n7]:=z;show again l n7
  |brk=>let#v[c,j,l,z]:=z;show#v[c,j,l.nr,z]
  |ret v=>let#v[x7,c,j,l,r7,z]:=z;show#v[x7,c,j,l.nr,r7,z]
end
abbrev R2:=V->V->Hp->VK->Prop
def iE(X:Cx)(f:aa->aa->Sem aa)(r:R2):Prop:=
 ∀(a:dh) (s:aq) (b:St) (H:Hp) (x y:V) (v u:aa) (Q:VK),b9 X a b H s->d? x v->d? y u->r x y H Q->
  av (model X.prog X.w) X.A (f v u) (EP X a b Q) X.xe s
def xA(X:Cx)(f:aa)(r:bC->Hp->VK->Prop):Prop:=
 ∀(a:dh) (s:aq) (d:St) (H:Hp) (c:bC) (b:List aa) (Q:VK),b9 X a d H s->df c b->r c H Q->
  av (model X.prog X.w) X.A (call f b) (EP X a d Q) X.xe s
def tOp(r:R2)(d e:TE):TE:=λa H Q=>d a H λx b=>e a b λy c=>r x y c Q
inductive IrI(C:Int->Int->Prop) (g:Int->Int->V) (x:V) (y:V) (H:Hp) (Q:VK):Prop
 |i (i j) (h0:x=.int i) (h1:y=.int j) (h2:C i j) (h3:Q (g i j) H):IrI C g x y H Q
def rI(C:Int->Int->Prop)(g:Int->Int->V):R2:=λx y H Q=>IrI C g x y H Q
inductive IrI0(g:Int->Int->V) (x:V) (y:V) (H:Hp) (Q:VK):Prop
 |i (i j) (h0:x=.int i) (h1:y=.int j) (h2:Q (g i j) H):IrI0 g x y H Q
def Ra(g:Int->Int->V):R2:=λx y H Q=>IrI0 g x y H Q
section
variable{X:Cx}{a b c:Expr}{ta tb tc:TE}{pos:Pos}
def Ze(r:PE X a ta)(t:PE X b tb){d:dh}{s:aq}{i:St}{H:Hp}{R:V->V->Hp->Prop}(I:b9 X d i H s)
  (h:ta i H λx o=>tb i o λy e=>R x y e) {Q:aa->aq->Prop} {f:aa->aa->Sem aa}
  (z:∀v u m x y e,b9 X d i e m->d? x v->d? y u->R x y e->av (model X.prog X.w) X.A (f v u) Q X.xe m):
  av (model X.prog X.w) X.A (eval a X.a8) (λv j=>av (model X.prog X.w) X.A (eval b X.a8) (λu l=>av (model X.prog X.w) X.A (f v u) Q X.xe l) X.xe j) X.xe s:=by
 calc fb (r d s i H _ I h) λv G zz=>?_;let#v[x,o,p,E,B]:=zz;calc fb (t d G i o _ p B) λu m zz=>?_;let#v[y,e,q,F,C]:=zz;show z v u m x y e q E F C
def Of(l:iE X (c8 op) r)(i:PE X a ta)(j:PE X b tb):PE X (.BinOp a op b pos) (tOp r ta tb):=by intro d s t H Q I h;show wpAny_BinOp (Ze i j I h λv u p x y e f m o q=>l d p t e x y v u Q f m o q)
def opI{f:aa->aa->Sem aa}{C:Int->Int->Prop}{g:Int->Int->Int}
  (rule:∀(i j:Int) (t u:Tok) (s:aq) (Q:aa->aq->Prop) (E:aa->aq->Prop),C i j->Q (.int (g i j) s.toks) { s with toks:=s.toks+1 }->av (model X.prog X.w) X.A (f (.int i t) (.int j u)) Q E s):
  iE X f (rI C λi j=>.int (g i j)):=by
 intro pins s σ H x y v u Q I e ry h;let#v[i,j,rfl,rfl,d,q]:=h;let#v[t,rfl]:=e;let#v[l,rfl]:=ry;show rule i j t l s _ _ d #v[.int (g i j),H,I.w? _,#v[_,J],q]
def opI0{f:aa->aa->Sem aa}{g:Int->Int->Int}
  (rule:∀(i j:Int) (t u:Tok) (s:aq) (Q:aa->aq->Prop) (E:aa->aq->Prop),Q (.int (g i j) s.toks) { s with toks:=s.toks+1 }->av (model X.prog X.w) X.A (f (.int i t) (.int j u)) Q E s):
  iE X f (Ra λi j=>.int (g i j)):=by
 intro pins s σ H x y v u Q I d ry h;let#v[i,j,rfl,rfl,q]:=h;let#v[t,rfl]:=d;let#v[e,rfl]:=ry;show rule i j t e s _ _ #v[.int (g i j),H,I.w? _,#v[_,J],q]
def Vf{f:aa->aa->Sem aa}{g:Int->Int->Bool}
  (rule:∀(i j:Int) (t u:Tok) (s:aq) (Q:aa->aq->Prop) (E:aa->aq->Prop),Q (.bool (g i j)) s->av (model X.prog X.w) X.A (f (.int i t) (.int j u)) Q E s):
  iE X f (Ra λi j=>.bl (g i j)):=by
 intro d s o H x y v u Q I e l h;let#v[i,j,rfl,rfl,q]:=h;let#v[t,rfl]:=e;let#v[m,rfl]:=l;show rule i j t m s _ _ #v[.bl (g i j),H,I,J,q]
def Zf(i j:Int):Prop:=0<j/\j<1073741824
def CPow(i j:Int):Prop:=0<=j/\j<=1000000/\i.natAbs<2 ^ 64
def Vg(i j:Int):Prop:=(-(2 ^ 64)<i/\i<2 ^ 64)\/(-(2 ^ 64)<j/\j<2 ^ 64)
def Vg.ok(h:Vg i j):IntMulOk i j:=by
 rcases h with ⟨d,e⟩|⟨d,e⟩
 .show .of_left (rf d e)
 .show .of_right (rf d e)
def Zg:iE X (c8 .Add) (Ra λi j=>.int (i+j)):=opI0 λz z z z z z z q=>add_int q
def Zh:iE X (c8 .Sub) (Ra λi j=>.int (i - j)):=opI0 λz z z z z z z q=>sub_int q
def Zi:iE X (c8 .Mult) (rI Vg λi j=>.int (i * j)):=opI λz z z z z z z d q=>mul_int q d.ok
def Vh:iE X (c8 .FloorDiv) (rI Zf λi j=>.int (i / j)):=opI λi j z z z z z d q=>by have e:(0:Int)<j:=d.1;have f:j<1073741824:=d.2;show floordiv_int () (by rw[Int.fdiv_eq_ediv_of_nonneg i ()];show q) (.inl (PyProof.noPylong_small ()))
def Zj:iE X (c8 .Mod) (rI (λz j=>0<j) λi j=>.int (i % j)):=opI λi j z z z z z d q=>by have e:(0:Int)<j:=d;show mod_int' () (by rw[Int.fmod_eq_emod_of_nonneg i ()];show q)
def Zk:iE X (c8 .Pow) (rI CPow λi j=>.int (i ^ j.toNat)):=opI λz z z z z z z d q=>pow_int_small d.1 d.2.1 d.2.2 q
end
def Q2:V->V->Bool
 |.I,.I=>γ|.I,.int _=>γ|.int _,.I=>γ|.I,.bl _=>γ|.bl _,.I=>γ|.I,.str _=>γ|.str _,.I=>γ
 |.int _,.int _=>γ|.bl _,.bl _=>γ|.str _,.str _=>γ|.Y _,.Y _=>γ
 |.int _,.str _=>γ|.str _,.int _=>γ|.bl _,.str _=>γ|.str _,.bl _=>γ
 |_,_=>δ
def rEq:R2:=λx y H Q=>Q2 x y=γ/\Q (.bl (decide (x=y))) H
def rNe:R2:=λx y H Q=>Q2 x y=γ/\Q (.bl (!decide (x=y))) H
#print "Og int;Q3 bl;Oh str" in def ϑ0:decide (V.ϑ1 i=V.ϑ1 j)=(i==j):=by rw[dj];simp
def Oi:decide (V.Y i=V.Y j)=(i.toList==j.toList):=by rw[dj];ext i;ext j;simp
section
variable{X:Cx}{a b c:Expr}{ta tb tc:TE}{pos:Pos}
def wc(I:b9 X d h H s)(q:Q (.bl k) H)(e:k=f):EP X d h Q (.bool f) s:=by subst e;show#v[.bl k,H,I,J,q]
def ade:iE X (bD .Eq) rEq:=by
 intro m s o H x y v u Q I l d h;let#v[f,q]:=h;cases x with
 |I=>
  ext l;cases y with
  |I=>ext d;show tL (wc I q (by simp))
  |bl j=>ext d;show tN (wc I q (by simp))
  |int j=>let#v[e,rfl]:=d;show tY (wc I q (by simp))
  |str j=>let#v[e,rfl]:=d;show tZ (wc I q (by simp))
  |_=>show au (show δ=γ from f) bB
 |bl i=>
  ext l;cases y with
  |I=>ext d;show tP (wc I q (by simp))
  |bl j=>ext d;show eq_bool (wc I q Q3)
  |str j=>let#v[e,rfl]:=d;show tQ (wc I q (by simp))
  |_=>show au (show δ=γ from f) bB
 |int i=>
  let#v[t,rfl]:=l;cases y with
  |I=>ext d;show t8 (wc I q (by simp))
  |int j=>let#v[e,rfl]:=d;show eq_int (wc I q Og)
  |str j=>let#v[e,rfl]:=d;show ua (wc I q (by simp))
  |_=>show au (show δ=γ from f) bB
 |str i=>
  let#v[t,rfl]:=l;cases y with
  |I=>ext d;show ub (wc I q (by simp))
  |bl j=>ext d;show tR (wc I q (by simp))
  |int j=>let#v[e,rfl]:=d;show uc (wc I q (by simp))
  |str j=>let#v[e,rfl]:=d;show eq_str (wc I q Oh)
  |_=>show au (show δ=γ from f) bB
 |Y i=>
  let#v[t,rfl]:=l;cases y with
  |Y j=>let#v[e,rfl]:=d;show W.eq_bytes (wc I q Oi)
  |_=>show au (show δ=γ from f) bB
 |_=>ext y<;>show au (show δ=γ from f) bB
def adf:iE X (bD .NotEq) rNe:=by
 intro m s o H x y v u Q I l d h;let#v[f,q]:=h;cases x with
 |I=>
  ext l;cases y with
  |I=>ext d;show tS (wc I q (by simp))
  |bl j=>ext d;show tT (wc I q (by simp))
  |int j=>let#v[e,rfl]:=d;show ud (wc I q (by simp))
  |str j=>let#v[e,rfl]:=d;show ue (wc I q (by simp))
  |_=>show au (show δ=γ from f) bB
 |bl i=>
  ext l;cases y with
  |I=>ext d;show tU (wc I q (by simp))
  |bl j=>ext d;show ne_bool (wc I q (aW not Q3))
  |str j=>let#v[e,rfl]:=d;show tV (wc I q (by simp))
  |_=>show au (show δ=γ from f) bB
 |int i=>
  let#v[t,rfl]:=l;cases y with
  |I=>ext d;show uf (wc I q (by simp))
  |int j=>let#v[e,rfl]:=d;show ne_int (wc I q (aW not Og))
  |str j=>let#v[e,rfl]:=d;show ug (wc I q (by simp))
  |_=>show au (show δ=γ from f) bB
 |str i=>
  let#v[t,rfl]:=l;cases y with
  |I=>ext d;show uh (wc I q (by simp))
  |bl j=>ext d;show tW (wc I q (by simp))
  |int j=>let#v[e,rfl]:=d;show ui (wc I q (by simp))
  |str j=>let#v[e,rfl]:=d;show ne_str (wc I q (aW not Oh))
  |_=>show au (show δ=γ from f) bB
 |Y i=>
  let#v[t,rfl]:=l;cases y with
  |Y j=>let#v[e,rfl]:=d;show W.ne_bytes (wc I q (aW not Oi))
  |_=>show au (show δ=γ from f) bB
 |_=>ext y<;>show au (show δ=γ from f) bB
#print "g Lt i j lt_int;i Gt j i gt_int" in def adϑ0:iE X (bD .ϑ1) (Ra λi j=>.bl (decide (ϑ2<ϑ3))):=Vf λz z z z z z z q=>ϑ4 q
#print "h LtE i j le_int;j GtE j i ge_int" in def adϑ0:iE X (bD .ϑ1) (Ra λi j=>.bl (decide (ϑ2<=ϑ3))):=Vf λz z z z z z z q=>ϑ4 q
def Zl:iE X (bD .Is) (λx y H Q=>y=.I/\Q (.bl (decide (x=.I))) H):=by
 intro d s i H x y v u Q I e f h;let#v[rfl,q]:=h;ext f;calc is_none_gen (wc I q ?_);ext x<;>first
  |(ext e;rfl)
  |(let#v[t,rfl]:=e;rfl)
def Vi:iE X (bD .IsNot) (λx y H Q=>y=.I/\Q (.bl (!decide (x=.I))) H):=by
 intro d s i H x y v u Q I e f h;let#v[rfl,q]:=h;ext f;calc isnot_none_gen (wc I q ?_);ext x<;>first
  |(ext e;rfl)
  |(let#v[t,rfl]:=e;rfl)
def Vj(m:iE X (bD op) r)(i:PE X a ta)(j:PE X b tb)(l:gz op b=δ):PE X (.Compare a [op] [b] pos) (tOp r ta tb):=by intro d s w H Q I h;show wpAny_Compare1 (Ze i j I h λv u t x y e f o p q=>m d t w e x y v u Q f o p q) l
def Q4(t:TE):TT:=λe H Q=>t e H λx d=>∃k,x=.bl k/\Q k d
def Vk(A:iE X (bD op) r)(q:PE X a ta)(t:PE X b tb)(w:gz op b=δ):PT X (.Compare a [op] [b] pos) (Q4 (tOp r ta tb)):=by
 intro d s f H Q I h;refine ph (fb (q d s f H _ I h) λv N #v[x,i,m,F,B]=>fb (t d N f i _ m B) λu O #v[y,j,o,G,C]=>
  fb (A d O f j x y v u _ o F G C) λc P #v[z,l,p,M,k,e,E]=>?_) w
 subst e;ext M;show dH #v[l,p,E]
def ML(r j:R2)(ta tb tc:TE):TE:=λd H Q=>ta d H λx f=>tb d f λy h=>r x y h λz e=>∃k,z=.bl k/\
 (if k=γ then tc d e λl i=>j y l i Q else Q (.bl δ) e)
def Q5(O:iE X (bD op) r)(l:iE X (bD i) T)(F:PE X a ta)(G:PE X b tb)(M:PE X c tc)
  (N:lastMarks [op,i] [b,c]=δ:=by with_unfolding_all rfl):PE X (.Compare a [op,i] [b,c] pos) (ML r T ta tb tc):=by
 intro f s j H Q I h;refine Compare_chain (fb (F f s j H _ I h) λv s1 #v[x,t,B,W,P]=>chain_link (fb (G f s1 j t _ B P) λu s2 #v[y,w,C,q,R]=>
  fb (O f s2 j w x y v u _ C W q R) λd s3 #v[z,m,o,Y,k,e,p]=>?_)) N
 subst e;ext Y;calc dH ?_;cases k with
 |false=>show ite_ff #v[.bl δ,m,o,J,p]
 |true=>show ite_tt (chain_last (fb (M f s3 j m _ o p) λw' s4 #v[z',A,E,r4,S]=>l f s4 j A y z' u w' Q E q r4 S))
def Q6(T:iE X (bD op) r)(l:iE X (bD i) r')(O:PE X a ta)(P:PE X b tb)(R:PE X c tc)
  (S:lastMarks [op,i] [b,c]=δ:=by with_unfolding_all rfl):PT X (.Compare a [op,i] [b,c] pos) (Q4 (ML r r' ta tb tc)):=by
 intro f s j H Q I h;refine isTrue_chain (fb (O f s j H _ I h) λv s1 #v[x,t,C,r1,Y]=>test_link (fb (P f s1 j t _ C Y) λu s2 #v[y,w,E,q,q2]=>
  fb (T f s2 j w x y v u _ E r1 q q2) λd s3 #v[z,m,o,r3,k,e,p]=>?_)) S
 subst e;ext r3;calc dH ?_;cases k with
 |false=>let#v[k',M,W]:=p;ext M;show ite_ff #v[m,o,W]
 |true=>calc ite_tt (test_last (fb (R f s3 j m _ o p) λw' s4 #v[z',A,F,r4,q4]=>fb (l f s4 j A y z' u w' _ F q r4 q4) λd' s5 #v[z2,B,G,r5,k2,N,q5]=>?_));subst N;ext r5;show dH #v[B,G,q5]
def GV:(aS:Nat)<2 ^ 63:=by rw[bS];decide
inductive IV1(x:V) (us:List aa):Prop
 |i (u:aa) (e:us=[u]) (r:d? x u):IV1 x us
def lq(r:df [x] f):IV1 x f:=by
 cases r with
 |cons d e=>ext e;show#v[_,J,d]
def vals2(r:df [x,y] j):∃u d,j=[u,d]/\d? x u/\d? y d:=by
 cases r with
 |cons e f=>
  cases f with
  |cons h i=>ext i;show#v[_,_,J,e,h]
def PK:xA X (.type "int") (λd H Q=>(∃i,d=[.int i]/\Q (.int i) H)\/∃k,d=[.bl k]/\Q (.int (if k then 1 else 0)) H):=by
 intro e s l H d j Q I r h;rcases h with ⟨i,rfl,q⟩|⟨k,rfl,q⟩
 .let#v[u,rfl,t,rfl]:=lq r;show call_int_int #v[.int i,H,I,#v[_,J],q]
 .let#v[u,rfl,f]:=lq r;ext f;show call_int_bool #v[.int (if k then 1 else 0),H,I.w? _,#v[_,J],q]
end
structure MM(h:Heap)(x dx C:Addr)(mA:Str->Option aa):Prop where
 obj:h.get? x=U (fD C dx)
 ns:h.Ns1 dx mA
 ne:dx≠x
#print h
def PL{h:Heap}(n:h.Ns1 f mA):∃c,h.get? f=U c/\∀name,kX name c=U (mA name):=by
 let#v[o,b,p,l,hd,i,_,j]:=n;calc#v[o,l,λname=>?_];have e:=j name;delta nsFind findBy at e;rw[<-Array.find?_toList]at e;delta kX;rw[hd];dsimp only;split
 .rename_i y q;rw[q]at e;show aW U e
 .rename_i q;rw[q]at e;have a:b.toList.any (·.refKey)=δ:=by rw[l8];intro y m;let#v[z,t,hkey]:=i y (Array.mem_toList_iff.1 m);simp[DictEntry.refKey,hkey]
  have d:¬b.toList.any (·.refKey)=γ:=by rw[a];show bB
  rw[ai d];show aW U e
#print f
def MM.look(I:MM h x b C mA):∃a,W.InstAt h x (fD C b) C (U a)/\∀name,kX name a=U (mA name):=
 let #v[a,d,c]:=PL I.ns
 #v[a,#v[I.obj,J,J,d],c]
section
variable{prog:bj}{w:aR}{A:bp}{E:aa->aq->Prop}{s:aq}{K:ay}{x dx C f:Addr}{mA:Str->Option aa}{name:Str}{v:aa}
def get_map(X:K.In s.heap)(I:MM s.heap x dx C mA)(b:kQ K C name=γ)(c:nG K C=γ)
  (ha:c9 K (.ref C) name=U Z) (hv:mA name=U v) (a:W.handedIn v=γ) (h:Q v { s with toks:=s.toks+1 }):
  av (model prog w) A (getAttr (.ref x) name expr) Q E s:=by
 let#v[od,A_,d]:=I.look;show W.get_value X A_ (mS b).1 (W.findObj_own c ha J (by rw[d,hv])) a h
def Q7(X:K.In s.heap)(I:MM s.heap x dx C mA)(a:kQ K C name=γ)
  (b:c9 K (.ref C) name=U (U (.ref f))) (d:k5 K (.ref f)=γ) (e:mA name=Z) (h:Q (.ref f,[.ref x]) s):
  av (model prog w) A (getMethod (.ref x) name pl) Q E s:=by
 let#v[i,A_,c]:=I.look;show W.method_fn X A_ (mS a).1 (mS a).2 b (beq_iff_eq.mp d) (by change (kX name i).map (·.isSome)=U δ;rw[c,e];rfl) h
def Vl(X:K.In s.heap)(I:MM s.heap x dx C mA)
  (hs:c9 K (.ref C) "__setattr__" = U (U (.builtin "object.__setattr__"))) (l:rX K C=γ) (ht:nZ K C name=U Z) (j:nG K C=γ)
  (o:m3 mA ns) (m:ns.length<=aS)
  (h:∀h',MM h' x dx C (λy=>if y=name then U v else mA y)->gH dx s.heap h'->Q Unit.unit { s with heap:=h',toks:=s.toks+2 }):
  av (model prog w) A (setAttr (.ref x) name v) Q E s:=by
 let#v[od,A_,t]:=I.look;calc W.set_plain X A_ hs (W.osa_open (s:={ s with toks:=s.toks+1 }) (r:=Z) X A_ l ht λb=>?_);let#v[q,i,e]:=W.any_some j;have p:s.heap.get? x=U #v[.ref C,U dx,.plain,[].toArray]:=I.obj;calc ar (aC (ar (ar (wpAny_loadPart p (ar (W.Looks.here (s:={ s with toks:=s.toks+1 }) (W.looks_clsIn X i) ?_))))));rw[e];calc aC (a:=U dx) (ar (aC (ar ?_)));calc wpAny_nsSet1 (s:={ s with toks:=s.toks+1 }) I.ns λh' c d=>?_;let#v[oD,esD,epD,hoD,hdD,hcD]:=c.count (uY name v o);calc ar (wpAny_lookBehind hoD (by rw[hdD];show pastItsLine_dict (bW hcD (by rw[aL];omega))) ?_);show aC (h _ #v[(d.2 _ (cg I.ne)).t I.obj,c,I.ne] d)
def Q8(X:K.In s.heap)(hm:n4 K C=γ)
  (hi:c9 K (.ref C) "__init__" = U (U (.ref f))) (b:W.typeIn K (.ref f)=U (.type "function"))
  (h:cK (model prog w) (A.under (.builtin "type.__call__" #v[.ref C::vs,a])) (.call (.ref f) #v[.ref (~~~s+1)::vs,a]) (W.InitBack (~~~s+1) R)
   { s with heap:=(s.heap.push eG).push (fD C (~~~s)) }):
  cK (model prog w) A (.call (.ref C) #v[vs,a]) R s:=by
 let#v[c,g,d,t,os]:=s;show rY (nY X hm) (qS X hi) (λself=>W.bind_fn X self b) (.inl J) h
def PM(X:K.In s.heap)(hm:n4 K C=γ)
  (hi:c9 K (.ref C) "__init__" = U (U (.builtin "object.__init__")))
  (a:∀self,W.Looks (model prog w) s.heap (bindSpecial (.builtin "object.__init__") self) (.builtin "object.__init__", [self]))
  (h:cK (model prog w) (A.under (.builtin "type.__call__" #v[[.ref C],[]])) (.call (.builtin "object.__init__") #v[[.ref (~~~s+1)],[]]) (W.InitBack (~~~s+1) R)
   { s with heap:=(s.heap.push eG).push (fD C (~~~s)) }):
  cK (model prog w) A (.call (.ref C) #v[[],[]]) R s:=by
 let#v[b,g,d,t,os]:=s;show rY (nY X hm) (qS X hi) a (.inr #v[J,J]) h
end
def Ba(f:Str)(v:V):List (Str×V)->List (Str×V)
 |[]=>[(f,v)]
 |(g,x)::r=>if g=f then (g,v)::r else (g,x)::Ba f v r
theorem FH(f g:Str)(v:V):∀fs:List (Str×V),(Ba f v fs).lookup g=if g=f then U v else fs.lookup g
 |[]=>by
  change dQ g [(f,v)]=_;by_cases h:g=f
  .have a:(g==f)=γ:=beq_iff_eq.mpr h;erw[dQ,a,af h]
  .have a:(g==f)=δ:=beq_eq_false_iff_ne.2 h;erw[dQ,a,ai h]
 |(k,x)::r=>by
  have c:=FH f g v r;rw[show Ba f v ((k,x)::r)=(if k=f then (k,v)::r else (k,x)::Ba f v r) from J];by_cases b:k=f
  .rw[af b];by_cases h:g=k
   .have a:(g==k)=γ:=beq_iff_eq.mpr h;erw[dQ,a,af (h.t b)]
   .have a:(g==k)=δ:=beq_eq_false_iff_ne.2 h;erw[dQ,a,ai (λe:g=f=>h (e.t b.symm))]
  .rw[ai b];by_cases h:g=k
   .have a:(g==k)=γ:=beq_iff_eq.mpr h;erw[dQ,a,ai (λe:g=f=>b (h.symm.t e))]
   .have a:(g==k)=δ:=beq_eq_false_iff_ne.2 h;erw[dQ,a];show c
theorem E7(f:Str)(v:V):∀fs:List (Str×V),f∈(Ba f v fs).map (·.1)/\∀g,g∈fs.map (·.1)->g∈(Ba f v fs).map (·.1)
 |[]=>#v[by simp[Ba],λg h=>by simp at h]
 |(k,x)::r=>by
  let#v[b,c]:=E7 f v r;rw[show Ba f v ((k,x)::r)=(if k=f then (k,v)::r else (k,x)::Ba f v r) from J];by_cases a:k=f
  .rw[af a];subst a;show#v[by simp,λg h=>by exists h]
  .rw[ai a];refine#v[?_,λg h=>?_]
   .rw[aA];show bg _ b
   .rw[aA]at h ⊢;rcases aJ.1 h with e|e
    .show aJ.2 (.inl e)
    .show bg _ (c g e)
theorem FI(f:Str)(v:V):∀fs:List (Str×V),(Ba f v fs).length<=fs.length+1
 |[]=>by simp[Ba]
 |(k,x)::r=>by
  have b:=FI f v r;rw[show Ba f v ((k,x)::r)=(if k=f then (k,v)::r else (k,x)::Ba f v r) from J];by_cases a:k=f
  .rw[af a,aL,aL];omega
  .rw[ai a,aL,aL];omega
def Cp.E?(r:Cp (U v) o):∃u,o=U u/\d? v u:=by
 cases o with
 |none=>show(show False from r).elim
 |some u=>show#v[u,J,r]
def Cp.none_of(r:Cp Z o):o=Z:=by
 cases o with
 |none=>rfl
 |some u=>show(show False from r).elim
def PN(r:d? v u):W.handedIn u=γ:=by
 cases v with
 |I=>cases (show u=Value.none from r);rfl
 |bl b=>cases (show u=Value.bool b from r);rfl
 |int i=>let#v[t,e]:=(show ∃t,u=Value.int i t from r);ext e;rfl
 |str x=>let#v[t,e]:=(show ∃t,u=Value.str x t from r);ext e;rfl
 |Y b=>let#v[t,e]:=(show ∃t,u=Value.bytes b t from r);ext e;rfl
 |flt b=>let#v[t,e]:=(show ∃t,u=Value.float b t from r);ext e;rfl
 |ref a=>cases (show u=Value.ref a from r);rfl
 |ty n=>cases (show u=Value.type n from r);rfl
section
variable{P:bj}{w:aR}{H H':Hp}{h h':Heap}{a C dx:Addr}{fs fs':List (Str×V)}
def Bt(e8:q? P w H h)(e:H a=U (.l' C dx fs)):∃mA,MM h a dx C mA/\(∀f,Cp (fs.lookup f) (mA f))/\m3 mA (fs.map (·.1))/\fs.length<=1000/\H dx=U (.gy a):=by let#v[d,z,ne,b,mA,n,r,q]:=(show er P w H h a (.l' C dx fs) from e8 a _ e);show#v[mA,#v[b,n,ne],r,q,z,d]
end
structure P2(K:ay)(C:Addr):Prop where
 pg:kQ K C Str.empty=γ
 hd:nG K C=γ
 po:rX K C=γ
 sa:c9 K (.ref C) "__setattr__" = U (U (.builtin "object.__setattr__"))
def P2.get{K:ay}{C:Addr}(c:P2 K C)(f:Str):kQ K C f=γ:=c.pg
def AR(K:ay)(C:Addr)(f:Str):Prop:=c9 K (.ref C) f=U Z
def AR.taker{K:ay}{C:Addr}{f:Str}(n:AR K C f):nZ K C f=U Z:=by delta nZ;rw[show c9 K (.ref C) f=U Z from n];rfl
structure Meth(K:ay)(C:Addr)(m:Str)(f:Addr):Prop where
 k0:c9 K (.ref C) m=U (U (.ref f))
 fn:k5 K (.ref f)=γ
 kp:eM K (.ref f)=γ
section
variable{X:Cx}{pins:dh}{σ:St}{H:Hp}{s:aq}{a C dx:Addr}{fs:List (Str×V)}{f:Str}{v:V}{A:bp}{E:aa->aq->Prop}
def MN(I:b9 X pins σ H s)(e:H a=U (.l' C dx fs))(c:P2 X.K C)(n:AR X.K C f)(l:fs.lookup f=U v)
  (h:∀u i,b9 X pins σ H i->d? v u->Q u i):av (model X.prog X.w) A (getAttr (.ref a) f b) Q E s:=by
 let#v[mA,O,r,_,_,_]:=Bt I.e8 e;let#v[u,j,d]:=Cp.E? (v:=v) (o:=mA f) (by rw[<-l];show r f);show get_map I.n? O (c.get f) c.hd n j (PN d) (h u _ (I.w? _) d)
def GW(I:b9 X pins σ H s)(e:H a=U (.l' C dx fs))(c:P2 X.K C)(k:Meth X.K C m g)(l:fs.lookup m=Z)
  (h:Q (.ref g,[.ref a]) s):av (model X.prog X.w) A (getMethod (.ref a) m pl) Q E s:=by
 let#v[mA,O,r,_,_,_]:=Bt I.e8 e;have b:mA m=Z:=Cp.none_of (by rw[<-l];show r m);show Q7 I.n? O (c.get m) k.k0 k.fn b h
def MO(I:b9 X pins σ H s)(e:H a=U (.l' C dx fs))(c:P2 X.K C)(n:AR X.K C f)(N:fs.length<1000)(G:d? y u)
  (h:∀j,b9 X pins σ (el H a (.l' C dx (Ba f y fs))) j->Q Unit.unit j):av (model X.prog X.w) A (setAttr (.ref a) f u) Q E s:=by
 let#v[mA,O,r,l,_,i]:=Bt I.e8 e;have F:(fs.map (·.1)).length<=aS:=by rw[ah,bS];omega
 calc Vl I.n? O c.sa c.po n.taker c.hd l F λp d M=>h _ ?_;have hd:∃o,p.get? dx=U o:=let #v[o,_,_,m,_]:=d.ns;#v[o,m];calc I.xp (x:=a) (e:=dx) (by rw[e];show True.intro) (.inr i) (λb q t z=>(M.2 b t).t z) hd ?_;refine#v[by rw[vt O.ne];show i,?_,O.ne,d.obj,_,d.ns,λg=>?_,λg B=>?_]
 .have:=FI f y fs;omega
 .change Cp ((Ba f y fs).lookup g) (if g=f then U u else mA g);rw[FH];by_cases q:g=f
  .rw[af q,af q];show G
  .rw[ai q,ai q];show r g
 .by_cases q:g=f
  .rw[q];show(E7 f y fs).1
  .calc(E7 f y fs).2 g (l g λz=>B ?_);change (if g=f then U u else mA g)=Z;rw[ai q];show z
def b9.made(I:b9 X pins σ H s):b9 X pins σ (el (el H (~~~s) (.gy (~~~s+1))) (~~~s+1) (.l' C (~~~s) []))
  { s with heap:=(s.heap.push eG).push (fD C (~~~s)) }:=by
 have c:(s.heap.push eG).get? (~~~s)=U eG:=bz s.heap J;have h:((s.heap.push eG).push (fD C (~~~s))).get? (~~~s+1)=U (fD C (~~~s)):=by
  have:=bz (s.heap.push eG) (o:=fD C (~~~s)) J
  rwa [c5]at this
 have i:(s.heap.push eG).Ns (~~~s) (λz=>Z):=#v[eG,[].toArray,_,c,J,(λe j=>au j (by simp)),λz=>J];have d:=I.laid (a:= ~~~s) (o:=.gy (~~~s+1)) (h':=s.heap.push eG) (t':=s.toks) (λb u q=>aK _ q) (aG _) #v[_,c];calc d.laid (a:= ~~~s+1) (o:=.l' C (~~~s) []) (t':=s.toks) (λb u q=>aK _ q) (m5 (c5 _ _)) ?_;have ne: ~~~s≠~~~s+1:=bf (cY _);calc#v[by rw[vt ne,vp],bP _,ne,h,λz=>Z,(Heap.Ns1.of_empty i).at λo q=>aK _ q,λz=>True.intro,λy l=>au J l]
def Vm(c:fo e f a8 (eval e a8)=eval e a8)
  (h:av (model prog w) A (eval e a8) (λo b=>av (model prog w) A (getAttr o f γ) Q E b) E s):av (model prog w) A (eval (.Attribute e f pos) a8) Q E s:=
 Attribute_any_ h (by rw[arm_eval_Attribute,c])
end
def tFld(K:ay)(d:TE)(f:Str):TE:=λe H Q=>d e H λx b=>∃a C c fs v,x=.ref a/\b a=U (.l' C c fs)/\P2 K C/\AR K C f/\fs.lookup f=U v/\Q v b
def sFld(K:ay)(h i:TE)(f:Str):TS:=λD b H=>i b H λy e=>h b e λx c=>∃a C d fs,x=.ref a/\c a=U (.l' C d fs)/\P2 K C/\AR K C f/\fs.length<1000/\
 D.nx b (el c a (.l' C d (Ba f y fs)))
section
variable{X:Cx}{o e value:Expr}{f:Str}{pos pos' tpos:Pos}{ta tv:TE}
def Zm(t:PE X e ta)(r:fo e f X.a8 (eval e X.a8)=eval e X.a8):PE X (.Attribute e f pos) (tFld X.K ta f):=by intro b s z H Q I h;calc Vm r (fb (t b s z H _ I h) λu B zz=>?_);let#v[x,d,i,y,a,C,A,fs,v,p,m,c,n,l,q]:=zz;subst p;obtain rfl:u=Value.ref a:=y;show MN i m c n l λF E j w=>#v[v,d,j,w,q]
def Zn(w:PE X o ta)(A:PE X value tv)(z:eL value (U (.Attribute o f pos')) pos.line X.a8=pure δ):PS X (.Assign [.Attribute o f pos'] value pos) (sFld X.K ta tv f):=by intro b s d H D I h;calc plainObj_wpAny_Assign_Attribute (fb (A b s d H _ I h) λu M #v[y,i,j,G,q]=>fb (w b M d i _ j q) λB P zz=>?_) z;let#v[x,N,m,F,a,C,O,fs,t,r,c,n,l,E]:=zz;subst t;obtain rfl:B=Value.ref a:=F;show MO m r c n l G λQ p=>#v[d,_,p,E]
end
section
variable{X:Cx}{pins:dh}{σ:St}{H:Hp}{s:aq}{A:bp}{E:aa->aq->Prop}{Q:aa->aq->Prop}{c:aa}{b:Bool}
inductive Gm(K:ay) (H:Hp):V->aa->Prop where
 |I:Gm K H .I (.type "NoneType")
 |bl (x:Bool):Gm K H (.bl x) (.type "bool")
 |int (i:Int):Gm K H (.int i) (.type "int")
 |str (x:Str):Gm K H (.str x) (.type "str")
 |flt (x:UInt64):Gm K H (.flt x) (.type "float")
 |ax {a:Addr} {xs:bC} (e:H a=U (.ax xs)):Gm K H (.ref a) (.type "list")
 |k4 {a:Addr} {o:Obj} {xs:bC} (e:H a=U (.k4 o (.ax xs))):Gm K H (.ref a) (.type "list")
 |bx {a:Addr} {xs:bC} (e:H a=U (.bx xs)):Gm K H (.ref a) (.type "tuple")
 |dK {a:Addr} {kvs:List (ef×V)} (e:H a=U (.dK kvs)):Gm K H (.ref a) (.type "dict")
 |dT {a:Addr} {kvs:List (List ef×V)} (e:H a=U (.dT kvs)):Gm K H (.ref a) (.type "dict")
 |l' {a C dx:Addr} {fs:List (Str×V)} (e:H a=U (.l' C dx fs)) (cl:P2 K C) (ha:c9 K (.ref C) "__class__" = U (U (.builtin "object.__class__")))
   (hn:rZ K (.builtin "object.__class__") "__get__" = U (U (.builtin "getset_descriptor.__get__"))) (htk:W.takesIn K (.builtin "object.__class__")=U γ)
   (hm:W.mroIn K C (.type "object")=U γ):Gm K H (.ref a) (.ref C)
def zY(I:b9 X pins σ H s)(f:d? x u)(ty:Gm X.K H x t)(e:de X.K t c=U b)(h:∀tk,Q (.bool b) { s with toks:=tk }):
  av (model X.prog X.w) A (call (.builtin "isinstance") [u,c]) Q E s:=by
 cases ty with
 |I=>cases (show u=Value.none from f);show cQ W.kitx_none I.n? True.intro e (λz=>nomatch z) h
 |bl y=>cases (show u=Value.bool y from f);show cQ W.kitx_bool I.n? True.intro e (λz=>nomatch z) h
 |int i=>let#v[t,q]:=(show ∃t,u=Value.int i t from f);ext q;show cQ W.kitx_int I.n? True.intro e (λz=>nomatch z) h
 |str y=>let#v[t,q]:=(show ∃t,u=Value.str y t from f);ext q;show cQ W.kitx_str I.n? True.intro e (λz=>nomatch z) h
 |flt y=>let#v[t,q]:=(show ∃t,u=Value.float y t from f);ext q;show cQ W.kitx_float I.n? True.intro e (λz=>nomatch z) h
 |@ax a xs d=>cases (show u=Value.ref a from f);let#v[_,_,n,_,h1]:=(show er X.prog X.w H s.heap a (.ax xs) from I.e8 a _ d);show cQ nH I.n? #v[_,h1,J] e (λz=>nomatch z) h
 |@k4 a ob xs d=>cases (show u=Value.ref a from f);let#v[_,_,_,n,_,h1]:=(show er X.prog X.w H s.heap a (.k4 ob (.ax xs)) from I.e8 a _ d);show cQ nH I.n? #v[_,h1,J] e (λz=>nomatch z) h
 |@bx a xs d=>cases (show u=Value.ref a from f);let#v[_,_,_,p,_]:=(show er X.prog X.w H s.heap a (.bx xs) from I.e8 a _ d);let#v[o,h1,h2,_]:=p;show cQ rL I.n? #v[o,h1,h2] e (λz=>nomatch z) h
 |@dK a kvs d=>cases (show u=Value.ref a from f);let#v[_,_,vs,_,p]:=(show er X.prog X.w H s.heap a (.dK kvs) from I.e8 a _ d);let#v[o,es,ep,h1,h2,_]:=p;show cQ kO I.n? #v[o,h1,h2.1] e (λz=>nomatch z) h
 |@dT a kvs d=>cases (show u=Value.ref a from f);let#v[_,_,xs,_,o,es,ep,h1,h2,_]:=(show er X.prog X.w H s.heap a (.dT kvs) from I.e8 a _ d);show cQ kO I.n? #v[o,h1,h2.1] e (λz=>nomatch z) h
 |@l' a C dx fs d cl ha hn htk hm=>cases (show u=Value.ref a from f);let#v[mA,O,_]:=Bt I.e8 d;let#v[od,A_,_]:=O.look;show cQ (W.kitx_own (cl.get _) cl.hd ha hn htk hm) I.n? A_ e (λz=>nomatch z) h
end
structure xg(k:Nat)(A:bp):Prop where
 hd:A.handled=Z
 dp:A.depth+3 * k+5<recursionLimit
 un:A.units+16 * k+200<cLine
def xg.mono(r:xg k A)(h:j<=k):xg j A:=#v[r.hd,by have:=r.dp;omega,by have:=r.un;omega]
theorem xg.deeper(r:xg (k+1) A)(a8:Env):xg k (A.deeper a8):=
 #v[r.hd,by have:=r.dp;change A.depth+1+3 * k+5<_;omega,by have:=r.un;change A.units+3+16 * k+200<_;omega]
def MP{A:bp}:(A.under (.builtin "type.__call__" #v[.ref C::b,a])).depth=A.depth+1:=by
 first|rfl|simp[m6,Code.weight,Code.isCreation,Code.isGuard,Code.isCaller,r6,m7,guardIds]
def MQ{A:bp}:(A.under (.builtin "type.__call__" #v[.ref C::b,a])).units=A.units+1:=by
 first|rfl|simp[m6,Code.cUnits,r6,m7]
def xg.make(r:xg (k+1) A)(C:Addr)(b:List aa)(a:List (Str×aa)):xg k (A.under (.builtin "type.__call__" #v[.ref C::b,a])):=
 #v[r.hd,by have:=r.dp;rw[MP];omega,by have:=r.un;rw[MQ];omega]
theorem xg.depth(r:xg k A):A.depth<recursionLimit:=by have:=r.dp;omega
theorem xg.units(r:xg k A):A.units+64<cLine:=by have:=r.un;omega
def JM:TA:=λz H Q=>Q [] H
def Ef(d:TE)(e:TA):TA:=λa H Q=>d a H λx b=>e a b λf c=>Q (x::f) c
section
variable{X:Cx}{e:Expr}{es:List Expr}{te:TE}{t:TA}{pos:Pos}
def zd:PA X [] JM:=λz z z z H Q I h=>ie #v[[],H,I,.nil,h]
def wQ(j:PE X e te)(l:PA X es t)(m:aE (e::es) X.a8=(δ,eval e X.a8)::aE es X.a8:=by rfl):PA X (e::es) (Ef te t):=by intro pos a s b H Q I h;rw[m];change av _ _ (spliced ((δ,eval e X.a8)::bM pos (aE es X.a8))) _ _ s;calc gh (fb (j a s b H _ I h) λu w zz=>?_);let#v[x,c,f,q,o]:=zz;show fb (l pos a w b c _ f o) λA z #v[y,d,i,r,p]=>#v[x::y,d,i,.cons q r,p]
#print "Tup bx;Lst ax" in def tϑ0(t:TA):TE:=λc H Q=>t c H λb a=>b.length<=aS/\∀p,a p=Z->Q (.ref p) (el a p (.ϑ1 b))
def Q9{m}(h:PA X es t):PE X (.Tuple es m pos) (tTup t):=by intro a s w H Q I j;calc wpAny_Tuple_spliced (fb (h pos a s w H _ I j) λl c #v[p,d,f,r,z,q]=>#v[by rw[<-r.length];show z,?_]);have i:d (~~~c)=Z:=f.e8.fresh (aG _);calc#v[.ref (~~~c),el d (~~~c) (.bx p),f.laid (t':=c.toks) (λb u e=>aK _ e) (aG _) ?_,J,q _ i];show#v[z,l,r,#v[_,bz _ J,J,_,J],λo e=>by rw[bz _ J]at e;ext e;rfl]
def Rb(h:PA X es t):PE X (.List es pos) (tLst t):=by intro a s o H Q I j;calc wpAny_List_spliced (fb (h pos a s o H _ I j) λl c #v[m,d,f,r,z,q]=>#v[by rw[<-r.length];show z,?_]);have i:d (~~~c)=Z:=f.e8.fresh (aG _);calc#v[.ref (~~~c),el d (~~~c) (.ax m),f.laid (t':=c.toks) (λb u e=>aK _ e) (aG _) ?_,J,q _ i];show#v[z,l,0,r,bz _ J]
end
abbrev Sp:=bC->Hp->VK->XK->Prop
abbrev υ:=List Env->Hp->aq->XK->aa->aq->Prop
structure MR(P:bj)(w:aR)(K:ay)(mg:Str->Option aa)(a7:Heap)(A:bp)(b8:List Env)(s:aq)(H:Hp):Prop where
 frames:A.frames=U b8
 Dv:Mod K mg a7
 bs:∀b o,a7.get? b=U o->s.heap.get? b=U o/\H b=Z
 bsz:a7.objs.size<= ~~~s
 ts:s.heap.FunFrames a7 b8
 frf:∀b∈χ b8,H b=Z
 e8:q? P w H s.heap
 jl:fF s.gens
def CE(b8:List Env)(P:bj)(w:aR)(H:Hp)(s:aq)(Q:VK)(u:aa)(a:aq):Prop:=
 ∃v b,a.os=s.os/\fF a.gens/\Un (χ b8) [] H b s.heap a.heap/\q? P w b a.heap/\d? v u/\Q v b
def CR(CX:υ)(b8:List Env)(P:bj)(w:aR)(H:Hp)(s:aq)(Q:VK)(E:XK)(r:k6)(a:aq):Prop:=
 match r with
 |.ok (.ret u)=>CE b8 P w H s Q u a
 |.ok _=>False
 |.error e=>CX b8 H s E e a
structure yS(P:bj)(w:aR)(K:ay)(mg:Str->Option aa)(a7:Heap)(CX:υ)(k:Nat)(f:Addr)(fd:cy)(ps:aD)(sp:Sp):Prop where
 len:∀vs H Q E,sp vs H Q E->vs.length=ps.length
 run:∀(A:bp) (b8:List Env) (s:aq) (H:Hp) (args:Args) (us:List aa) (vs:bC) (Q:VK) (E:XK),xg k A->MR P w K mg a7 A b8 s H->iI s fd args (ps.zip us)->df vs us->sp vs H Q E->
  cK (model P w) A (.call (.ref f) args) (CR CX b8 P w H s Q E) s
theorem yS.mono{P:bj}{w:aR}{K:ay}{b:Str->Option aa}{a7:Heap}{CX:υ}{j k:Nat}{f:Addr}{a:cy}{c:aD}{d:Sp}(F:yS P w K b a7 CX j f a c d)(h:j<=k):
  yS P w K b a7 CX k f a c d:=#v[F.len,λA b8 s H args i l Q E e=>F.run A b8 s H args i l Q E (e.mono h)]
theorem yS.imp{P:bj}{w:aR}{K:ay}{d:Str->Option aa}{a7:Heap}{CX:υ}{k:Nat}{f:Addr}{c:cy}{ps:aD}{e b:Sp}(F:yS P w K d a7 CX k f c ps e)
  (h:∀a H Q E,b a H Q E->e a H Q E):yS P w K d a7 CX k f c ps b:=
 #v[λa H Q E q=>F.len a H Q E (h _ _ _ _ q),λA b8 s H args p a Q E l j i o m=>F.run A b8 s H args p a Q E l j i o (h _ _ _ _ m)]
def MR.make{P:bj}{w:aR}{K:ay}{a:Str->Option aa}{a7:Heap}{A:bp}{b8:List Env}{s:aq}{H:Hp}(e:MR P w K a a7 A b8 s H)(C:Addr)(c:List aa)(b:List (Str×aa)):
  MR P w K a a7 (A.under (.builtin "type.__call__" #v[.ref C::c,b])) b8 s H:=#v[by first|show e.frames|(simpa [m6,Code.envs,m7,pushEnvs]using e.frames),e.Dv,e.bs,e.bsz,e.ts,e.frf,e.e8,e.jl]
section
variable{X:Cx}{pins:dh}{σ:St}{H:Hp}{s s':aq}
def b9.env0(I:b9 X pins σ H s):MR X.prog X.w X.K X.mg X.a7 X.A X.stack s H:=
 #v[I.ok.frames,I.ok.Dv,I.bs,bW I.ok.bsz I.sz,I.stack,I.U',I.e8,I.jl]
def b9.after(I:b9 X pins σ H s)(h:CE X.stack X.prog X.w H s Q u s'):EP X pins σ Q u s':=by let#v[v,c,os,jl,un,e8,r,q]:=h;let#v[e,g,d,t,a]:=s';obtain rfl:a=s.os:=os;show#v[v,c,I.call (h':=e) (g':=g) (d':=d) (t':=t) (ch:=[]) un e8 jl (λb z=>au z (by simp)),r,q]
end
def Cq(b:Sp)(dvs:bC)(E:XK)(t:TA):TE:=λd H Q=>t d H λc a=>b (c++dvs) a Q E
def X8(C:Addr)(d:Sp)(dvs:bC)(E:XK)(t:TA):TE:=λf H Q=>t f H λe b=>∀x a,b x=Z->b a=Z->a≠x->
 d (.ref x::(e++dvs)) (el (el b a (.gy x)) x (.l' C a [])) (λv c=>v=.I/\Q (.ref x) c) E
def km(K:ay)(d:cy)(c:aD)(b:List aa):Prop:=
 ∀(s:aq) (a:List aa),K.In s.heap->(a++b).length=c.length->iI s d #v[a,[]] (c.zip (a++b))
def km.all{K:ay}{c:cy}{b:aD}(h:∀a:List aa,a.length=b.length->bindArgs c #v[a,[]]=pure (b.zip a)):km K c b []:=λs a z d=>by rw[bF]at d ⊢;show .of_eq (h a d)
def qi(CX:υ)(X:Cx)(E:XK):Prop:=∀(a:dh) (c:St) (H:Hp) (s:aq) (e:aa) (b:aq),b9 X a c H s->CX X.stack H s E e b->X.xe e b
section
variable{X:Cx}{CX:υ}{k:Nat}{f C:Addr}{fd:cy}{ps:aD}{sp:Sp}{dvs:bC}{ds:List aa}{E:XK}{x m:Str}{p pos apos:Pos}{e o:Expr}{es:List Expr}{ta:TE}{t:TA}
theorem JN(F:yS X.prog X.w X.K X.mg X.a7 CX k f fd ps sp)(q:xg k X.A)(j:km X.K fd ps ds)(hd:df dvs ds)(y:qi CX X E)
  (I:b9 X a d H s) (r:df vs us) (h:sp (vs++dvs) H Q E):av (model X.prog X.w) X.A (call (.ref f) us) (EP X a d Q) X.xe s:=by
 have c:df (vs++dvs) (us++ds):=r.append hd;have l:(us++ds).length=ps.length:=by rw[<-c.length];show F.len _ _ _ _ h
 calc kR (iz (F.run X.A X.stack s H #v[us,[]] (us++ds) (vs++dvs) Q E q I.env0 (j s us I.n? l) c h) λr z b=>?_);cases r with
 |error e=>show y a d H s e z I b
 |ok i=>
  cases i with
  |ret u=>show I.after b
  |next=>show dv b
  |brk=>show dv b
  |cont=>show dv b
def Eg(F:yS X.prog X.w X.K X.mg X.a7 CX k f fd ps sp)(B:xg k X.A)(u:Gl X x)(z:X.mg x=U (.ref f))(y:eM X.K (.ref f)=γ)(j:km X.K fd ps ds)(hd:df dvs ds)(G:qi CX X E)
  (i:PA X (e::es) t) (b:(x==("__debug__" : Str))=δ:=by decide) (l:aE (e::es) X.a8=(δ,eval e X.a8)::aE es X.a8:=by rfl) (hpl:(bM pos (aE es X.a8)).any (·.1)=δ:=by rfl):
  PE X (.Call (.Name x p) (e::es) [] pos) (Cq sp dvs E t):=by
 intro a s M H Q I h;calc dZ (Ec I u z ?_ b);calc m8 (h₀:=X.a7) I.ok.Dv.kin y (fb (i pos a s M H _ I h) λP O #v[R,N,c,r,q]=>#v[c.n?,?_]) l hpl;show JN F B j hd G c r q
def Re(F:yS X.prog X.w X.K X.mg X.a7 CX k f fd ps sp)(l:xg k X.A)(d:Gl X x)(j:X.mg x=U (.ref f))(i:eM X.K (.ref f)=γ)(c:km X.K fd ps ds)(hd:df dvs ds)(q:qi CX X E)
  (a:(x==("__debug__" : Str))=δ:=by decide):PE X (.Call (.Name x p) [] [] pos) (Cq sp dvs E JM):=by
 intro b s u H Q I h;calc dZ (Ec I d j ?_ a);show mT I.n? i (JN (us:=[]) F l c hd q I .nil h)
structure Mk(K:ay)(C f:Addr):Prop where
 U?:n4 K C=γ
 init:c9 K (.ref C) "__init__" = U (U (.ref f))
 fn:k5 K (.ref f)=γ
 kp:eM K (.ref C)=γ
theorem Rf(M:Mk X.K C f)(F:yS X.prog X.w X.K X.mg X.a7 CX k f fd ps sp)(S:xg (k+1) X.A)(P:km X.K fd ps ds)(hd:df dvs ds)
  (T:qi CX X E) (I:b9 X b y H s) (r:df q c)
  (h:∀x i,H x=Z->H i=Z->i≠x->sp (.ref x::(q++dvs)) (el (el H i (.gy x)) x (.l' C i [])) (λv B=>v=.I/\Q (.ref x) B) E):
  av (model X.prog X.w) X.A (call (.ref C) c) (EP X b y Q) X.xe s:=by
 have j:=h (~~~s+1) (~~~s) (I.e8.fresh (gK _)) (I.e8.fresh (aG _)) (bf (cY _));have d:=b9.made (C:=C) I;have l:df (V.ref (~~~s+1)::(q++dvs)) (Value.ref (~~~s+1)::(c++ds)):=.cons J (r.append hd);have R:(Value.ref (~~~s+1)::c++ds).length=ps.length:=by have e:=l.length;rw[F.len _ _ _ _ j]at e;show e.symm
 refine kR (Q8 (f:=f) I.n? M.U? M.init (beq_iff_eq.mp M.fn) (iz (F.run _ X.stack _ _ #v[Value.ref (~~~s+1)::c,[]] (Value.ref (~~~s+1)::(c++ds)) _ _ E (S.make C c [])
  (d.env0.make C c []) (P _ (Value.ref (~~~s+1)::c) d.n? R) l j) λr s' a=>?_))
 cases r with
 |error e=>show T b y _ _ e s' d a
 |ok O=>
  cases O with
  |ret u=>let#v[v,z,G,Y,N,W]:=d.after a;subst N;show#v[Y,#v[V.ref (~~~s+1),z,G,J,W]]
  |next=>show dv a
  |brk=>show dv a
  |cont=>show dv a
def Vn(M:Mk X.K C f)(F:yS X.prog X.w X.K X.mg X.a7 CX k f fd ps sp)(z:xg (k+1) X.A)(u:Gl X x)(y:X.mg x=U (.ref C))(j:km X.K fd ps ds)(hd:df dvs ds)(B:qi CX X E)
  (i:PA X (e::es) t) (b:(x==("__debug__" : Str))=δ:=by decide) (l:aE (e::es) X.a8=(δ,eval e X.a8)::aE es X.a8:=by rfl) (hpl:(bM pos (aE es X.a8)).any (·.1)=δ:=by rfl):
  PE X (.Call (.Name x p) (e::es) [] pos) (X8 C sp dvs E t):=by
 intro a s G H Q I h;calc dZ (Ec I u y ?_ b);calc m8 (h₀:=X.a7) I.ok.Dv.kin M.kp (fb (i pos a s G H _ I h) λP O #v[R,N,c,r,q]=>#v[c.n?,?_]) l hpl;show Rf M F z j hd B c r q
end
structure xc(N P:aD)(sc:dg):Prop where
 kind:sc.kind=.function
 co:sc.isCoroutine=δ
 ma:sc.isGenerator=δ
 nd:N.Nodup
 pre:N.take P.length=P
 par:∀x∈P,sc.names.lookup x=U .local\/sc.names.lookup x=U .cell
 nofree:∀y∈sc.names,y.2≠.free
theorem IQ{kindOf:Str->Option eO}{x:Str}:∀{rl:List (Str×aa)} {m:Str->Option aa},(∀v,(x,v)∉rl)->bindL kindOf rl m x=m x
 |[],_,_=>rfl
 |(n,v)::r,m,h=>by
  delta bindL;rw[IQ λw a=>h w (bg _ a)];split
  .have:x≠n:=by rintro rfl;show h v aX
   simp[this]
  .rfl
theorem IR{kindOf:Str->Option eO}{x:Str}:∀{rl:List (Str×aa)} {m:Str->Option aa},(∀v,(x,v)∉rl)->bindC kindOf rl m x=m x
 |[],_,_=>rfl
 |(n,v)::r,m,h=>by
  delta bindC;rw[IR λw a=>h w (bg _ a)];split
  .rfl
  .have:x≠n:=by rintro rfl;show h v aX
   simp[this]
theorem IS{kindOf:Str->Option eO}{x:Str}{v:aa}:∀{P:aD} {a:List aa} {i:Nat} {m:Str->Option aa},P.Nodup->P[i]?=U x->a[i]?=U v->kindOf x=U .local->
  bindL kindOf (P.zip a) m x=U v
 |[],_,_,_,_,h,_,_=>by simp at h
 |_::_,[],_,_,_,_,h,_=>by simp at h
 |p::P,w::a,0,m,e,b,c,d=>by simp at b c;subst b;subst c;change bindL kindOf ((p,w)::P.zip a) m p=_;delta bindL;rw[IQ λv f=>(cu.1 e).1 (kE f).1,af d];simp
 |p::P,w::a,i+1,m,e,b,c,d=>by change bindL kindOf ((p,w)::P.zip a) m x=_;delta bindL;show IS (i:=i) (cu.1 e).2 (by exists b) (by exists c) d
theorem IT{kindOf:Str->Option eO}{x:Str}{v:aa}:∀{P:aD} {a:List aa} {i:Nat} {m:Str->Option aa},P.Nodup->P[i]?=U x->a[i]?=U v->kindOf x≠U .local->
  bindC kindOf (P.zip a) m x=U v
 |[],_,_,_,_,h,_,_=>by simp at h
 |_::_,[],_,_,_,_,h,_=>by simp at h
 |p::P,w::a,0,m,e,b,c,d=>by simp at b c;subst b;subst c;change bindC kindOf ((p,w)::P.zip a) m p=_;delta bindC;rw[IR λv f=>(cu.1 e).1 (kE f).1,ai d];simp
 |p::P,w::a,i+1,m,e,b,c,d=>by change bindC kindOf ((p,w)::P.zip a) m x=_;delta bindC;show IT (i:=i) (cu.1 e).2 (by exists b) (by exists c) d
def start(N:aD)(a:bC):St:=a.map U++fR (N.length - a.length) Z
def K2(CX:υ)(P:bj)(w:aR)(K:ay)(mg:Str->Option aa)(a7:Heap)(N:aD)(qual:Str)(scope:dg)(f:Addr)(b:aa)(A:bp)(b8:List Env)(s:aq)(H:Hp)(E:XK):Cx where
 prog:=P
 w:=w
 K:=K
 mg:=mg
 a7:=a7
 A:=A.deeper (envOfC qual scope (~~~s) f b)
 N:=N
 s₀:=s
 H₀:=H
 a8:=envOfC qual scope (~~~s) f b
 b8:=b8
 stack:=envOfC qual scope (~~~s) f b::b8
 ex:=[]
 k3:=γ
 fn:=λz=>γ
 pn:=[]
 xe:=λe s'=>av (model P w) (A.deeper (envOfC qual scope (~~~s) f b)) (leaving (envOfC qual scope (~~~s) f b) e) (λz a=>CX b8 H s E e a) (λc a=>CX b8 H s E c a) s'
def K4{a:dg}(h:a.names.lookup x=U .cell):∃c,(cellsFrom n a.names []).lookup x=U c:=by have q:=qo a.names n [] (.inl h);show Option.isSome_iff_exists.1 q
def PQ{CX:υ}{P:bj}{w:aR}{K:ay}{G:Str->Option aa}{a7:Heap}{N m:aD}{qual:Str}{scope:dg}{f:Addr}{B:aa}{A:bp}{b8:List Env}{s Q:aq}{H:Hp}{E:XK}{I:List aa}{o:bC}
  (S:xc N m scope) (hd:A.handled=Z) (j:MR P w K G a7 A b8 s H) (X:o.length=m.length) (r:df o I)
  (x:InCallC s (~~~s) (bindL (envOfC qual scope (~~~s) f B).kindOf (m.zip I) λ_=>Z) (cellsFrom (~~~s+1) scope.names []) (bindC (envOfC qual scope (~~~s) f B).kindOf (m.zip I) λ_=>Z) Q):
  b9 (K2 CX P w K G a7 N qual scope f B A b8 s H E) [] (start N o) H Q:=by
 have hpl:m.length<=N.length:=by have:=aW cD S.pre;rw[bJ]at this;omega
 let#v[C,tk,rfl,M]:=x.done;have noA:∀b:Addr,b∉(K2 CX P w K G a7 N qual scope f B A b8 s H E).ex:=λb z=>au (show b∈([]:List Addr) from z) (by simp);refine#v[#v[j.Dv,S.kind,J,J,aG _,λy z c C d=>?_,λy l=>?_,λy c _ h=>?_,λ_=>hd,Around.frames_deeper j.frames,.inr #v[J,J],λb z=>au z (noA b),j.bs,j.bsz,λb _ _=>noA b,λb z=>au z (noA b),j.ts,j.frf],
  rfl,j.jl,Un.gp M,#v[_,x.toInCall.ns,λi y v C d W=>?_],λy c h=>#v[_,x.cell y c h],j.e8.fresh (aG _),λy c h=>?_,λp t=>au (show p∈([]:dh) from t) (by simp),j.e8.gp M,?_]
 .show name_of_addr x.apart (iY C) (iY d)
 .have l:scope.names.lookup y=U .cell\/scope.names.lookup y=U .free:=l;rcases l with l|l
  .show K4 l
  .show au J (S.nofree _ (iY l))
 .show gG (x.above y c (iY h))
 .have F:i<o.length:=by
   delta start at d;by_cases F:i<o.length
   .show F
   .rw[cR (by exists F)]at d;rw[hX]at d;split at d<;>ext d
  have R:o[i]?=U v:=by
   delta start at d;rw[cU (by exists F),br]at d;cases e:o[i]? with
   |none=>rw[e]at d;cases d
   |some a=>rw[e]at d;ext d;rfl
  let#v[u,O,T]:=r.get R;have t:m[i]?=U y:=by rw[<-S.pre,List.getElem?_take_of_lt ()];show C
  have ndP:m.Nodup:=by rw[<-S.pre];show S.nd.sublist (je _ _)
  calc#v[u,T,?_];rcases S.par y (ck t)with k|k
  .show .inl #v[k,IS ndP t O k]
  .let#v[c,e]:=K4 (n:= ~~~s+1) k;calc .inr #v[.inl k,c,e,?_];have q:=x.cell y c e;rw[IT ndP t O (by change scope.names.lookup y≠_;rw[k];decide)]at q;show q
 .show j.e8.fresh (gG (x.above y c (iY h)))
 .delta start;change _=N.length;rw[aH,ah,cP];omega
def X9{CX:υ}{P:bj}{w:aR}{K:ay}{j:Str->Option aa}{a7:Heap}{k:Nat}{f:Addr}{name qual:Str}{params:Arguments}{body:List Stmt}{scope:dg}{dV kV doc G cdv F oc:aa}{C od:Option Addr}
  {osl:Array (Option aa)} {N l:aD} {B:Sp} (lk:K.lookup f=U #v[oc,od,.func (fH name qual params body scope dV kV doc G C cdv F),osl]) (hcd:iC K cdv qual=γ) (S:xc N l scope)
  (len:∀a H Q E,B a H Q E->a.length=l.length)
  (hbody:∀(A:bp) (b8:List Env) (s:aq) (H:Hp) (a:bC) (Q:VK) (E:XK),xg k (A.deeper (envOfC qual scope (~~~s) f cdv))->B a H Q E->
   ∃t,kv (K2 CX P w K j a7 N qual scope f cdv A b8 s H E) body t/\t { nx:=λ_ d=>Q .I d,rt:=Q } (start N a) H):
  yS P w K j a7 CX (k+1) f (fH name qual params body scope dV kV doc G C cdv F) l B:=by
 calc#v[len,λA b8 s H args us a Q E m i R r hsp=>?_];have X:=len _ _ _ _ hsp;have KX:K.In s.heap:=i.Dv.kin.keeps λb o e=>(i.bs b o e).1;have lim:s.heap.NoLimit:=i.Dv.nolimit.keeps λb o e=>(i.bs b o e).1;have hkind:∀y∈l.zip us,scope.names.lookup y.1=U .local\/(scope.names.lookup y.1=U .cell/\((cellsFrom (~~~s+1) scope.names []).lookup y.1).isSome=γ):=λ#v[n,v] hy=>by
  rcases S.par n (kE hy).1 with q|q
  .show .inl q
  .show .inr #v[q,qo _ _ _ (.inl q)]
 calc codeAny_call_function m.depth (KX _ _ lk) J S.co S.ma J (W.codeRec_of KX hcd) (R _ _ _ _ ?_);calc wpAny_newFunctionEnv_cells S.kind hkind λa8 T M x=>?_;subst T;calc#v[lim.keeps x.toInCall.keep,codeAny_func ?_];let#v[t,ht,Y]:=hbody A b8 s H a Q E (m.deeper _) hsp;have I:b9 (K2 CX P w K j a7 N qual scope f cdv A b8 s H E) [] (start N a) H M:=PQ S m.hd i X r x;calc cE (ht [] M (start N a) H _ I Y) (λO z h=>?_) λe z h=>h;have fin:∀{c:St} {d:Hp} {v:V} {u:aa},b9 (K2 CX P w K j a7 N qual scope f cdv A b8 s H E) [] c d z->d? v u->Q v d->CE b8 P w H s Q u z:=
  λ{c d v u} A_ p q=>#v[v,d,A_.os,A_.jl,A_.a7,A_.e8,p,q]
 cases O with
 |ret u=>let#v[v,c,d,A_,p,q]:=h;show fin A_ p q
 |next=>let#v[c,d,A_,q]:=h;show fin (v:=V.I) (u:=Value.none) A_ J q
 |brk=>let#v[_,_,_,q]:=h;show dv q
 |cont=>let#v[_,_,_,q]:=h;show dv q
section
variable{X:Cx}{x:Str}{p pos:Pos}{e:Expr}{es:List Expr}{t:TA}{id T:String}{r:bC->Hp->VK->Prop}
def tCB(r:bC->Hp->VK->Prop)(t:TA):TE:=λc H Q=>t c H λb a=>r b a Q
#print "GY builtin id builtin1;PR type T type1" in def ϑ0(j:xA X (.ϑ1 ϑ2) r)(m:Gl X x)(o:X.mg x=Z)(u:eF x=U (.ϑ1 ϑ2))(i:PA X (e::es) t)(q:x≠"__name__" := by decide)(b:(x==("__debug__" : Str))=δ:=by decide)
  (l:aE (e::es) X.a8=(δ,eval e X.a8)::aE es X.a8:=by rfl) (hpl:(bM pos (aE es X.a8)).any (·.1)=δ:=by rfl):PE X (.Call (.Name x p) (e::es) [] pos) (tCB r t):=by
 intro a s c H Q I h;calc dZ (Bs I m o u ?_ q b);show callWith_ϑ3 (fb (i pos a s c H _ I h) λA z #v[B,d,f,y,w]=>j a z c d B A Q f y w) l hpl
end
end L2
namespace HT
open PySem PyProof.Rows
section
variable{prog:bj}{w:aR}{A:bp}{E:aa->aq->Prop}{s:aq}
def Vo{vs a:List aa}(ht:dS s.heap t vs.toArray)(q:dS s.heap b a.toArray)(hv:vs≠[])
  (h1:a=[]->Q (.ref t) s) (h2:a≠[]->Q (.ref (~~~s)) { s with heap:=s.heap.push { cls:=.type "tuple", data:=.seq (vs++a).toArray } })
  (m:vs.length+a.length<=aS):av (model prog w) A (c8 .Add (.ref t) (.ref b)) Q E s:=by
 let#v[#v[cls,dd,data,sl],j,o,n,hd]:=id ht;let#v[#v[cls2,d,data2,i],c,f,p,h]:=id q;simp only at o hd f h;subst o hd f h;have e:vs.toArray++a.toArray=(vs++a).toArray:=by simp
 by_cases l:a=[]
 .show m9 #v[_,j,J] #v[_,c,J] mr mU mw l9 (lW _ _)
   (tuple_addW1 t b vs.toArray a.toArray n p dd d sl i (by exists hv) (by simp[l])) #v[j,c,h1 l]
 .refine m9 #v[_,j,J] #v[_,c,J] mr mU mw l9 (lW _ _)
   (tuple_addW2 t b vs.toArray a.toArray n p dd d sl i (by exists hv) (by exists l) (by rw[bI,bI];show m)) #v[j,c,?_]
  rw[e];show h2 l
def tX(n d:Nat):Option Int->Nat
 |none=>d
 |some v=>if v<0 then (v+(n:Int)).toNat else min v.toNat n
def K5(n d:Nat):tX n d Z=d:=rfl
def Gy(n d k:Nat):tX n d (U (k:Int))=min k n:=by change (if (k:Int)<0 then ((k:Int)+(n:Int)).toNat else min (k:Int).toNat n)=min k n;rw[ai (),ig]
end
end HT
namespace L2
open PySem PySem.Spec PyProof.Rows
abbrev TO:=St->Hp->(Option Int->Hp->Prop)->Prop
def PO(X:Cx)(e:Option Expr)(t:TO):Prop:=
 ∀(a:dh) (s:aq) (b:St) (H:Hp) (Q:Option Int->Hp->Prop),b9 X a b H s->t b H Q->
  av (model X.prog X.w) X.A (evalPart e X.a8) (λu d=>∃o c,b9 X a b c d/\IsPart u o/\Q o c) X.xe s
def Vp:TO:=λz H Q=>Q Z H
def adn(t:TE):TO:=λb H Q=>t b H λx a=>∃i,x=.int i/\Q (U i) a
section
variable{X:Cx}{e:Expr}{te:TE}{lo hi:Option Expr}{tl th:TO}{pos p2:Pos}
def Oj:PO X Z Vp:=by intro a s b H Q I h;rw[rg];show aC #v[Z,H,I,.none,h]
def Ol(h:PE X e te):PO X (U e) (adn te):=by intro a s l H Q I d;rw[evalPart_some];calc fb (h a s l H _ I d) λu m zz=>?_;let#v[x,b,c,j,f]:=zz;let#v[i,rfl,q]:=f;let#v[t,rfl]:=j;show#v[U i,b,c,.int i t,q]
def SlR(X:Cx)(r:V->Option Int->Option Int->Hp->VK->Prop):Prop:=
 ∀(a:dh) (s:aq) (d:St) (H:Hp) (x:V) (v vl c:aa) (lo hi:Option Int) (b:Addr) (Q:VK),b9 X a d H s->d? x v->s.heap.IsSliceOf b vl c .none->IsPart vl lo->IsPart c hi->r x lo hi H Q->
  ∃T id,typeLookup (.type T) "__getitem__" = pure (U (.builtin id))/\s.TypeIs v T/\av (model X.prog X.w) X.A (getItem v (.ref b)) (EP X a d Q) X.xe s
def tSl(r:V->Option Int->Option Int->Hp->VK->Prop)(te:TE)(tl th:TO):TE:=λa H Q=>te a H λx b=>tl a b λl c=>th a c λu d=>r x l u d Q
def K6(hr:SlR X r)(o:PE X e te)(t:PO X lo tl)(y:PO X hi th):PE X (.Subscript e (.Slice lo hi Z p2) pos) (tSl r te tl th):=by intro pins s σ H Q I h;calc nR (fb (o pins s σ H _ I h) λv C zz=>?_);let#v[x,H1,f,r1,q1]:=zz;calc wpAny_Slice (fb (t pins C σ H1 _ f q1) λvl s2 #v[l,H2,i,pl,q2]=>fb (y pins s2 σ H2 _ i q2) λc a zz=>?_);let#v[u,d,j,z,B]:=zz;rw[rg];calc aC ?_;have m:b9 X pins σ d { a with heap:=a.heap.push { cls:=.type "slice", data:=.fields #[vl,c,.none] } }:=j.gp (t':=a.toks) λb ob q=>aK _ q;let#v[T,id,hT,ht,p]:=hr pins { a with heap:=a.heap.push { cls:=.type "slice", data:=.fields #[vl,c,.none] } } σ d x v vl c l u (~~~a) Q m r1 (uU ..) pl z B;change av (model X.prog X.w) X.A (subscriptTail e (.Slice lo hi Z p2) v (.ref (~~~a))) (EP X pins σ Q) X.xe { a with heap:=a.heap.push { cls:=.type "slice", data:=.fields #[vl,c,.none] } };show tail_any (ops:=[.ref (~~~a),v]) ht hT p (by with_unfolding_all rfl)
def PU(a:bC)(lo hi:Option Int):bC:=(a.drop (HT.tX a.length 0 lo)).take (HT.tX a.length a.length hi - HT.tX a.length 0 lo)
def K7(a:bC)(lo hi:Option Int):(PU a lo hi).length<=a.length:=by delta PU;rw[bJ,cJ];omega
inductive Rg(K:ay) (x:V) (y:V) (H:Hp) (Q:VK):Prop
 |i (a b xs ys) (h0:x=.ref a) (h1:y=.ref b) (h2:fh K H a xs) (h3:fh K H b ys) (h4:xs≠[]) (h5:xs.length+ys.length<=aS) (h6:(ys=[]->Q (.ref a) H)) (h7:(ys≠[]->∀p,H p=Z->Q (.ref p) (el H p (.bx (xs++ys))))):Rg K x y H Q
def ado(K:ay):R2:=λx y H Q=>Rg K x y H Q
def df.xo(r:df b a):a=[] ↔ b=[]:=by
 cases r with
 |nil=>simp
 |cons _ _=>simp
def Om:iE X (c8 .Add) (ado X.K):=by intro j s O H x y v u Q I C E h;let#v[a,b,F,G,rfl,rfl,l,m,p,f,A,B]:=h;ext C;ext E;let#v[r,d,t,_]:=I.tuple l;let#v[i,c,p2,_]:=I.tuple m;calc HT.Vo t p2 (λz=>p (d.xo.1 z)) (λz=>#v[.ref a,H,I,J,A (c.xo.1 z)]) (λz=>?_) (by rw[<-d.length,<- c.length];show f);calc#v[.ref (~~~s),_,I.laid (t':=s.toks) (o:=.bx (F++G)) (λb M q=>aK _ q) (aG _) ?_,J,B (λw=>z (c.xo.2 w)) _ (I.e8.fresh (aG _))];show#v[by rw[aH];show f,_,d.append c,sC _ _,λo e=>by rw[bz _ J]at e;ext e;rfl]
end
def ixN(n:Nat)(i:Int):Option Nat:=if 0<=i then (if i<n then U i.toNat else Z)else if -(n:Int)<=i then U (i+n).toNat else Z
def x?{b:Type}(a:List b)(i:Int):Option b:=(ixN a.length i).bind λj=>a[j]?
def Vq(h:ixN n i=U j):seqIndex? i n=U j/\j<n/\-(n:Int)<=i/\i<n:=by
 delta ixN at h;by_cases b:0<=i
 .rw[af b]at h;by_cases a:i<n
  .rw[af a]at h;have e:i.toNat=j:=cZ h;show#v[by rw[nI b a,e],by omega,by omega,a]
  .rw[ai a]at h;ext h
 .rw[ai b]at h;by_cases a:-(n:Int)<=i
  .rw[af a]at h;have e:(i+n).toNat=j:=cZ h;show#v[by rw[seqIndex_neg () a,e],by omega,a,by omega]
  .rw[ai a]at h;ext h
def JO{b:Type}{a:List b}{i:Int}{v:b}(h:x? a i=U v):∃j,seqIndex? i a.length=U j/\a[j]?=U v/\j<a.length/\-(a.length:Int)<=i/\i<a.length:=by
 delta x? at h;cases e:ixN a.length i with
 |none=>rw[e]at h;cases h
 |some j=>rw[e]at h;let#v[c,d,f,l]:=Vq e;show#v[j,c,h,d,f,l]
def On{b:Type}{a:List b}{j:Nat}{v:b}(h:a[j]?=U v):x? a (j:Int)=U v:=by
 have c:j<a.length:=(bZ.1 h).1;have e:ixN a.length (j:Int)=U j:=by delta ixN;rw[af (),af ()];simp
 delta x?;rw[e];show h
def Oq(b:Expr):Prop:=∀o i,subscripted b δ o i=operate [o,i] (getItem o i)
def ε(X:Cx)(r:R2):Prop:=
 ∀(value slice:Expr) (a:dh) (s:aq) (b:St) (H:Hp) (x y:V) (v u:aa) (Q:VK),b9 X a b H s->d? x v->d? y u->r x y H Q->
  subscripted slice δ v u=operate [v,u] (getItem v u)->av (model X.prog X.w) X.A (subscriptTail value slice v u) (EP X a b Q) X.xe s
def MtR(X:Cx)(id:String)(r:V->bC->Hp->VK->Prop):Prop:=
 ∀(a:dh) (s:aq) (d:St) (H:Hp) (x:V) (c:bC) (v:aa) (b:List aa) (Q:VK),b9 X a d H s->d? x v->df c b->r x c H Q->
  av (model X.prog X.w) X.A (call (.builtin id) (v::b)) (EP X a d Q) X.xe s
section
variable{X:Cx}{a b:Expr}{ta tb:TE}{pos:Pos}
def ε.or(h:ε X r)(j:ε X l):ε X (λx y H Q=>r x y H Q\/l x y H Q):=by
 intro value slice c s i H x y v u Q I e f q d;rcases q with q|q
 .show h value slice c s i H x y v u Q I e f q d
 .show j value slice c s i H x y v u Q I e f q d
def Rh(j:ε X r)(f:PE X a ta)(i:PE X b tb)(l:Oq b):PE X (.Subscript a b pos) (tOp r ta tb):=by intro c s t H Q I h;show nR (Ze f i I h λv u p x y d e m o q=>j a b c p t d x y v u Q e m o q (l _ _))
inductive Ya(K:ay) (x:V) (y:V) (H:Hp) (Q:VK):Prop
 |i (p xs i v) (h0:x=.ref p) (h1:y=.int i) (h2:f? K H p xs) (h3:x? xs i=U v) (h4:Q v H):Ya K x y H Q
def Vr(K:ay):R2:=λx y H Q=>Ya K x y H Q
inductive Yc(K:ay) (x:V) (y:V) (H:Hp) (Q:VK):Prop
 |i (p xs i v) (h0:x=.ref p) (h1:y=.int i) (h2:fh K H p xs) (h3:x? xs i=U v) (h4:Q v H):Yc K x y H Q
def Rj(K:ay):R2:=λx y H Q=>Yc K x y H Q
inductive Yd(x:V) (y:V) (H:Hp) (Q:VK):Prop
 |i (z i c) (h0:x=.str z) (h1:y=.int i) (h2:z.length<=aS) (h3:x? z.cps.toList i=U c) (h4:Q (.str #v[#[c]]) H):Yd x y H Q
def rIxS:R2:=λx y H Q=>Yd x y H Q
def Os:ε X (Vr X.K):=by
 intro value slice c s B H x y v u Q I O P h A;let#v[p,Y,i,z,rfl,rfl,N,G,q]:=h;ext O;let#v[t,rfl]:=P;let#v[f,r,pl,W]:=I.list N;let#v[j,d,C,S,E,F]:=JO G;let#v[w,m,l]:=r.get C;have M:=r.length;have T:=GV;have fin:EP X c B Q w s:=#v[z,H,I,l,q];by_cases o:0<=i
 .have e:i.toNat=j:=by rw[nI o F]at d;show cZ d
  show item_listR pl.isList o () (by rw[e];exists m) fin A
 .have e:(i+(f.toArray.size:Int)).toNat=j:=by rw[seqIndex_neg () E]at d;rw[bI,<- M];show cZ d
  show o7 (x:=w) pl.isList.typeIs qb.lookup
   (wpAny_getItem_list_neg (Q:=λr R=>r=w/\EP X c B Q r R) pl.isList () (by rw[bI]<;>omega) () (by rw[e];exists m) #v[J,fin]) A
def Rk:ε X (Rj X.K):=by
 intro value slice c s e H x y v u Q I F G h C;let#v[p,T,i,z,rfl,rfl,B,o,q]:=h;ext F;let#v[t,rfl]:=G;let#v[E,r,pl,S]:=I.tuple B;let#v[j,l,m,N,O,P]:=JO o;let#v[w,f,d]:=r.get m;have A:=r.length;have R:=GV;have fin:EP X c e Q w s:=#v[z,H,I,d,q];show o7 (x:=w) pl.typeIs slot_tuple_getitem.lookup
  (getItem_tuple (j:=j) (Q:=λr M=>r=w/\EP X c e Q r M) pl () () (by rw[bI,<- A];show l) (by exists f) #v[J,fin]) C
def Zo:ε X rIxS:=by
 intro value slice e s N H x y v u Q I B C h A;let#v[z,i,c,rfl,rfl,G,r,q]:=h;let#v[t,rfl]:=B;let#v[M,rfl]:=C;let#v[j,d,m,E,o,p]:=JO r;have w:z.cps.toList.length=z.length:=by simp[sy]
 rw[w]at d o p;have F:=GV;show tail_any (typeIs_str s z t) slot_str_getitem.lookup (getItem_str (c:=c) (by
  have f:decide (i < -(2 ^ 63:Int))=δ:=aP ();have l:decide (i >= 2 ^ 63)=δ:=aP ();rw[f,l,mV]) (by rw[d];exists m) #v[.str #v[#[c]],H,I.w? _,#v[_,J],q]) A
def rIx(K:ay):R2:=λx y H Q=>Vr K x y H Q\/Rj K x y H Q\/rIxS x y H Q
def Zp:ε X (rIx X.K):=Os.or (Rk.or Zo)
def Ye(i:Int)(n d:Nat):max 0 (min (if i<0 then i+(n:Int)else i) n)=((HT.tX n d (U i):Nat):Int):=by
 have e:∀j:Int,max 0 (min j n)=((min j.toNat n:Nat):Int):=λj=>by
  cases j with
  |ofNat a=>
   change max 0 (min (a:Int) n)=((min a n:Nat):Int);rcases Nat.le_total a n with h|h
   .rw[eB h,qD (rM.2 h)];show qp (lX a)
   .rw[Nat.min_eq_right h,Int.min_eq_right (rM.2 h)];show qp (lX n)
  |negSucc a=>rw[qD (Int.le_trans (rN (pM a)) (lX n)),Int.max_eq_left (rN (pM a))];change (0:Int)=((min 0 n:Nat):Int);rw[Nat.zero_min];rfl
 rw[e];erw[HT.tX];by_cases h:i<0
 .erw[h,if_true];rw[eB (Int.toNat_le.2 ())]
 .erw[h,if_false]
def JP(lo c:Option Int)(n:Nat):(sliceBounds lo c Z n).1=((HT.tX n 0 lo:Nat):Int)/\(sliceBounds lo c Z n).2.1=((HT.tX n n c:Nat):Int)/\(sliceBounds lo c Z n).2.2=1:=by
 refine#v[?_,?_,J]
 .cases lo with
  |none=>simp[sliceBounds,HT.tX]
  |some i=>show Ye i n _
 .cases c with
  |none=>simp[sliceBounds,HT.tX]
  |some i=>show Ye i n _
def Ir(c:List aa)(lo d:Option Int):slicePick c.toArray lo d Z=((c.drop (HT.tX c.length 0 lo)).take (HT.tX c.length c.length d - HT.tX c.length 0 lo)).toArray:=by let#v[e,f,h]:=JP lo d c.toArray.size;delta slicePick;rw[e,f,h];erw[sliceRange_one,pick_run,bI]<;>rfl
def PV(K:ay):V->Option Int->Option Int->Hp->VK->Prop:=λx lo d H Q=>∃a c,x=.ref a/\f? K H a c/\∀p,H p=Z->Q (.ref p) (el H p (.ax (PU c lo d)))
def Vs:SlR X (PV X.K):=by intro i s B H x v vl A lo e y Q I u j pl t h;let#v[a,c,rfl,l,q]:=h;ext u;let#v[p,r,f,m]:=I.list l;have d:=r.length;calc#v["list", _,qb.lookup,f.isList.typeIs,?_];calc wpAny_getItem_list_slice f.isList j pl t .none (by simp) ?_ (by rw[bI]<;>omega);rw[Ir,<- d];calc#v[.ref (~~~s),_,I.laid (t':=s.toks) (o:=.ax (PU c lo e)) (λb w q=>aK _ q) (aG _) ?_,J,q _ (I.e8.fresh (aG _))];show#v[bW (K7 c lo e) m,_,0,(r.drop (HT.tX c.length 0 lo)).take (HT.tX c.length c.length e - HT.tX c.length 0 lo),bz _ J]
def DF:V->Bool
 |.I=>γ
 |.bl _=>γ
 |.int _=>γ
 |.str _=>γ
 |_=>δ
def eqV:V->V->Bool
 |.I,.I=>γ
 |.bl a,.bl b=>a==b
 |.bl a,.int b=>(if a then 1 else 0)==b
 |.int a,.bl b=>a==(if b then 1 else 0)
 |.int a,.int b=>a==b
 |.str a,.str b=>a==b
 |_,_=>δ
def GZ(f:d? y u)(c:d? x v)(h:DF y=γ)(e:DF x=γ):jz A s u v (eqV y x):=by
 cases y with
 |I=>
  ext f;cases x with
  |I=>ext c;show jm _
  |bl b=>ext c;show uz b
  |int b=>let#v[t,rfl]:=c;show pN b t
  |str b=>let#v[t,rfl]:=c;show pO b t
  |_=>show au (show δ=γ from e) bB
 |bl a=>
  ext f;cases x with
  |I=>ext c;show uA a
  |bl b=>ext c;show uB a b
  |int b=>let#v[t,rfl]:=c;show uK a b t
  |str b=>let#v[t,rfl]:=c;show uL a b t
  |_=>show au (show δ=γ from e) bB
 |int a=>
  let#v[d,rfl]:=f;cases x with
  |I=>ext c;show pP a d
  |bl b=>ext c;show uM a d b
  |int b=>let#v[t,rfl]:=c;show uV a d b t
  |str b=>let#v[t,rfl]:=c;show pV a d b t
  |_=>show au (show δ=γ from e) bB
 |str a=>
  let#v[d,rfl]:=f;cases x with
  |I=>ext c;show pR a d
  |bl b=>ext c;show uN a d b
  |int b=>let#v[t,rfl]:=c;show pW a d b t
  |str b=>let#v[t,rfl]:=c;show kq a d b t
  |_=>show au (show δ=γ from e) bB
 |_=>show au (show δ=γ from h) bB
def O'(x:V)(u:aa):Bool:=match u with
 |.none=>eqV .I x
 |.bool b=>eqV (.bl b) x
 |.int i _=>eqV (.int i) x
 |.str z _=>eqV (.str z) x
 |_=>δ
def Rl(r:d? y u)(f:DF y=γ):O' x u=eqV y x:=by
 cases y with
 |I=>ext r;rfl
 |bl b=>ext r;rfl
 |int i=>let#v[t,rfl]:=r;rfl
 |str z=>let#v[t,rfl]:=r;rfl
 |_=>show au (show δ=γ from f) bB
theorem Ei:∀{c:bC} {d:List aa},df c d->c.all DF=γ->d.any (O' x)=c.any λy=>eqV y x
 |_,_,.nil,_=>rfl
 |y::c,u::d,.cons r t,f=>by rw[iw,bA]at f;rw[fw,fw,Rl r f.1,Ei t f.2]
theorem Cr(i:d? x v)(h:DF x=γ):∀{e:bC} {d:List aa},df e d->e.all DF=γ->∀u∈d,jz A s u v (O' x u)
 |_,_,.nil,_=>λu c=>by cases c
 |y::e,u::d,.cons r t,f=>λj c=>by
  rw[iw,bA]at f;rcases aJ.1 c with rfl|c
  .rw[Rl r f.1];show GZ r i f.1 h
  .show Cr i h t f.2 j c
def inV(x:V)(c:bC):Bool:=c.any λy=>eqV y x
inductive IrIn(K:ay) (neg:Bool) (x:V) (y:V) (H:Hp) (Q:VK):Prop
 |i (p xs) (h0:y=.ref p) (h1:(f? K H p xs\/fh K H p xs)) (h2:DF x=γ) (h3:xs.all DF=γ) (h4:Q (.bl (if neg then !inV x xs else inV x xs)) H):IrIn K neg x y H Q
def rIn(K:ay)(neg:Bool):R2:=λx y H Q=>IrIn K neg x y H Q
def PX:iE X (bD .In) (rIn X.K δ):=by
 intro i s t H x y v u Q I j m h;let#v[p,o,rfl,d,f,fs,q]:=h;ext m;rcases d with d|d
 .let#v[c,r,pl,l]:=I.list d;calc SeqAt.in_listAt (O' x) pl.isList (λw e=>Cr j f r fs w (by exists e)) #v[.bl _,H,I,J,?_];rw[show c.toArray.any (O' x)=c.any (O' x) by simp,Ei r fs];show q
 .let#v[c,r,pl,l]:=I.tuple d;calc qq (O' x) pl (λw e=>Cr j f r fs w (by exists e)) #v[.bl _,H,I,J,?_];rw[show c.toArray.any (O' x)=c.any (O' x) by simp,Ei r fs];show q
def JQ:iE X (bD .NotIn) (rIn X.K γ):=by
 intro i s t H x y v u Q I j m h;let#v[p,o,rfl,d,f,fs,q]:=h;ext m;rcases d with d|d
 .let#v[c,r,pl,l]:=I.list d;calc SeqAt.notIn_listAt (O' x) pl.isList (λw e=>Cr j f r fs w (by exists e)) #v[.bl _,H,I,J,?_];rw[show c.toArray.any (O' x)=c.any (O' x) by simp,Ei r fs];show q
 .let#v[c,r,pl,l]:=I.tuple d;calc SeqAt.notIn_tupleAt (O' x) pl (λw e=>Cr j f r fs w (by exists e)) #v[.bl _,H,I,J,?_];rw[show c.toArray.any (O' x)=c.any (O' x) by simp,Ei r fs];show q
def JR:xA X (.builtin "len") (λl H Q=>∃p d,l=[.ref p]/\(f? X.K H p d\/fh X.K H p d)/\Q (.int d.length) H):=by
 intro j s x H l w Q I r h;let#v[p,d,rfl,e,q]:=h;let#v[u,rfl,o]:=lq r;ext o;have t:=GV;rcases e with e|e
 .let#v[f,i,pl,m]:=I.list e;have c:=i.length;show Calls.call_len_list pl.isList (by erw[bI]<;>omega) #v[.int d.length,H,I.w? _,#v[s.toks+1,by rw[bI,c]],q]
 .let#v[f,i,pl,m]:=I.tuple e;have c:=i.length;show len_tuple pl (by erw[bI]<;>omega) #v[.int d.length,H,I.w? _,#v[s.toks+1,by rw[bI,c]],q]
def JS:xA X (.builtin "len") (λd H Q=>∃z,d=[.str z]/\z.length<=aS/\Q (.int z.length) H):=by intro c s j H d i Q I r h;let#v[z,rfl,f,q]:=h;let#v[u,rfl,t,rfl]:=lq r;have e:=GV;show len_str () #v[.int z.length,H,I.w? _,#v[_,J],q]
def JT:xA X (.type "list") (λxs H Q=>∃p f,xs=[.ref p]/\(f? X.K H p f\/fh X.K H p f)/\∀l,H l=Z->Q (.ref l) (el H l (.ax f))):=by
 intro pins s σ H xs us Q I r h;let#v[p,f,rfl,j,q]:=h;let#v[u,rfl,z]:=lq r;ext z;have fin:∀(its:List aa),df f its->f.length<=aS->∀(h':Heap) (c:Nat),(∀b y,s.heap.get? b=U y->h'.get? b=U y)->
   h'.get? (~~~s)=U { cls:=.type "list", dict:=Z,data:=.seq its.toArray c,slots:=[].toArray }->EP X pins σ Q (.ref (~~~s)) { s with heap:=h' }:=λits d m h' c kp e=>
  #v[.ref (~~~s),_,I.laid (t':=s.toks) kp (aG _) (show er X.prog X.w _ h' _ (.ax f) from#v[m,its,c,d,e]),J,q _ (I.e8.fresh (aG _))]
 rcases j with j|j
 .let#v[its,d,pl,m]:=I.list j;have i:=d.length;let#v[o,x,t,n,hd]:=pl.isList;show rh p (.inl J) x t hd (λh' c kp e=>fin its d m h' c kp e) (by erw[bI]<;>omega)
 .let#v[its,d,pl,m]:=I.tuple j;have i:=d.length;let#v[o,x,t,n,hd]:=pl;show rh p (.inr J) x t hd (λh' c kp e=>fin its d m h' c kp e) (by erw[bI]<;>omega)
def Iu:xA X (.type "tuple") (λxs H Q=>∃p c,xs=[.ref p]/\((f? X.K H p c/\∀l,H l=Z->Q (.ref l) (el H l (.bx c)))\/(fh X.K H p c/\Q (.ref p) H))):=by
 intro pins s σ H xs us Q I r h;let#v[p,c,rfl,h]:=h;let#v[u,rfl,x]:=lq r;ext x;rcases h with ⟨d,q⟩|⟨d,q⟩
 .let#v[its,f,pl,m]:=I.list d;have j:=f.length;calc call_tuple_list pl.isList (λh' kp=>?_) (by erw[bI]<;>omega);have i:b9 X pins σ H { s with heap:=h' }:=I.gp (t':=s.toks) kp;have t:b9 X pins σ (el H h'.objs.size (.bx c)) { s with heap:=h'.push { cls:=.type "tuple", data:=.seq its.toArray } }:=
   i.laid (t':=s.toks) (λb o e=>aK _ e) (aG _) (show er X.prog X.w _ _ _ (.bx c) from#v[m,its,f,sC _ _,λo e=>by rw[bz _ J]at e;ext e;rfl])
  show#v[.ref h'.objs.size,_,t,J,q _ (i.e8.fresh (aG _))]
 .let#v[its,f,pl,m]:=I.tuple d;show call_tuple_same pl #v[.ref p,H,I,J,q]
def tyV(K:ay)(T:String)(x:V)(H:Hp):Prop:=match x with
 |.str _=>T="str"
 |.int _=>T="int"
 |.ref p=>(T="list" /\ ∃c,f? K H p c)\/(T="tuple" /\ ∃o,K.lookup p=U o/\o.cls=.type "tuple" /\ o.dict=Z)\/
   (T="dict" /\ ((∃kvs,H p=U (.dK kvs))\/∃kvs,H p=U (.dT kvs)))\/(T="set" /\ ∃S n,H p=U (.set S n))
 |_=>False
def Zq(I:b9 X l y H s)(r:d? x v)(ty:tyV X.K T x H):
  s.TypeIs v T/\∀a,v=.ref a->∃j,s.heap.get? a=U j/\j.dict=Z:=by
 cases x with
 |str z=>let#v[t,rfl]:=r;cases (show T="str" from ty);show#v[typeIs_str s z t,λ_ e=>nomatch e]
 |int i=>let#v[t,rfl]:=r;cases (show T="int" from ty);show#v[typeIs_int s i t,λ_ e=>nomatch e]
 |ref p=>
  ext r;rcases ty with ⟨rfl,w,q⟩|⟨rfl,o,d,m,hd⟩|⟨rfl,d⟩|⟨rfl,S,n,d⟩
  .let#v[u,_,pl,_]:=I.list q;calc#v[pl.isList.typeIs,λa e=>?_];ext e;let#v[o,n,e,c,hd,_]:=pl;show#v[o,e,hd]
  .calc#v[#v[o,I.n? p o d,m],λa e=>?_];ext e;show#v[o,I.n? _ o d,hd]
  .have z:∃o,s.heap.get? p=U o/\o.ExactDict:=by
    rcases d with ⟨kvs,d⟩|⟨kvs,d⟩
    .let#v[_,_,_,_,o,_,_,e,f,_]:=I.e8 p _ d;show#v[o,e,f]
    .let#v[_,_,_,_,o,_,_,e,f,_]:=I.e8 p _ d;show#v[o,e,f]
   let#v[o,e,f]:=z;calc#v[#v[o,e,f.1],λa h=>?_];ext h;show#v[o,e,f.2.1]
  .let#v[o,_,_,_,e,f,_]:=I.e8 p _ d;calc#v[#v[o,e,f.1],λa h=>?_];ext h;show#v[o,e,f.2.1]
 |_=>show dv ty
def tBM(K:ay)(T:String)(r:V->bC->Hp->VK->Prop)(to:TE)(t:TA):TE:=λd H Q=>to d H λx c=>tyV K T x c/\t d c λf e=>r x f e Q
variable{o e:Expr}{es:List Expr}{to:TE}{t:TA}{name:Str}{apos cpos:Pos}{T id:String}{r:V->bC->Hp->VK->Prop}
def ads(A:nS T)(slot:Slot T name id)(hty:typeOf (.builtin id)=pure (.type "method_descriptor"))(w:MtR X id r)(y:PE X o to)(u:PA X (e::es) t)
  (hbase:fo o name X.a8 (eval o X.a8)=eval o X.a8:=by rfl)
  (hfew:((bM cpos (aE (e::es) X.a8)).all (λx=>!x.1)&&(backToKw cpos (eI [] X.a8)).all (λx=>x.1.isSome)
   && decide ((e::es).length+([]:List fV).length+(if ([]:List fV).isEmpty then 0 else 1)<30))=γ:=by rfl)
  (hline:(apos.endLine==cpos.line)=γ:=by rfl) (z:aE (e::es) X.a8=(δ,eval e X.a8)::aE es X.a8:=by rfl) (hplain:(bM cpos (aE es X.a8)).any (·.1)=δ:=by rfl):
  PE X (.Call (.Attribute o name apos) (e::es) [] cpos) (tBM X.K T r to t):=by
 intro c s d H Q I h;calc wpAny_Call_method_late hbase hfew hline J (fb (y c s d H _ I h) λv F zz=>?_);let#v[x,j,f,i,ty,B]:=zz;let#v[p,q]:=Zq f i ty;calc#v[T,id,A,slot,hty,p,q,?_];have hA:=u cpos c F d j _ f B;rw[z]at hA ⊢;refine iW (by change (δ||(bM cpos (aE es X.a8)).any (·.1))=δ;rw[hplain]<;>rfl) (kc ?_)
 show fb hA λM G #v[N,l,m,E,C]=>w c G d l x N v M Q m i E C
end
def MtM(X:Cx)(id:String)(r:V->bC->Hp->VK->Prop):Prop:=
 ∀(a:dh) (s:aq) (d:St) (H:Hp) (x:V) (c:bC) (v:aa) (b:List aa) (Q:VK),b9 X a d H s->d? x v->df c b->r x c H Q->
  av (model X.prog X.w) X.A (call (.builtin id) (v::b)) (EP X a d Q) X.xe s
def df.one:∀{x:V} {a:List aa},df [x] a->IV1 x a
 |_,_,.cons r .nil=>#v[_,J,r]
theorem df.eraseIdx:∀{b:bC} {a:List aa} (i:Nat),df b a->df (b.eraseIdx i) (a.eraseIdx i)
 |_,_,_,.nil=>.nil
 |_,_,0,.cons _ t=>t
 |_,_,i+1,.cons r t=>.cons r (df.eraseIdx i t)
theorem IU{a:Type}:∀(l:List a) (i:Nat),(l.eraseIdx i).length<=l.length
 |[],_=>aG _
 |_::_,0=>gK _
 |_::r,i+1=>qr (IU r i)
section
variable{X:Cx}{pins:dh}{σ:St}{H:Hp}{s:aq}{l b:Addr}{xs ys zs:bC}
def b9.lset{its its':List aa}(I:b9 X pins σ H s)(hH:H l=U (.ax xs))
  (e:s.heap.get? l=U { cls:=.type "list", data:=.seq its.toArray n }) (c:f its.toArray=its'.toArray) (hv:df ys its') (h:ys.length<=aS):
  b9 X pins σ (el H l (.ax ys)) { s with heap:=s.heap.update l (c7 f),toks:=j }:=by
 have q:=PySem.IsL.update e f;rw[c]at q;calc I.xp (x:=l) (e:=l) (by rw[hH];show trivial) (.inl J) (λi u a d=>(gd s.heap (c7 f) (cg a)).t d) #v[_,q] ?_;show#v[h,its',_,hv,q]
def b9.lnew(I:b9 X pins σ H s)(hv:df ys its)(a:ys.length<=aS):
  b9 X pins σ (el H (~~~s) (.ax ys)) { s with heap:=s.heap.push { cls:=.type "list", data:=.seq its.toArray },toks:=t' }:=
 I.laid (λz z q=>aK _ q) (aG _) #v[a,its,0,hv,bz _ J]
theorem b9.fresh(I:b9 X pins σ H s):H (~~~s)=Z:=I.e8.fresh (aG _)
inductive ILm(xs:bC) (h:Heap) (l:Addr):Prop
 |i (z:xs.length<=aS) (its:List aa) (n:Nat) (r:df xs its) (e:xs.length=its.length) (g:h.get? l=U { cls:=.type "list", data:=.seq its.toArray n }):ILm xs h l
def b9.lstM(I:b9 X pins σ H s)(hH:H l=U (.ax xs)):ILm xs s.heap l:=by let#v[z,a,n,r,e]:=I.e8 l _ hH;show#v[z,a,n,r,r.length,e]
def Ro(h:n<=aS):j4 n=δ:=by delta j4;show aP ()
end
section
variable{X:Cx}
inductive K8(x:V) (vs:bC) (H:Hp) (Q:VK):Prop
 |i (l xs y) (h0:x=.ref l) (h1:vs=[y]) (h2:H l=U (.ax xs)) (h3:xs.length<aS) (h4:Q .I (el H l (.ax (xs++[y])))):K8 x vs H Q
def JU:V->bC->Hp->VK->Prop:=λx a H Q=>K8 x a H Q
theorem E8:MtM X "list.append" JU:=by intro c s w H x p v o Q I i f h;let#v[l,t,y,rfl,rfl,hH,m,q]:=h;ext i;let#v[u,rfl,d]:=f.one;let#v[z,a,n,r,j,e]:=I.lstM hH;calc nU lY #v[_,e,J] F.entry_list_append (F.args_list_append_2 _ _) (PySem.list_append l a.toArray n u (by rw[bI];omega)) #v[e,?_];calc#v[.I,_,I.lset (its':=a++[u]) hH e (by simp) (r.append (.cons d .nil)) ?_,J,q];rw[aH,bq];omega
inductive Ot(x:V) (vs:bC) (H:Hp) (Q:VK):Prop
 |i (l xs i k y) (h0:x=.ref l) (h1:vs=[.int i]) (h2:H l=U (.ax xs)) (h3:-(2 ^ 63)<=i) (h4:i<2 ^ 63) (h5:seqIndex? i xs.length=U k) (h6:xs[k]?=U y) (h7:Q y (el H l (.ax (xs.eraseIdx k)))):Ot x vs H Q
def MU:V->bC->Hp->VK->Prop:=λx a H Q=>Ot x a H Q
theorem K9:MtM X "list.pop" MU:=by
 intro d s O H x N v M Q I E C h;let#v[l,G,i,k,y,rfl,rfl,hH,f,j,m,A,q]:=h;ext E;let#v[u,rfl,B]:=C.one;let#v[t,rfl]:=B;let#v[z,a,n,r,o,e]:=I.lstM hH;let#v[w,p,b]:=r.get A;refine nU mF #v[_,e,J] F.entry_list_pop (F.args_list_pop_2 _ _)
  (MeetsSeq.list_pop_at l a.toArray n i t k w (fitsIndex_both f j) (by rw[bI,<- o];show m) (by rw[<-cp];show p) (by rw[bI];omega)) #v[e,?_]
 refine#v[y,_,I.lset (its':=a.eraseIdx k) hH e ?_ (r.eraseIdx k) ?_,b,q]
 .change a.toArray.eraseIdxIfInBounds k=(a.eraseIdx k).toArray;rw[List.eraseIdxIfInBounds_toArray]
 .have:=IU G k;omega
inductive Yf(x:V) (y:V) (H:Hp) (Q:VK):Prop
 |i (l b xs zs) (h0:x=.ref l) (h1:y=.ref b) (h2:H l=U (.ax xs)) (h3:H b=U (.ax zs)) (h4:xs.length+zs.length<=aS) (h5:∀p,H p=Z->Q (.ref p) (el H p (.ax (xs++zs)))):Yf x y H Q
def rCat:R2:=λx y H Q=>Yf x y H Q
def Zr:iE X (c8 .Add) rCat:=by
 intro d s G H x y v u Q I o p h;let#v[l,b,C,F,rfl,rfl,hH,hB,w,q]:=h;ext o;ext p;let#v[z,c,n,r,t,e]:=I.lstM hH;let#v[E,a,A,m,j,f]:=I.lstM hB;calc PySem.P.add_list e f ?_ (by rw[bI,bI];omega);have i:c.toArray++a.toArray=(c++a).toArray:=by simp
 rw[i];show#v[.ref _,_,I.lnew (t':=s.toks) (r.append m) (by rw[aH];omega),J,q _ I.fresh]
end
section
variable{prog:bj}{w:aR}{A:bp}{E:aa->aq->Prop}{s:aq}
set_option maxRecDepth 100000 in
end
section
variable{κ:Type}[DecidableEq κ]
def zc(kvs:List (κ×V))(k:κ):Option V:=(kvs.find? λa=>decide (a.1=k)).map (·.2)
def g?(kvs:List (κ×V))(k:κ)(v:V):List (κ×V):=
 if (kvs.any λa=>decide (a.1=k))=γ then kvs.map (λa=>if a.1=k then (a.1,v)else a)else kvs++[(k,v)]
def Ej{p:κ×V}(e:p.1=k):zc (p::r) k=U p.2:=by simp[zc,fP,e]
def Ek{p:κ×V}(e:¬p.1=k):zc (p::r) k=zc r k:=by simp[zc,fP,e]
theorem G0(k:κ):∀kvs:List (κ×V),(kvs.any λa=>decide (a.1=k))=(zc kvs k).isSome
 |[]=>rfl
 |p::r=>by
  rw[fw];by_cases e:p.1=k
  .erw[Ej e,aM e,Bool.true_or,Option.isSome_some]
  .rw[Ek e,aP e,Bool.false_or];show G0 k r
def AB(kvs:List (κ×V))(k:κ)(v:V):(g? kvs k v).length<=kvs.length+1:=by
 delta g?;split
 .rw[ah];omega
 .rw[aH,aL,dr];omega
def Rp{kvs:List (κ×V)}{k:κ}(v:V)(h:zc kvs k=Z):g? kvs k v=kvs++[(k,v)]:=by delta g?;rw[G0,h];show ai #[]
def Cp.Z?(r:Cp o u):o.isSome=u.isSome:=by
 cases o with
 |none=>cases u with
  |none=>rfl
  |some _=>show(show False from r).elim
 |some _=>cases u with
  |none=>show(show False from r).elim
  |some _=>rfl
theorem Cp.getD(r:Cp o u)(b:d? d a):d? (o.getD d) (u.getD a):=by
 cases o with
 |none=>cases u with
  |none=>show b
  |some _=>show(show False from r).elim
 |some _=>cases u with
  |none=>show(show False from r).elim
  |some _=>show r
def KV.val(r:KV kvs j)(k:κ):Cp (zc kvs k) (valueAt j k):=by
 delta KV at r
 induction r with
 |nil=>show True.intro
 |@cons p q l c h t i=>
  let#v[d,f]:=h;by_cases e:p.1=k
  .have a:q.1=k:=d.symm.t e;have b:valueAt (q::c) k=U q.2:=by simp[valueAt,fP,a]
   rw[Ej e,b];show f
  .have a:¬q.1=k:=λz=>e (d.t z);have b:valueAt (q::c) k=valueAt c k:=by simp[valueAt,fP,a]
   rw[Ek e,b];show i
theorem KV.any(r:KV kvs vs)(k:κ):(kvs.any λa=>decide (a.1=k))=vs.any λa=>decide (a.1=k):=by
 delta KV at r
 induction r with
 |nil=>rfl
 |cons h t b=>rw[fw,fw,b,h.1]
def KV.repl(r:KV kvs i)(k:κ)(f:d? y u):
  KV (kvs.map λa=>if a.1=k then (a.1,y)else a) (i.map λa=>if a.1=k then (a.1,u)else a):=by
 delta KV at r ⊢
 induction r with
 |nil=>show .nil
 |@cons p q j l h t d=>
  rw[aA,aA];calc .cons ?_ d;let#v[b,c]:=h;by_cases e:p.1=k
  .rw[af e,af (b.symm.t e)];show#v[b,f]
  .rw[ai e,ai (λz=>e (b.t z))];show#v[b,c]
def KV.put(r:KV kvs b)(k:κ)(a:d? y u):KV (g? kvs k y) (stored b k u):=by
 delta g? stored;rw[r.any k];by_cases e:(b.any λc=>decide (c.1=k))=γ
 .rw[af e,af e];show r.repl k a
 .rw[ai e,ai e];show r9 r #v[J,a]
theorem KV.length(r:KV kvs vs):kvs.length=vs.length:=mR r
end
def FJ(r:d? (kV k) u):(vB P w).is k u=γ:=by
 cases k with
 |inl i=>let#v[t,e]:=(show ∃t,u=Value.int i t from r);subst e;show KY P w i t
 |inr x=>let#v[t,e]:=(show ∃t,u=Value.str x t from r);subst e;show KZ P w x t
theorem IV:∀{a:List ef} {b:List aa},df (a.map kV) b->ItemsAre (vB P w) a b
 |[],_,r=>by rw[cf]at r;ext r;show .nil
 |k::a,_,r=>by
  rw[aA]at r;cases r with
  |cons h t=>show .cons (FJ h) (IV t)
abbrev KT(H:Hp):List (List ef×V)->List (List ef×Addr×aa)->Prop:=gR λp q=>p.1=q.1/\H q.2.1=U (.bx (p.1.map kV))/\d? p.2 q.2.2
def KT.val(r:KT H kvs j)(k:List ef):Cp (zc kvs k) ((atKey j k).map (·.2)):=by
 induction r with
 |nil=>show True.intro
 |@cons p q l c h t i=>
  let#v[d,_,f]:=h;by_cases e:p.1=k
  .have a:q.1=k:=d.symm.t e;have b:atKey (q::c) k=U q.2:=by simp[atKey,fP,a]
   rw[Ej e,b];show f
  .have a:¬q.1=k:=λz=>e (d.t z);have b:atKey (q::c) k=atKey c k:=by simp[atKey,fP,a]
   rw[Ek e,b];show i
def KT.repl(r:KT H kvs j)(k:List ef)(i:d? y u):
  KT H (kvs.map λb=>if b.1=k then (b.1,y)else b) (j.map (putAt k u)):=by
 induction r with
 |nil=>show .nil
 |@cons p q l m h t f=>
  rw[aA,aA];calc .cons ?_ f;let#v[a,c,d]:=h;delta putAt;by_cases e:p.1=k
  .rw[af e,af (a.symm.t e)];show#v[a,c,i]
  .rw[ai e,ai (λz=>e (a.t z))];show#v[a,c,d]
def KT.put(r:KT H kvs a)(k:List ef)(d:H b=U (.bx (k.map kV)))(c:d? y u):
  KT H (g? kvs k y) (storedH a k b u):=by
 have e:(kvs.any λf=>decide (f.1=k))=(atKey a k).isSome:=by rw[G0,(r.val k).Z?,Option.isSome_map]
 delta g? storedH;rw[e];by_cases q:(atKey a k).isSome=γ
 .rw[af q,af q];show r.repl k c
 .rw[ai q,ai q];show r9 r #v[J,d,c]
def KT.keeps(r:KT H kvs e)(d:∀b a,H b=U (.bx a)->c b=U (.bx a)):KT c kvs e:=
 Paired.mapP r λw w z=>#v[z.1,d _ _ z.2.1,z.2.2]
section
variable{P:bj}{w:aR}{H:Hp}{h:Heap}{a:Addr}
def Yg(ok:q? P w H h)(e:Rd H a u):er P w H h a u:=e.ok ok
def El(ok:q? P w H h)(e:Rd H a (.dK kvs)):kvs.length<=aS/\(a==c6)=δ/\∃b,KV kvs b/\h.DictOf (vB P w) a b:=
 show er P w H h a (.dK kvs) from Yg ok e
def Rq(ok:q? P w H h)(e:H a=U (.dK kvs)):kvs.length<=aS/\(a==c6)=δ/\∃b,KV kvs b/\h.DictOf (vB P w) a b:=El ok (.inl e)
def JV{c:List ef}(ok:q? P w H h)(e:H a=U (.bx (c.map kV))):(tupleKind (vB P w)).is h c a:=by let#v[_,b,r,#v[o,d,f,n,i],_]:=(show er P w H h a (.bx (c.map kV)) from ok a _ e);show#v[o,b.toArray,n,d,f,i,by exists IV r]
def La(ok:q? P w H h)(e:Rd H a (.dT kvs)):kvs.length<=aS/\(a==c6)=δ/\
  ∃c,KT H kvs c/\h.DictOfH (tupleKind (vB P w)) a c:=by
 let#v[z,y,c,r,o,i,f,j,u,A,B,C]:=(show er P w H h a (.dT kvs) from Yg ok e);calc#v[z,y,c,r,o,i,f,j,u,A,B,λx b=>?_,C];have all:∀{l:List (List ef×V)} {m:List (List ef×Addr×aa)},KT H l m->∀x∈m,(tupleKind (vB P w)).is h x.1 x.2.1:=by
  intro l m q
  induction q with
  |nil=>intro x b;show nomatch b
  |@cons p q F G d t E=>
   intro x b;rcases aJ.1 b with e|b
   .subst e;show JV ok (by rw[<-d.1];show d.2.1)
   .show E x b
 show all r x b
def dt_of(ok:q? P w H h)(e:H a=U (.dT kvs)):kvs.length<=aS/\(a==c6)=δ/\
  ∃b,KT H kvs b/\h.DictOfH (tupleKind (vB P w)) a b:=La ok (.inl e)
end
def x3(H:Hp)(a:Addr)(y:V)(r:Option V):Prop:=
 (∃kvs k,Rd H a (.dK kvs)/\y=kV k/\r=zc kvs k)\/∃kvs k b,Rd H a (.dT kvs)/\y=.ref b/\H b=U (.bx (k.map kV))/\r=zc kvs k
def Lb(H:Hp)(a:Addr)(y v:V)(c:Hp):Prop:=
 (∃kvs k,H a=U (.dK kvs)/\y=kV k/\kvs.length<aS/\c=el H a (.dK (g? kvs k v)))\/
 ∃kvs k b,H a=U (.dT kvs)/\y=.ref b/\H b=U (.bx (k.map kV))/\kvs.length<aS/\c=el H a (.dT (g? kvs k v))
theorem Lb.k{H:Hp}{a:Addr}{kvs:List (ef×V)}{k:ef}{v:V}(e:H a=U (.dK kvs))(b:kvs.length<aS):Lb H a (kV k) v (el H a (.dK (g? kvs k v))):=.inl #v[kvs,k,e,J,b,J]
section
variable{X:Cx}{pins:dh}{σ:St}{H:Hp}{s:aq}{a:Addr}{y v:V}{u r:aa}{o:Option V}{A:bp}{E:aa->aq->Prop}
def b9.big(I:b9 X pins σ H s):c6< ~~~s:=by have h:bR< ~~~s:=(I.Dv.Ai.keeps I.bk).lt;show kJ #[] h
def PY(B:A.units+1<cLine)(I:b9 X pins σ H s)(g:x3 H a y (U v))(m:d? y u)(h:∀d q,b9 X pins σ H q->d? v d->Q d q):
  av (model X.prog X.w) A (getItem (.ref a) u) Q E s:=by
 rcases g with ⟨kvs,k,e,f,l⟩|⟨kvs,k,b,e,f,t,l⟩
 .subst f;let#v[z,hd,C,rel,dd]:=El I.e8 e;let#v[d,j,c]:=Cp.E? (v:=v) (o:=valueAt C k) (by rw[l];show rel.val k);show wpAny_getItem_of (FJ m) dd.mapOf j (h d _ (I.w? _) c)
 .subst f;cases (show u=Value.ref b from m);let#v[z,hd,F,rel,dd]:=La I.e8 e;let#v[d,j,c]:=Cp.E? (v:=v) (o:=(atKey F k).map (·.2)) (by rw[l];show rel.val k)
  let#v[p,x,i]:=o8.1 j;calc wpAny_getItem_heap (lZ B) (JV I.e8 t) dd x ?_;rw[i];show h d _ (I.w? _) c
def GA(I:b9 X pins σ H s)(f:Mut (H a))(hs:gH a s.heap h')(d:∃q,h'.get? a=U q)(new:er X.prog X.w (el H a ob) h' a ob):
  b9 X pins σ (el H a ob) { s with heap:=h',toks:=t' }:=
 I.xp (x:=a) (e:=a) f (.inl J) (λb q c z=>(hs.2 b c).t z) d new
def MV{h':Heap}{kvs:List (ef×V)}(z:kvs.length<=aS)(hd:(a==c6)=δ)(rel:KV kvs b)(dd:h'.DictOf (vB P w) a b):
  er P w c h' a (.dK kvs):=#v[z,hd,b,rel,dd]
def PZ(hu:A.units+1<cLine)(I:b9 X pins σ H s)(g:Lb H a y v N)(G:d? y u)(F:d? v r)(h:∀M,b9 X pins σ N M->Q Unit.unit M):
  av (model X.prog X.w) A (setItem (.ref a) u r) Q E s:=by
 rcases g with ⟨kvs,k,e,i,l,eH⟩|⟨kvs,k,b,e,i,x,l,eH⟩
 .subst i eH;let#v[z,hd,vs,rel,dd]:=Rq I.e8 e;have t:vs.length<=aS:=by rw[<-rel.length];show z
  have j:(g? kvs k v).length<=aS:=by have:=AB kvs k v;omega
  calc wpAny_setItem_pairs (hsz:=t) (FJ G) dd λC d m=>h _ ?_;have Y:∃q,C.get? a=U q:=let #v[q,_,_,f,_]:=d;#v[q,f];show GA I (by rw[e];show True.intro) m Y (MV j hd (rel.put k F) d)
 .subst i eH;cases (show u=Value.ref b from G);let#v[z,hd,xs,rel,dd]:=dt_of I.e8 e;have t:xs.length<=aS:=by rw[<-mR rel];show z
  have j:(g? kvs k v).length<=aS:=by have:=AB kvs k v;omega
  calc wpAny_setItem_heap (hsz:=t) (lZ hu) (JV I.e8 x) dd λC d m=>h _ ?_;let#v[q,P,O,f,R,S,T,_,W]:=d;calc GA I (by rw[e];show True.intro) m #v[q,f] #v[j,hd,_,(rel.put k x F).keeps λc ys B=>?_,q,P,O,f,R,S,T,W];rw[vt (acY B e (λz=>nomatch z))];show B
end
section
variable{X:Cx}{pins:dh}{σ:St}{H:Hp}{s:aq}{a:Addr}{kvs:List (ef×V)}{k:ef}{u:aa}{A:bp}{E:aa->aq->Prop}
def adt(I:b9 X pins σ H s)(e:Rd H a (.dK kvs))(h:∀t b,b9 X pins σ H b->Q (.int kvs.length t) b):av (model X.prog X.w) A (call (.builtin "len") [.ref a]) Q E s:=by let#v[z,hd,c,rel,dd]:=El I.e8 e;calc call_len_dict hd dd (by rw[<-rel.length];rw[bS]at z;omega) ?_;rw[<-rel.length];show h _ _ (I.w? _)
end
def Zs(i:Expr):Prop:=∀b a,subscripted i δ b a=operate [b,a] (getItem b a)
def Vt{prog:bj}{w:aR}{A:bp}{E:aa->aq->Prop}{s:aq}{a8:Env}{value slice:Expr}{pos:Pos}{T id:String}{Q:aa->aq->Prop}
  (j:typeLookup (.type T) "__getitem__" = pure (U (.builtin id))) (l:Zs slice)
  (h:av (model prog w) A (eval value a8) (λo c=>av (model prog w) A (eval slice a8) (λi a=>a.TypeIs o T/\av (model prog w) A (getItem o i) Q E a) E c) E s):
  av (model prog w) A (eval (.Subscript value slice pos) a8) Q E s:=by
 calc nR (cE h (λo c e=>cE e (λi a b=>?_) λz z x=>x) λz z x=>x);let#v[hT,b]:=b;delta subscriptTail;calc ar ?_;rw[getitemInPython_of_ne hT.not_modules];calc ar (iq hT j ?_);have fin:av (model prog w) A (subscripted slice δ o i) (λr d=>av (model prog w) A (letTemporaryGo value o r>>=λz=>pure r) Q E d) E a:=by rw[l o i];show wpAny_operating (cE b (λr d f=>ar (wpAny_letTemporaryGo (aC f))) λz z x=>x)
 first
  |show aC (ar fin)
  |show ar (aC (ar fin))
  |show ar fin
def Lc(I:b9 X c h H s)(g:x3 H a y o):s.TypeIs (.ref a) "dict" := by
 rcases g with ⟨kvs,k,e,_,_⟩|⟨kvs,k,b,e,_,_,_⟩
 .let#v[_,_,d,_,dd]:=El I.e8 e;show dd.typeIs
 .let#v[_,_,f,_,dd]:=La I.e8 e;show dd.typeIs
def adu(e ty:TE):TE:=λc H Q=>e c H λx d=>ty c d λy b=>∃a v,x=.ref a/\x3 b a y (U v)/\Q v b
def Ou(h ty i:TE):TS:=λD b H=>i b H λv d=>h b d λx e=>ty b e λy f=>∃a c,x=.ref a/\Lb f a y v c/\D.nx b c
section
variable{X:Cx}{o i e value:Expr}{pos pos' tpos:Pos}{td ty tv:TE}
theorem Vu(z:X.A.units+1<cLine)(t:PE X o td)(r:PE X i ty)(w:Zs i):PE X (.Subscript o i pos) (adu td ty):=by intro b s f H Q I h;calc Vt F.slot_dict_getitem.lookup w (fb (t b s f H _ I h) λu M #v[x,j,m,E,B]=>fb (r b M f j _ m B) λN O zz=>?_);let#v[y,l,d,G,a,v,q,g,C]:=zz;subst q;obtain rfl:u=Value.ref a:=E;show#v[Lc d g,PY z d g G λR P p c=>#v[v,l,p,c,C]]
def Ov(C:X.A.units+1<cLine)(z:PE X o td)(w:PE X i ty)(E:PE X value tv)(B:eL value (U (.Subscript o i pos')) pos.line X.a8=pure δ):
  PS X (.Assign [.Subscript o i pos'] value pos) (Ou td ty tv):=by
 intro b s c H D I h;calc wpAny_Assign_Subscript (fb (E b s c H _ I h) λr Q #v[v,d,l,N,F]=>fb (z b Q c d _ l F) λu R #v[x,f,m,O,G]=>fb (w b R c f _ m G) λT W zz=>?_) B;let#v[y,S,p,P,a,j,t,g,M]:=zz;subst t;obtain rfl:u=Value.ref a:=O;show PZ C p g P N λY q=>#v[c,j,q,M]
end
def Ld(h:Heap)(a:c6<h.objs.size):er P w H (h.push { cls:=.type "dict", data:=.dict [].toArray }) h.objs.size (.dK []):=
 #v[bP _,beq_eq_false_iff_ne.2 (cg (bf a)),[],.nil,u7 h]
def G1:TE:=λz H Q=>∀p,H p=Z->Q (.ref p) (el H p (.dK []))
section
variable{X:Cx}{pos:Pos}
def Cs:PE X (.Dict [] [] pos) G1:=λb s d H Q I h=>
 wpAny_Dict_empty #v[.ref (~~~s),_,I.laid (a:= ~~~s) (o:=.dK []) (t':=s.toks) (λz z q=>aK _ q) (aG _) (Ld s.heap I.big),J,h _ (I.e8.fresh (aG _))]
end
def JW:List (TE×TE)->St->Hp->(List (V×V)->Hp->Prop)->Prop
 |[],_,H,Q=>Q [] H
 |(tk,f)::r,a,H,Q=>tk a H λx b=>f a b λy c=>JW r a c λe d=>Q ((x,y)::e) d
abbrev VV:List (V×V)->List (aa×aa)->Prop:=gR λp q=>d? p.1 q.1/\d? p.2 q.2
def PPs(X:Cx)(pos:Pos)(keys:List (Option Expr))(values:List Expr)(trs:List (TE×TE)):Prop:=
 ∀(a:dh) (s:aq) (b:St) (H:Hp) (Q:List (V×V)->Hp->Prop),b9 X a b H s->JW trs b H Q->
  av (model X.prog X.w) X.A (evalPairs (pairTrees keys values X.a8 pos)) (λf e=>∃d c,b9 X a b c e/\VV d f/\Q d c) X.xe s
def Vv:PPs X pos [] [] []:=λa s b H Q I h=>pairTrees_nil_walk #v[[],H,I,.nil,h]
def Rr(l:PE X k tk)(o:PE X v E)(m:PPs X pos p F trs):
  PPs X pos (U k::p) (v::F) ((tk,E)::trs):=λa s b H Q I h=>
 pairTrees_cons_walk (fb (l a s b H _ I h) λu B #v[x,c,f,z,r]=>fb (o a B b c _ f r) λM C #v[y,d,i,A,t]=>
  fb (m a C b d _ i t) λN G #v[q,e,j,rel,w]=>#v[(x,y)::q,e,j,.cons #v[z,A] rel,w])
def Ct(kvs more:List (ef×V)):List (ef×V):=more.foldl (λacc a=>g? acc a.1 a.2) kvs
def KV.merge:∀{more:List (ef×V)} {rs:List (ef×aa)} {kvs:List (ef×V)} {a:List (ef×aa)},KV more rs->KV kvs a->KV (Ct kvs more) (merged a rs):=by
 intro more rs kvs a r;delta KV at r
 induction r generalizing kvs a with
 |nil=>intro q;show q
 |@cons p q d f h t b=>
  intro c;have e:KV (g? kvs p.1 p.2) (stored a q.1 q.2):=by have:=c.put p.1 h.2;rw[<-h.1];show this
  show b e
theorem DG:∀(more kvs:List (ef×V)),(Ct kvs more).length<=kvs.length+more.length
 |[],kvs=>by change kvs.length<=kvs.length+0;omega
 |p::r,kvs=>by have a:=DG r (g? kvs p.1 p.2);have b:=AB kvs p.1 p.2;change (Ct (g? kvs p.1 p.2) r).length<=_;rw[aL];omega
theorem G2:∀{kvs:List (ef×V)} {e:List (aa×aa)},VV (kvs.map λd=>(kV d.1,d.2)) e->∃rs,Carries (vB P w) e rs/\KV kvs rs
 |[],_,r=>by rw[cf]at r;ext r;show#v[[],True.intro,.nil]
 |p::kvs,_,r=>by
  rw[aA]at r;cases r with
  |@cons a b as bs h t=>let#v[rs,c,q]:=G2 (P:=P) (w:=w) t;let#v[i,f]:=b;show#v[(p.1,f)::rs,#v[FJ h.1,J,c],.cons #v[J,h.2] q]
def Rt(trs:List (TE×TE)):TE:=λd H Q=>∀p,H p=Z->JW trs d (el H p (.dK [])) λc a=>a p=U (.dK [])/\∃kvs:List (ef×V),c=kvs.map (λb=>(kV b.1,b.2))/\kvs.length<=15/\Q (.ref p) (el a p (.dK (Ct [] kvs)))
def Vw(h:PPs X pos keys values trs)(hall:keys.all (·.isSome)=γ)(u:keys.length=values.length)(p:keys≠[])
  (f:keys.length<=15):PE X (.Dict keys values pos) (Rt trs):=by
 intro d s M H Q I q;have x:=I.e8.fresh (aG (~~~s));have l:=I.laid (a:= ~~~s) (o:=.dK []) (h':=s.heap.push { cls:=.type "dict", data:=.dict [].toArray }) (t':=s.toks) (λv v q=>aK _ q) (aG _) (Ld s.heap I.big);calc wpAny_Dict_walk (knd:=vB X.prog X.w) hall u p f (fb (h d _ M _ _ l (q _ x)) λT R zz=>?_);let#v[O,N,i,rel,e,kvs,m,lk,C]:=zz;subst m;let#v[rs,c,F]:=G2 (P:=X.prog) (w:=X.w) rel;let#v[z,hd,G,E,dd]:=Rq i.e8 e;ext E;calc#v[rs,c,dd,λj b A=>#v[.ref (~~~s),_,?_,J,C]];have B:(Ct [] kvs).length<=aS:=by have r:=DG kvs [];rw[dr]at r;rw[bS];omega
 have t:∃q,j.get? (~~~s)=U q:=let #v[q,_,_,y,_]:=b;#v[q,y];show GA i (by rw[e];show True.intro) A t (MV B hd (F.merge .nil) b)
structure M1(X:Cx)(o:Expr)(m:Str)(apos:Pos)(e:Expr)(cpos:Pos):Prop where
 a7:fo o m X.a8 (eval o X.a8)=eval o X.a8
 few:((bM cpos (aE [e] X.a8)).all (λx=>!x.1)&&(backToKw cpos (eI [] X.a8)).all (λx=>x.1.isSome)
  && decide (([e]:List Expr).length+([]:List fV).length+(if ([]:List fV).isEmpty then 0 else 1)<30))=γ
 line:(apos.endLine==cpos.line)=γ
 V0:bM cpos (aE [e] X.a8)=[(δ,eval e X.a8)]
structure M2(X:Cx)(o:Expr)(m:Str)(apos:Pos)(e f:Expr)(cpos:Pos):Prop where
 a7:fo o m X.a8 (eval o X.a8)=eval o X.a8
 few:((bM cpos (aE [e,f] X.a8)).all (λx=>!x.1)&&(backToKw cpos (eI [] X.a8)).all (λx=>x.1.isSome)
  && decide (([e,f]:List Expr).length+([]:List fV).length+(if ([]:List fV).isEmpty then 0 else 1)<30))=γ
 line:(apos.endLine==cpos.line)=γ
 V0:bM cpos (aE [e,f] X.a8)=[(δ,eval e X.a8),(δ,eval f X.a8)]
def IsD(H:Hp)(a:Addr):Prop:=(∃kvs,Rd H a (.dK kvs))\/∃kvs,Rd H a (.dT kvs)
def JX(I:b9 X i m H s)(d:IsD H a):
  s.TypeIs (.ref a) "dict" /\ (∀b,Value.ref a=.ref b->∃c,s.heap.get? b=U c/\c.dict=Z)/\(a==c6)=δ:=by
 rcases d with ⟨kvs,e⟩|⟨kvs,e⟩
 .let#v[_,hd,j,_,dd]:=El I.e8 e;calc#v[dd.typeIs,λb q=>?_,hd];ext q;let#v[c,_,_,f,h,_]:=dd;show#v[c,f,h.2.1]
 .let#v[_,hd,l,_,dd]:=La I.e8 e;calc#v[dd.typeIs,λb q=>?_,hd];ext q;let#v[c,_,_,f,h,_]:=dd;show#v[c,f,h.2.1]
section
variable{X:Cx}{pins:dh}{σ:St}{H:Hp}{s:aq}{a:Addr}{y d:V}{u r:aa}{o:Option V}{A:bp}{E:aa->aq->Prop}
def Ru(p:A.units+1<cLine)(I:b9 X pins σ H s)(g:x3 H a y o)(f:d? y u)(h:∀j i,b9 X pins σ H i->d? (o.getD .I) j->Q j i):
  av (model X.prog X.w) A (call (.builtin "dict.get") [.ref a,u]) Q E s:=by
 rcases g with ⟨kvs,k,e,c,l⟩|⟨kvs,k,b,e,c,m,l⟩
 .subst c;let#v[z,hd,t,rel,dd]:=El I.e8 e;calc jw jn dd.typeIs mx (md _ _) (qT (vB X.prog X.w) a (FJ f) hd) #v[_,dd.mapOf,h _ _ (I.w? _) ?_];rw[l];show(rel.val k).getD J
 .subst c;cases (show u=Value.ref b from f);let#v[z,hd,q,rel,dd]:=La I.e8 e;calc jw jn dd.typeIs mx (md _ _) (meetsH_dict_get (tupleKind (vB X.prog X.w)) a b hd) #v[lZ p,k,q,JV I.e8 m,dd,h _ _ (I.w? _) ?_];rw[l];show(rel.val k).getD J
end
def Zt(e ty:TE):TE:=λd H Q=>e d H λx b=>∃a,x=.ref a/\IsD b a/\ty d b λy c=>∃o,x3 c a y o/\Q (o.getD .I) c
section
variable{X:Cx}{o e f:Expr}{apos cpos:Pos}{td ty tx:TE}
def Rv(B:X.A.units+1<cLine)(z:PE X o td)(w:PE X e ty)(m:M1 X o "get" apos e cpos):PE X (.Call (.Attribute o "get" apos) [e] [] cpos) (Zt td ty):=by intro b s j H Q I h;calc me m.a7 m.few m.line ku jn qE (fb (z b s j H _ I h) λu M zz=>?_);let#v[x,l,i,F,a,t,d,C]:=zz;subst t;obtain rfl:u=Value.ref a:=F;let#v[N,O,_]:=JX i d;calc#v[N,O,?_];rw[m.V0];calc iW J (kc (gh (fb (w b M j l _ i C) λP S #v[y,p,q,G,R,g,E]=>ie ?_)));show Ru B q g G λW T r c=>#v[_,p,r,c,E]
end
end L2
namespace Att
open PySem PySem.W PySem.Calls PyProof.Rows
def Gp:∀(c:List Int) (d:List aa),WellAll P h d (c.map WData.int)->jC d c:=by
 intro c
 induction c with
 |nil=>intro d w;rw[cf]at w;ext w;show .nil
 |cons n c e=>
  intro d w;rw[aA]at w;cases w with
  |cons a b=>ext a;show .cons _ _ (e _ b)
def P3{l:iF}(t:l.most=U n)
  (hpre:l.row.toRowW.claim.pre args=γ) (hwl:WellAll P h vals args):
  ∃a j b,vals=[Value.ref a]/\args=[WData.list (b.map WData.int)]/\h.get? a=U { cls:=.type "list", data:=.seq j.toArray }/\jC j b/\b.length<=n:=by
 have hsh:WShape.hasAll [] args [.list .int]=γ:=(pre_splitW hpre).1;have i:l.pre.holds [] { args:=args }=γ:=(pre_splitW hpre).2;let#v[d,r,rfl,m,o]:=hasAllW_cons hsh;obtain rfl:=hasAllW_nil o;let#v[z,rfl,p]:=hasW_list m;let#v[b,rfl]:=items_int p;have c:b.length<=n:=by
  delta OpenLaw.pre at i;have e:(WTm.not (.lt (.lit (.int (n:Int))) (.len (.arg 0)))).holds [] { args:=[.list (b.map .int)] }=γ:=by have e:=(holds_andW i).1;rw[t]at e;show e
  have f:=condW_of e (w_not (w_lt w_lit (w_len_list (w_arg J))));rw[ah]at f;calc qt λq=>?_;have w:(n:Int)<((b.length:Nat):Int):=by omega
  first
   |(rw[aM w]at f;show au f #[])
   |(simp at f;omega)
 cases hwl with
 |cons x y=>
  ext y;cases x with
  |list u hall=>show#v[_,_,b,J,J,u,Gp b _ hall,c]
def P4(l:iF)(args:List WData):l.row.toRowW.claim.post args (.bool γ) args=γ:=
 postW_of (r:=l.row.toRowW) (X:=(γ==γ))
  (show sA [] (.bool γ) .bool=γ by first|rfl|decide|simp[sA,WShape.arms,WShape.armsAll])
  (show (WTm.eq .res (.lit (.bool γ))).value [] { args:=args,res:=U (.bool γ),after:=args }=U (.bool (γ==γ)) from w_eq_bool (w_res J) w_lit) J
def H4{l:iF}{d:DefRec}
  (E:l.most=U n) (hdf:d.params.defaults=[])
  (call:∀(w:aR) (c b:aq) (m u:Str->Option aa) (h:Addr) (o:Obj) (x j doc:aa) (a:Addr) (e:List aa) (p:List Int),
   Ground q loose [] XP w c m u b.heap->YP w b.heap->
   b.heap.get? h=U o->o.data=.func (docDef d.name d.params d.body d.scope x j doc)->b.heap.CodeRec j d.name->m d.name=U (.ref h)->
   b.heap.get? a=U { cls:=.type "list", data:=.seq e.toArray }->jC e p->p.length<=n->b.gens=[].toArray->
   cK (model l.prog w) callerA (.call (.ref h) #v[[.ref a],[]]) (λr t=>r=.ok (.ret (.bool γ))/\OldK b.heap t.heap/\t.os=b.os/\fF t.gens) b):
  WalkO q loose XP YP l.row.toRowW d [] (λf e=>nV f e):=by
 intro w c b m u G Y h o x j doc dV kV F hd hcd hD hmg B args vals as hpre hlay hrd hwl hlo;obtain rfl:dV=.none:=Dflts.none hD hdf;obtain rfl:kV=.none:=Dflts.noKw hD;let#v[a,e,p,rfl,rfl,hobj,hints,i]:=P3 E hpre hwl;calc enter_call (iz (call w c b m u h o x j doc a e p G Y F (fd_plain hd) hcd hmg hobj hints i B) λr t H=>?_);let#v[rfl,y,z,A]:=H;show#v[.inl #v[.bool γ,.bool γ,[],J,λv=>J,.bool γ,P4 l _,λv=>#v[List.Pairwise.nil,λv C=>(nomatch C)]],y,z,A]
end Att
namespace L2
open PySem PySem.Spec PyProof.Rows
theorem IW:∀{b:List aa} {a:List Int},jC b a->df (a.map V.int) b
 |_,_,.nil=>.nil
 |_,_,.cons n t h=>.cons #v[t,J] (IW h)
def Zu(H:Hp):Prop:=∀b,H b=Z\/∃o a,H b=U (.k4 o (.ax a))
def Rx{K:ay}{c:aq}{j:List aa}
  (KX:K.In c.heap) (hns:c.heap.Ns bR A) (f:c.heap.Ns builtinsNs O) (hbb:∀x:Str,x≠"__name__" -> O x=eF x) (hlim:c.heap.NoLimit) (hg:c.gens=[].toArray)
  (y:c.heap.get? a=U { cls:=.type "list", data:=.seq j.toArray }) (M:jC j B) (N:B.length<=aS) (hr:xg k callerA)
  (F:∀a7:Heap,K.In a7->a7.Ns bR A->yS P w K A a7 CX k I W [x] sp) (hbind:∀(s:aq) (u:aa),iI s W #v[[u],[]] [(x,u)])
  (hsp:∀H:Hp,Zu H->f? K H a (B.map V.int)->sp [.ref a] H (λv _=>v=.bl γ) λ_ _ _=>False)
  (hCX:∀H e i,CX [] H c (λ_ _ _=>False) e i->False):
  cK (model P w) callerA (.call (.ref I) #v[[.ref a],[]]) (λr i=>r=.ok (.ret (.bool γ))/\OldK c.heap i.heap/\i.os=c.os/\fF i.gens) c:=by
 have Q:=IW M;have lenV:=M.length;have core:∀H:Hp,Zu H->f? K H a (B.map V.int)->q? P w H c.heap->(∀b,H b≠Z->b=a)->(H a≠Z->K.lookup a=Z)->
   cK (model P w) callerA (.call (.ref I) #v[[.ref a],[]]) (λr i=>r=.ok (.ret (.bool γ))/\OldK c.heap i.heap/\i.os=c.os/\fF i.gens) c:=by
  intro H hO hS e8 hA hK;have base_of:∀{b:Addr} {o:Obj},c.heap.get? b=U o->H b=Z->(JL c.heap H).get? b=U o:=λe n=>QS e n;have noA:∀{b:Addr} {o:Obj} {p:Array DictEntry} {l:Nat},c.heap.get? b=U o->o.data=.dict p l->H b=Z:=λ{b o p l} e d=>by
   cases q:H b with
   |none=>rfl
   |some u=>have C:b=a:=hA b (by rw[q];simp);subst C;rw[y]at e;ext e;have R:Data.seq j.toArray _=Data.dict p l:=d;ext R
  have nsK:∀{b:Addr} {m:Str->Option aa},c.heap.Ns b m->(JL c.heap H).Ns b m:=λ{b m} #v[o,p,l,e,d,r]=>#v[o,p,l,base_of e (noA e d),d,r];have hKb:K.In (JL c.heap H):=λb o e=>base_of (KX b o e) (by
   cases q:H b with
   |none=>rfl
   |some u=>
    have C:b=a:=hA b (by rw[q];simp);subst C;rw[hK (by rw[q];simp)]at e;ext e)
  have hM:Mod K A (JL c.heap H):=#v[hKb,nsK hns,#v[O,nsK f,hbb],let #v[mc,Y,h2]:=hlim;#v[mc,nsK Y,h2]];have S:MR P w K A (JL c.heap H) callerA [] c H:=#v[J,hM,λb o e=>U8 e,m5 (PB _ _),trivial,λb f=>au (show b∈([]:List Addr) from f) (by simp),e8,.of_eq hg];calc iz ((F _ hKb (nsK hns)).run callerA [] c H #v[[.ref a],[]] [.ref a] [.ref a] _ _ hr S (hbind c (.ref a)) (.cons J .nil) (hsp H hO hS)) λr i h=>?_;cases r with
  |error e=>show(hCX H e i h).elim
  |ok X=>
   cases X with
   |next=>show dv h
   |brk=>show dv h
   |cont=>show dv h
   |ret u=>
    let#v[v,H',os,jl,un,hok',r',q]:=h;have q':v=.bl γ:=q;subst q';obtain rfl:u=Value.bool γ:=r';calc#v[J,OldK.of_keep λb o e=>?_,os,jl];cases q:H b with
    |none=>show un.keep b o e q (by intro z;show au (show b∈([]:List Addr) from z) (by simp)) (by simp)
    |some u=>
     rcases hO b with z|⟨ob,xs,z⟩
     .rw[q]at z;ext z
     .have z2:=un.tj b ob _ z;let#v[G,_]:=e8 b _ z;let#v[T,_]:=hok' b _ z2;rw[e]at G;ext G;show T
 cases E:K.lookup a with
 |some o=>have e:=KX a o E;rw[y]at e;ext e;refine core (λ_=>Z) (λ_=>.inl J) (.inr #v[_,j.toArray,_,E,J,J,J,by rw[bI,lenV];show N,by exists Q]) (λb u z=>by have t:(Z:Option HO)=U u:=z;ext t) (λb z=>au J z) λz=>au J z
 |none=>
  refine core (λb=>if b=a then U (.k4 { cls:=.type "list", data:=.seq j.toArray } (.ax (B.map V.int)))else Z) (λb=>?_) (.inl (.inr #v[{ cls:=.type "list", data:=.seq j.toArray },af J])) (λb u z=>?_) (λb z=>?_) λ_=>E
  .by_cases f:b=a
   .show .inr #v[_,_,af f]
   .show .inl (ai f)
  .by_cases f:b=a
   .have t:=(af f).symm.t z;ext t;subst f;show#v[y,by rw[ah];show N,j,_,Q,y]
   .have t:=(ai f).symm.t z;ext t
  .by_cases f:b=a
   .show f
   .show au (ai f) z
def Vx{l:iF}{n k:Nat}{q:bj}{loose:aD}{XP:(Str->Option aa)->Heap->Prop}{YP:aR->Heap->Prop}{d:DefRec}{K:Params->ay}{CX:aR->υ}{sp:aR->Sp}{x:Str}
  (E:l.most=U n) (t:n<=aS) (hdf:d.params.defaults=[]) (I:xg k callerA)
  (hY:∀(w:aR) (h:Heap),YP w h->(K w.params).In h)
  (F:∀(w:aR) (i:Str->Option aa) (m:Addr) (h:Heap),(K w.params).In h->h.Ns bR i->i d.name=U (.ref m)->
   ∃r:cy,(∀(s:aq) (u:aa),iI s r #v[[u],[]] [(x,u)])/\
    ∀a7:Heap,(K w.params).In a7->a7.Ns bR i->yS l.prog w (K w.params) i a7 (CX w) k m r [x] (sp w))
  (hsp:∀(w:aR) (H:Hp) (a:Addr) (p:List Int),p.length<=n->Zu H->f? (K w.params) H a (p.map V.int)->sp w [.ref a] H (λv _=>v=.bl γ) λ_ _ _=>False)
  (hCX:∀(w:aR) (H:Hp) (s:aq) (e:aa) (y:aq),CX w [] H s (λ_ _ _=>False) e y->False):
  W.WalkO q loose XP YP l.row.toRowW d [] (λf A=>nV f A):=by
 calc Att.H4 E hdf λw z j i O m o P M doc a A p G Y N hd hcd hmg hobj hints c C=>?_;have KX:=hY w _ Y;let#v[r,B,hF]:=F w i m _ KX G.T.g hmg;show Rx KX G.T.g G.T.b G.T.builtins G.T.nolimit C hobj hints (bW c t) I hF B (λH hO hS=>hsp w H a p c hO hS) λH e y=>hCX w H j e y
def b?(s:Stmt)(j:Nat):Stmt:=match s with
 |.ClassDef _ _ _ body _ _ _ _ _ _ _=>body.getD j (.Pass #v[0,0,0,0])
 |_=>.Pass #v[0,0,0,0]
def yT(s:Stmt):Arguments:=match s with
 |.FunctionDef _ a _ _ _ _ _ _ _ _=>a
 |_=>{ posonlyargs:=[],args:=[],vararg:=Z,kwonlyargs:=[],kw_defaults:=[],kwarg:=Z,defaults:=[] }
def wa(s:Stmt):List Stmt:=match s with
 |.FunctionDef _ _ b _ _ _ _ _ _ _=>b
 |_=>[]
def vH(s:Stmt):dg:=match s with
 |.FunctionDef _ _ _ _ _ _ a _ _ _=>a
 |_=>{ kind:=.function,names:=[],isGenerator:=δ,isCoroutine:=δ }
abbrev yy:υ:=λz z z z z z=>False
abbrev E0:XK:=λz z z=>False
def FK:qi yy X E0:=λz z z z z z z h=>h.elim
structure S2(K:ay)(x qual:Str)(st:Stmt)(f:Addr)(fd:cy):Prop where
 ex:∃(oc:aa) (od:Option Addr) (kV doc pm:aa) (an:Option Addr) (cdv ct:aa) (osl:Array (Option aa)),
  fd=fH x qual (yT st) (wa st) (vH st) .none kV doc pm an cdv ct/\K.lookup f=U #v[oc,od,.func fd,osl]/\iC K cdv qual=γ
 kp:eM K (.ref f)=γ
section
variable{P:bj}{w:aR}{K:ay}{mg:Str->Option aa}{a7:Heap}
theorem S2.ok{x qual:Str}{st:Stmt}{f:Addr}{c:cy}{N ps:aD}{k:Nat}{b:Sp}(F:S2 K x qual st f c)(S:xc N ps (vH st))(len:∀a H Q E,b a H Q E->a.length=ps.length)
  (hbody:∀(cdv:aa) (A:bp) (b8:List Env) (s:aq) (H:Hp) (a:bC) (Q:VK) (E:XK),xg k (A.deeper (envOfC qual (vH st) (~~~s) f cdv))->b a H Q E->
   ∃t,kv (K2 yy P w K mg a7 N qual (vH st) f cdv A b8 s H E).nox (wa st) t/\t { nx:=λz d=>Q .I d,rt:=Q } (start N a) H):yS P w K mg a7 yy (k+1) f c ps b:=by
 let#v[l,m,kV,doc,o,i,cdv,j,osl,rfl,lk,hcd]:=F.ex;calc X9 lk hcd S len λA b8 s H a Q E e hsp=>?_;let#v[t,h,q]:=hbody cdv A b8 s H a Q E e hsp;show#v[t,h.nox,q]
theorem S2.rl{x qual:Str}{st:Stmt}{f:Addr}{i:cy}{d:aD}(F:S2 K x qual st f i)
  (h:∀(kV doc c:aa) (a:Option Addr) (cdv b:aa) (e:List aa),e.length=d.length->bindArgs (fH x qual (yT st) (wa st) (vH st) .none kV doc c a cdv b) #v[e,[]]=pure (d.zip e)):km K i d []:=by
 let#v[j,l,kV,doc,c,a,cdv,b,osl,rfl,lk,hcd]:=F.ex;show .all (h kV doc c a cdv b)
end
def Le(a:xg k A):A.units+1<cLine:=jb (Nat.add_le_add_left (by decide:1<=64) _) a.units
def Bb(h:n<=1000):n<aS:=jb h #[]
section
variable{X:Cx}
def pv(i:Nat)(hN:X.N[i]?=U x:=by rfl)(a:Vis X.a8.scope x:=by first|show Or.inl J|show Or.inr (Or.inl J)|show Or.inr (Or.inr J))(hd:(x==("__debug__" : Str))=δ:=by decide)
  (hcd:(x==("__classdict__" : Str))=δ:=by decide):PE X (.Name x pos) (Aa i):=Y0 hN a hd hcd
end
#print "v B δ i bB;w A γ f J" in def Iϑ0{A B:Prop}(h:ϑ1):if ϑ2=γ then A else B:=by rw[aϑ3 ϑ4];show h
def vw(H a:Hp):Prop:=∀b o,H b=U o->a b=U o
def vw.refl(H:Hp):vw H H:=λz z h=>h
def vw.t(a:vw H d)(b:vw d e):vw H e:=λc o h=>b c o (a c o h)
def vw.seq{K:ay}{H b:Hp}{a:Addr}{xs:bC}(e:vw H b)(h:f? K H a xs):f? K b a xs:=by
 rcases h with (h|⟨o,h⟩)|h
 .show .inl (.inl (e _ _ h))
 .show .inl (.inr #v[o,e _ _ h])
 .show .inr h
end L2
set_option maxHeartbeats 4000000
namespace L3
open PySem PySem.Spec PyProof.Rows L2
abbrev St:=L2.St
theorem G3{d a:Type}{f:d->a->Sem (ForInStep a)}{g:a->d->a}:∀(l:List d) (b:a),(∀x∈l,∀c,f x c=pure (ForInStep.yield (g c x)))->(forIn l b f:Sem a)=pure (l.foldl g b)
 |[],b,_=>by simp
 |x::r,b,h=>by rw[List.forIn_cons,h x aX b];change (forIn r (g b x) f:Sem a)=_;rw[G3 r (g b x) λy e c=>h y (bg _ e) c];rfl
def Cg(cells:List (Str×Addr))(cs:List (Str×Addr))(x:Str×eO):List (Str×Addr):=if (x.2==NameKind.free)=γ then (x.1,(cells.lookup x.1).getD 0)::cs else cs
def Ad(cells:List (Str×Addr))(names:List (Str×eO)):List (Str×Addr):=names.foldl (Cg cells) []
def Iy{scope:dg}{a8:Env}(h:∀x∈scope.names,x.2=.free->∃c,a8.cells.lookup x.1=U c):
  closureFor scope a8=pure (Ad a8.cells scope.names):=by
 erw[closureFor];rw[G3 (g:=Cg a8.cells) scope.names [] λx i c=>by
  let#v[n,k]:=x;by_cases b:k=.free
  .subst b;let#v[a,e]:=h _ i J;have d:=e;erw[Cg,cellOf,d,beq_self_eq_true,if_true,my];rfl
  .have f:(k==NameKind.free)=δ:=by exists b
   erw[Cg,f,gm,if_false]]
 rfl
#print h
theorem Lf{cells:List (Str×Addr)}:∀(names:List (Str×eO)) (acc:List (Str×Addr)),(∀x∈names,x.2=.free->∃c,cells.lookup x.1=U c)->(∀x c,acc.lookup x=U c->cells.lookup x=U c)->
  ∀x c,(names.foldl (Cg cells) acc).lookup x=U c->cells.lookup x=U c
 |[],acc,_,j,x,c,e=>j x c e
 |y::r,acc,h,j,x,c,e=>by
  calc Lf r (Cg cells acc y) (λz p=>h z (bg _ p)) (λz d b=>?_) x c e;let#v[n,k]:=y;delta Cg at b;split at b
  .rename_i o;let#v[a,m]:=h (n,k) aX (by exists o);have f:=m;rw[fM]at b;cases l:z==n with
   |true=>rw[l]at b;have i:=b;rw[f]at i;rw[gO l,f];show i
   |false=>rw[l]at b;show j z d b
  .show j z d b
#print f
theorem IY:∀(names:List (Str×eO)) (acc:List (Str×Addr)) (x:Str),(∃c,acc.lookup x=U c)->∃c,(names.foldl (Cg cells) acc).lookup x=U c
 |[],_,_,h=>h
 |y::r,acc,x,h=>by
  calc IY r (Cg cells acc y) x ?_;delta Cg;split
  .rw[fM];cases x==y.1 with
   |true=>show#v[_,J]
   |false=>show h
  .show h
theorem G4:∀(names:List (Str×eO)) (acc:List (Str×Addr)) (x:Str),(x,NameKind.free)∈names->∃c,(names.foldl (Cg cells) acc).lookup x=U c
 |[],_,_,h=>by cases h
 |y::r,acc,x,h=>by
  rcases aJ.1 h with e|h
  .subst e;calc IY r _ x ?_;delta Cg;rw[af (by simp),fM];simp
  .show G4 r _ x h
#print h
theorem Bu{a8:Env}(x:Str):∀(names:List (Str×eO)),
  (names.map λ(n,k)=>if (k==NameKind.free&&a8.scope.kind==.function&&a8.kindOf n==U .cell)then (n,NameKind.cell)else (n,k)).lookup x=
   (names.lookup x).map λk=>if (k==NameKind.free&&a8.scope.kind==.function&&a8.kindOf x==U .cell)=γ then NameKind.cell else k
 |[]=>rfl
 |(n,k)::r=>by
  have c:=Bu (a8:=a8) x r;rw[aA,fM (k:=n)];change dQ x ((if (k==NameKind.free&&a8.scope.kind==.function&&a8.kindOf n==U .cell)=γ then (n,NameKind.cell)else (n,k))::_)=_;cases a:x==n with
  |true=>
   have e:=gO a;subst e;split
   .rename_i b;erw[fM,a,gu,b,if_true]
   .rename_i b;erw[fM,a,gu];rw[ai b]
  |false=>
   rw[<-c];split
   .erw[fM,a]
   .erw[fM,a]
#print f
def MW{scope:dg}(hcell:∀y∈scope.names,y.2≠.cell)(h:(relabel scope a8).names.lookup x=U .cell\/(relabel scope a8).names.lookup x=U .free):(x,NameKind.free)∈scope.names:=by
 have e:=Bu (a8:=a8) x scope.names;have a:(scope.names.lookup x).map (λk=>if (k==NameKind.free&&a8.scope.kind==.function&&a8.kindOf x==U .cell)=γ then NameKind.cell else k)=U .cell\/
   (scope.names.lookup x).map (λk=>if (k==NameKind.free&&a8.scope.kind==.function&&a8.kindOf x==U .cell)=γ then NameKind.cell else k)=U .free:=by
  rw[<-e];show h
 cases q:scope.names.lookup x with
 |none=>rw[q]at a;rcases a with z|z<;>cases z
 |some k=>
  rw[q]at a;have b:=mem_of_lookup q;have c:=hcell _ b;cases k with
  |free=>show b
  |cell=>show au J c
  |_=>rcases a with z|z<;>ext z
def IA{scope:dg}(h:scope.names.lookup x=U .free):(relabel scope a8).names.lookup x=U .cell\/(relabel scope a8).names.lookup x=U .free:=by
 have e:=Bu (a8:=a8) x scope.names;have a:(relabel scope a8).names.lookup x=(scope.names.lookup x).map λk=>if (k==NameKind.free&&a8.scope.kind==.function&&a8.kindOf x==U .cell)=γ then NameKind.cell else k:=e
 rw[a,h,gu];split
 .show .inl J
 .show .inr J
def xh(X:Cx)(a:aD)(scope:dg)(cl:List (Str×Addr))(C:Addr)(fp:List Addr)(s:aq)(H:Hp):Cx:=
 { X with N:=a,s₀:=s,H₀:=H,a8:=compEnvC scope cl C X.a8,b8:=X.stack,ex:=fp,fn:=λz=>δ,pn:=[],xe:=λz z=>False }
def PIf(X:Cx)(ifs:List Expr)(t:TT):Prop:=
 ∀(a:dh) (s:aq) (b:St) (H:Hp) (Q:Bool->Hp->Prop),b9 X a b H s->t b H Q->
  av (model X.prog X.w) X.A (forIn ifs γ λc r=>if r=γ then do let ok<-isTrue c X.a8 (eval c X.a8);pure (ForInStep.yield ok)else pure (ForInStep.yield r)) (TP X a b Q) X.xe s
def tIf0:TT:=λz H Q=>Q γ H
def Vy:PIf X [] tIf0:=λz z z H z I h=>wpAny_tests_nil #v[H,I,h]
def Vz(h:PT X c t):PIf X [c] t:=λa s d H Q I b=>wpAny_tests_one (h a s d H Q I b)
section
def JY(A_:Nat->aq->Prop)
  (turn:∀n s,A_ n s->av (model prog w) A (pyNext B) (λr d=>match r with
   |none=>R (.ok .next) d
   |some v=>av (model prog w) A (jk target B v) (λ_ f=>av (model prog w) A (assign target a8 v) (λ_ o=>
     av (model prog w) A (forIn ifs γ λc r=>if r=γ then do let ok<-isTrue c a8 (eval c a8);pure (ForInStep.yield ok)else pure (ForInStep.yield r)) (λok i=>
      if ok=γ then av (model prog w) A (eval elt a8) (λx p=>
       av (model prog w) A (call (.builtin "list.append") [acc,x]) (λ_ q=>∃m,m<n/\A_ m q) (notedBy (model prog w) A a8 λe b=>R (.error e) b) p) (notedBy (model prog w) A a8 λe b=>R (.error e) b) i
      else ∃m,m<n/\A_ m i) (notedBy (model prog w) A a8 λe b=>R (.error e) b) o) (notedBy (model prog w) A a8 λe b=>R (.error e) b) f)
      (notedBy (model prog w) A a8 λe b=>R (.error e) b) d) (notedBy (model prog w) A a8 λe b=>R (.error e) b) s)
  (n:Nat) (h:A_ n s):
  cK (model prog w) A (.compLoop (.ListComp elt [#v[target,iter,ifs,0]] scope pos) 0 B acc a8) R s:=by
 calc codeAny_loop J A_ (λn s hI=>?_) n h;calc wpAny_noted ?_;rw[compTurn_list];calc ar (rj (ar (cE (turn n s hI) (λr d j=>?_) λ_ _ a=>a)));cases r with
 |none=>show aC j
 |some v=>
  calc ar (cE j (λ_ f t=>?_) λ_ _ a=>a);calc ar (cE t (λ_ o u=>ar (cE u (λok i l=>?_) λ_ _ a=>a)) λ_ _ a=>a);cases ok with
  |false=>show aC #v[J,l]
  |true=>show ar (ar (cE l (λx p y=>ar (cE y (λ_ q z=>aC (aC #v[J,z])) λ_ _ a=>a)) λ_ _ a=>a))
end
def yU(k:Nat)(eh:List Nat)(a:St):St:=fR k Z++eh.map λj=>(a[j]?).join
def IZ(h:(yU k eh b)[i]?=U (U v)):k<=i:=by
 by_cases a:k<=i
 .show a
 .delta yU at h;rw[cU (by rw[cP];omega),hX]at h;split at h<;>ext h
def P5{k:Nat}{eh:List Nat}{b:St}{N a:aD}{i:Nat}{v:V}{x:Str}(hcap:(a.drop k).map U=eh.map λj=>N[j]?)(f:a[i]?=U x)(h:(yU k eh b)[i]?=U (U v)):
  ∃j:Nat,N[j]?=U x/\b[j]?=U (U v)/\x∈a.drop k:=by
 have d:=IZ h;delta yU at h;rw[cR (by rw[cP];show d),cP,br]at h;have hd:(a.drop k)[i - k]?=U x:=by rw[dG,show k+(i - k)=i by omega];show f
 have e:=aW (λl=>l[i - k]?) hcap;erw[br,hd,gu]at e;cases q:eh[i - k]? with
 |none=>rw[q]at h;cases h
 |some j=>
  rw[q]at h e;erw[gu,uZ]at h e;calc#v[j,e.symm,?_,ck hd];cases z:b[j]? with
  |none=>rw[z]at h;cases h
  |some o=>rw[z]at h;have c:o=U v:=h;rw[c]
def G5(t:TI)(g:TG)(r:TT)(q:TE)(k:Nat)(eh:List Nat):TE:=λe H Q=>t e H λA_ f=>∀p,f p=Z->
 ∃W:Nat->Nat->bC->Hp->Prop,(∃m,W 0 m [] (el f p (.ax [])))/\∀i m acc c,W i m acc c->
  (A_.stop i c/\Q (.ref p) c)\/
   (A_.go i c/\∀x h,A_.yld i c x h->g x (yU k eh e) h λa o=>a.drop k=(yU k eh e).drop k/\r a o λb j=>
    if b=γ then q a j λy l=>∃acc',l p=U (.ax acc')/\acc'.length<aS/\∃d,d<m/\W (i+1) d (acc'++[y]) (el l p (.ax (acc'++[y])))
    else ∃d,d<m/\W (i+1) d acc j)
def I0{X:Cx}{eh:List Nat}
  (hc:X.k3=γ) (hi:PI X tg iter wi)
  (body:∀(cl:List (Str×Addr)) (C:Addr) (fp:List Addr) (s:aq) (H:Hp),PG (xh X E scope cl C fp s H) tg g/\PIf (xh X E scope cl C fp s H) ifs tt/\PE (xh X E scope cl C fp s H) elt te)
  (hkind:scope.kind=.function) (hcell:(scope.names.all λy=>y.2 != .cell)=γ)
  (hloc:(scope.names.all λy=>y.2 != .local||scope.names.lookup y.1==U .local)=γ)
  (hfree:(scope.names.all λy=>y.2 != .free||(X.a8.kindOf y.1==U .cell||X.a8.kindOf y.1==U .free))=γ)
  (hlen:E.length=k+eh.length) (hcap:(E.drop k).map U=eh.map λj=>X.N[j]?)
  (hcf:((E.drop k).all λx=>scope.names.lookup x==U .free)=γ)
  (hs:∀x,jd iter X.a8 x=pure x)
  (I:b9 X pins σ H s) (h:G5 wi g tt te k eh σ H Q)
  (fin:∀a C m u s4 H3,s4.heap.Ns C m->b9 X pins σ H3 s4->Iq X pins H3 C->Q (.ref a) H3->compPost (model X.prog X.w) X.A X.xe use P (.ref a) C (.ok u) s4):
  av (model X.prog X.w) X.A (comprehension (.ListComp elt [#v[tg,iter,ifs,0]] scope pos) scope X.a8 (firstIterPos [#v[tg,iter,ifs,0]] pos) (newList []) δ (eval iter X.a8) use) P X.xe s:=by
 have hcell':∀y∈scope.names,y.2≠.cell:=λy O e=>by have z:=bH.1 hcell y O;rw[e]at z;show au z #[]
 have hloc':∀y∈scope.names,y.2=.local->scope.names.lookup y.1=U .local:=λy O e=>by have z:=bH.1 hloc y O;rw[e]at z;exists z
 have hfree':∀y∈scope.names,y.2=.free->X.a8.kindOf y.1=U .cell\/X.a8.kindOf y.1=U .free:=λy O e=>by have z:=bH.1 hfree y O;rw[e]at z;exists z
 have hcl:=λy O e=>I.ok.has y.1 (hfree' y O e);calc wpAny_comprehension_free J hs (Iy hcl) hkind hloc' (fb (hi pins s σ H _ I h) λxv s₁ F=>fb F λit l h₂=>?_);let#v[ita,fp,tn,A_,H2,e,I2,T,st2,M,R2]:=h₂;subst e;let#v[W,#v[m0,w0],turn]:=R2 (~~~l) (I2.e8.fresh (aG _));calc gn (wpAny_newFunctionEnv hcell' (by intro y O;simp at O) (λF hns₁ hsb₁=>?_) hkind);dsimp only at hns₁ hsb₁ ⊢;generalize hp:l.heap.push { cls:=.type "list", dict:=Z,data:=.seq ([]:List aa).toArray }=hpL at hns₁ hsb₁ ⊢;have hsz:hpL.objs.size= ~~~l+1:=by rw[<-hp,c5]
 have B:b9 X pins σ (el H2 (~~~l) (.ax [])) { l with heap:=hpL }:=by rw[<-hp];show I2.laid (λb u e=>aK _ e) (aG _) #v[bP _,[],0,.nil,bz _ J]
 have old:=λb o e=>hsb₁.extBut b o (bf (aQ e)) (aK _ e);have older:∀b o,l.heap.get? b=U o->hpL.get? b=U o:=λb o e=>by rw[<-hp];show aK _ e
 have hfpS:=λb t=>let #v[o,e,_]:=T.obj _ _ st2 b t;aQ e;have sub:=Lf scope.names [] hcl (λx c e=>by ext e);have R:(xh X E scope (Ad X.a8.cells scope.names) hpL.objs.size fp { l with heap:=hpL } (el H2 (~~~l) (.ax []))).Ok:={
  Dv:=B.ok.Dv
  kind:=hkind
  Ai:=B.ok.Ai
  blt:=B.ok.blt
  above:=aG _
  inj:=λx y c h1 h2=>B.ok.inj x y c (sub x c h1) (sub y c h2)
  has:=λx G=>G4 scope.names [] x (MW hcell' G)
  cab:=λx c hf _=>au (show δ=γ from hf) bB
  hd:=B.ok.hd
  frames:=B.ok.frames
  stk:=.inl J
  exf:=λb t=>#v[(by
   rw[hsz];show bf (dJ (hfpS b t))),λx c e=>(M b t).2.2.2.2.1 x c (sub x c e)]
  bs:=B.bs
  bsz:=bW B.ok.bsz B.sz
  Xi:=λb o e t=>by
   rcases(M b t).2.2.2.1 with z|z
   .show B.ok.Xi b o e z
   .show au (cF (aQ e) (bW B.ok.bsz z)) (eE _)
  XC:=λb t z=>(aJ.1 (B.R0 b z)).elim (M b t).2.1 (M b t).2.2.1
  ts:=B.stack
  frf:=B.U' }
 have IX:b9 (xh X E scope (Ad X.a8.cells scope.names) hpL.objs.size fp { l with heap:=hpL } (el H2 (~~~l) (.ax []))) [] (yU k eh σ) (el H2 (~~~l) (.ax []))
   { l with heap:=F,toks:=l.toks+([]:List (Str×aa)).length }:={
  ok:=R
  os:=rfl
  jl:=B.jl
  a7:=Un.gp old
  B':=#v[_,hns₁,λi x v e1 e2 _=>by
   let#v[j,hj,hσ,hm]:=P5 hcap e1 e2;have G:=by exists bH.1 hcf x hm
   have hk:=hfree' (x,.free) (mem_of_lookup G) J;let#v[m,hn,hl]:=B.B';let#v[u,r,lk]:=hl j x v hj hσ (hk.elim (λz=>.inr (.inl z)) λz=>.inr (.inr z));calc#v[u,r,.inr #v[IA G,?_]];rcases lk with ⟨z,_⟩|⟨_,c,e,o,ho,hd⟩
   .rcases hk with y|y
    .rw[y]at z;ext z
    .rw[y]at z;ext z
   .let#v[c',e']:=G4 scope.names [] x (mem_of_lookup G);have ec:=sub x c' e';rw[e]at ec;have ec':=cZ ec;subst ec';show#v[c,e',o,old _ _ ho,hd]]
  cell:=λx c e=>by let#v[v,o,ho,hd]:=B.cell x c (sub x c e);show#v[v,o,old _ _ ho,hd]
  free:=B.e8.fresh (aG _)
  j?:=λx c e=>B.j? x c (sub x c e)
  x4:=λp hp=>au (show p∈([]:dh) from hp) (by simp)
  e8:=B.e8.gp old
  len:=by
   change (yU k eh σ).length=E.length;rw[hlen];delta yU;rw[aH,cP,ah] }
 have stat:∀{H':Hp},(∀b∈fp,H' b=Z)->∀b∈fp,Iq (xh X E scope (Ad X.a8.cells scope.names) hpL.objs.size fp { l with heap:=hpL } (el H2 (~~~l) (.ax []))) [] H' b:=λhn b t=>#v[hn b t,(R.exf b t).1,R.XC b t,.inl t,(R.exf b t).2,λp hp=>au (show p∈([]:dh) from hp) (by simp)]
 have st4:=T.keep _ _ _ st2 λb _ o e=>old b o (older b o e);have loop:cK (model X.prog X.w) X.A (.compLoop (.ListComp elt [#v[tg,iter,ifs,0]] scope pos) 0 (.ref ita) (.ref (~~~l)) (compEnvC scope (Ad X.a8.cells scope.names) hpL.objs.size X.a8))
   (compPost (model X.prog X.w) X.A X.xe use P (.ref (~~~l)) hpL.objs.size) { l with heap:=F,toks:=l.toks+([]:List (Str×aa)).length }:=by
  refine JY (λn s'=>∃i acc H',b9 (xh X E scope (Ad X.a8.cells scope.names) hpL.objs.size fp { l with heap:=hpL } (el H2 (~~~l) (.ax []))) [] (yU k eh σ) H' s'/\tn i s'.heap/\(∀b∈fp,H' b=Z)/\W i n acc H')
   ?_ m0 #v[0,[],_,IX,st4,λb t=>?_,w0]
  .rintro n s3 ⟨i,acc,H3,I4,st3,fr3,w3⟩;rcases turn i n acc H3 w3 with ⟨stop,qn⟩|⟨go,step⟩
   .calc fb (T.done (xh X E scope (Ad X.a8.cells scope.names) hpL.objs.size fp { l with heap:=hpL } (el H2 (~~~l) (.ax []))) J J J hc i [] s3 _ H3 _ I4 (stat fr3) st3 stop) λr s4 zz=>?_;let#v[hr,Y]:=zz;subst hr;let#v[m,hn,_]:=id Y.B';have AT:=Y.a7;refine fin _ _ m _ _ _ hn (B.call' Y.os #v[λb o e n t G=>AT.keep b o e n t G,λb o e n t G=>AT.slot b o e n t G,AT.free,λb o e G=>AT.there b o e G,AT.n5,AT.tj,AT.u?] Y.e8 Y.jl
     λb t=>#v[(M b t).2.2.2.1,(M b t).2.1,(M b t).2.2.2.2.1,(M b t).2.2.2.2.2]) (B.I' (aG _) Y.free) qn
   .calc fb (T.item (xh X E scope (Ad X.a8.cells scope.names) hpL.objs.size fp { l with heap:=hpL } (el H2 (~~~l) (.ax []))) J J J hc i [] s3 _ H3 _ I4 (stat fr3) st3 go) λr s4 zz=>?_;let#v[u,hr,h4]:=zz;subst hr;calc fb h4 λ_ s5 zz=>?_;let#v[x,H5,Y,r5,y5,st5,fr5]:=zz;have I5':=Y.Rn (stat fr5) (T.obj _ _ st5);have again:∀{H8:Hp} {s8:aq} {S:St} {acc8:bC} {m':Nat},b9 (xh X E scope (Ad X.a8.cells scope.names) hpL.objs.size fp { l with heap:=hpL } (el H2 (~~~l) (.ax []))) ([]++GU fp s5.heap) S H8 s8->S.drop k=(yU k eh σ).drop k->m'<n->W (i+1) m' acc8 H8->
      ∃m,m<n/\∃i acc H',b9 (xh X E scope (Ad X.a8.cells scope.names) hpL.objs.size fp { l with heap:=hpL } (el H2 (~~~l) (.ax []))) [] (yU k eh σ) H' s8/\tn i s8.heap/\(∀b∈fp,H' b=Z)/\W i m acc H':=λ{H8 s8 S acc8 m'} I8 hd8 hm8 w8=>by
     refine#v[m',hm8,i+1,acc8,H8,I8.nr.cx (IX.len.t I8.len.symm) (λj v e=>?_),T.keep _ _ _ st5 λb t o e=>(I8.x4 (b,o) (bG _ (bG _ (Ac t e)))).1,λb t=>?_,w8]
     .have hj:=IZ e;have q:(S.drop k)[j - k]?=((yU k eh σ).drop k)[j - k]?:=by rw[hd8]
      rw[dG,dG,show k+(j - k)=j by omega]at q;rw[q];show e
     .let#v[o,e,d]:=T.obj _ _ st5 b t;show(I8.x4 (b,o) (bG _ (bG _ (Ac t e)))).2.1
    calc cE ((body _ _ _ _ _).1 _ s5 _ H5 x u _ I5' r5 (step x H5 y5)) (λ_ s6 h6=>?_) λ_ _ f=>f.elim;let#v[σ6,H6,I6,hd6,q6]:=h6;calc cE ((body _ _ _ _ _).2.1 _ s6 σ6 H6 _ I6 q6) (λb s7 h7=>?_) λ_ _ f=>f.elim;let#v[H7,I7,q7]:=h7;cases b with
    |false=>rw[ai bB]at q7;rw[ai bB];let#v[m',hm',w7]:=q7;show again I7 hd6 hm' w7
    |true=>rw[af J]at q7;rw[af J];calc cE ((body _ _ _ _ _).2.2 _ s7 σ6 H7 _ I7 q7) (λyv s8 h8=>?_) λ_ _ f=>f.elim;let#v[y,H8,I8,r8,acc',hp8,hl8,m',hm',w8]:=h8;calc cE (E8 (X:=xh X E scope (Ad X.a8.cells scope.names) hpL.objs.size fp { l with heap:=hpL } (el H2 (~~~l) (.ax []))) _ s8 σ6 H8 (.ref (~~~l)) [y] (.ref (~~~l)) [yv] (λ_ Hx=>Hx=el H8 (~~~l) (.ax (acc'++[y]))) I8 J (.cons r8 .nil) #v[_,acc',y,J,J,hp8,hl8,J]) (λ_ s9 h9=>?_) λ_ _ f=>f.elim;let#v[_,H9,I9,_,e9]:=h9;subst e9;show again I9 hd6 hm' w8
  .have z:=bf (hfpS b t);rw[vt z];show(M b t).1
 show codeAny_compStart_list loop (T.self _ 0 _ _ _ st4 loop)
def VA{X:Cx}{eh:List Nat}
  (w:X.k3=γ) (z:PI X q iter M)
  (body:∀(f:List (Str×Addr)) (C:Addr) (i:List Addr) (s:aq) (H:Hp),PG (xh X c scope f C i s H) q g/\PIf (xh X c scope f C i s H) ifs G/\PE (xh X c scope f C i s H) elt F)
  (hkind:scope.kind=.function:=by rfl) (hcell:(scope.names.all λy=>y.2 != .cell)=γ:=by rfl)
  (hloc:(scope.names.all λy=>y.2 != .local||scope.names.lookup y.1==U .local)=γ:=by rfl)
  (hfree:(scope.names.all λy=>y.2 != .free||(X.a8.kindOf y.1==U .cell||X.a8.kindOf y.1==U .free))=γ:=by rfl)
  (d:c.length=k+eh.length:=by rfl) (hcap:(c.drop k).map U=eh.map λj=>X.N[j]?:=by rfl)
  (hcf:((c.drop k).all λx=>scope.names.lookup x==U .free)=γ:=by rfl)
  (B:∀x,jd iter X.a8 x=pure x:=by intro _;rfl):
  PE X (.ListComp elt [#v[q,iter,ifs,0]] scope pos) (G5 M g G F k eh):=by
 intro p s R H Q I h;show I0 w z body hkind hcell hloc hfree d hcap hcf B I h λa C m u P r A mu fpC E=>#v[m,A,λO l=>#v[.ref a,r,mu.ia (λb o t e=>(l.2 b t).t e) fpC.1 fpC.2.1 fpC.2.2.2.1 fpC.2.2.2.2.1 fpC.2.2.2.2.2,J,E]]
def Its(x:Str):It:=#v[λi z=>i<x.cps.size,λi H v a=>a=H/\∃c,x.cps[i]?=U c/\v=.str #v[#[c]],λi z=>i=x.cps.size]
def Zv(hQ:Q Unit.unit s):av M A (jk a (.ref b) (.str c t)) Q E s:=by ext a<;>show aC hQ
def Lg{K:ay}(it:Addr)(ty:String)(x:Str)(t:Tok)
  (hW:∀A:bp,A.handled=Z->Walks P w A it [it] [it] x.cps.size (SignAt x) (λi h=>h.IsStrIter it ty x t i))
  (hS:∀(A:bp) (i:Nat) (s:aq) (Q:aa->aq->Prop) (E:aa->aq->Prop),s.heap.IsStrIter it ty x t i->Q (.ref it) s->av (model P w) A (pyIter (.ref it)) Q E s):
  J' P w K tg (Its x) [it] it (λi h=>h.IsStrIter it ty x t i) where
 mem:=by simp
 obj:=λi h st b a=>by
  have e:=by exists a
  subst e;let#v[o,e,c,d]:=st;show#v[o,e,λv z=>by rw[d]at z;ext z]
 keep:=λi h h' st k=>by let#v[o,e,r]:=st;show#v[o,k it (by simp) o e,r]
 item:=by intro X hP F hK u i pins s σ H E I f st B;subst hP F hK;let#v[j,l,O,m,p,q]:=f it (by simp);calc(hW _ (I.ok.hd u)).item i s _ _ B st λv h' tk hv M G=>?_;let#v[c,R,y,rfl]:=hv;have N:b9 X pins σ H { s with heap:=h',toks:=tk }:=I.ia (λb o a e=>G b o (by exists a) e) j l m p q;show#v[_,J,Zv #v[.str #v[#[c]],H,N,#v[R,J],#v[J,c,y,J],M,λb a=>(f b a).1]]
 done:=by intro X hP F hK u i pins s σ H E I f st B;subst hP F hK;let#v[j,l,O,m,p,q]:=f it (by simp);have C:=B;subst C;show(hW _ (I.ok.hd u)).done s _ _ st λh' tk G=>#v[J,I.ia (λb o a e=>G b o (by exists a) e) j l m p q]
 self:=hS
section
def iStr(b:TE):TI:=λc H R=>b c H λv a=>∃x,v=.str x/\R (Its x) a
def Zw(r:PE X l y):PI X C l (iStr y):=by
 intro a s B H R I h;calc fb (r a s B H _ I h) λv c zz=>?_;let#v[x,f,d,w,u]:=zz;let#v[z,e,q]:=u;subst e;let#v[t,rfl]:=w;have j:∀b∈[~~~c],Iq X a f b:=λb p=>by
  have e:=by exists p
  subst e;show d.I' (aG _) (d.e8.fresh (aG _))
 cases m:z.cps.all (· < 128)
 .refine wpAny_pyIter_wide m #v[~~~c,[~~~c],_,_,f,J,d.gp λb o e=>aK _ e,Lg _ "str_iterator" z t (λA hA=>Walks.strWide hA _ z t) (λA i s Q E st hQ=>wpAny_pyIter_striter_wide st hQ),#v[_,bz _ J,J,J],j,q]
 .calc wpAny_pyIter_ascii m #v[~~~c,[~~~c],_,_,f,J,d.gp λb o e=>aK _ e,Lg _ "str_ascii_iterator" z t (λA hA=>Walks.strAscii hA _ z t) (λA i s Q E st hQ=>wpAny_pyIter_striter_ascii st hQ),#v[_,bz _ J,J,J],j,q]
end
section
def P6:iE X (bD .LtE) (λx y H Q=>∃i j,x=.str i/\y=.str j/\Q (.bl (!decide (j.cps.toList<i.cps.toList))) H):=by intro a s e H x y v u Q I b c h;let#v[i,j,rfl,rfl,q]:=h;let#v[t,rfl]:=b;let#v[d,rfl]:=c;show PySem.P.le_str (wc I q J)
def RA(y:X.k3=γ):xA X (.builtin "all") (λx H Q=>∃(p:Addr) (bs:List Bool),x=[.ref p]/\f? X.K H p (bs.map V.bl)/\Q (.bl (bs.all id)) H):=by
 intro t s S H x R Q I r h;let#v[p,bs,rfl,E,q]:=h;let#v[u,rfl,l]:=lq r;ext l;let#v[j,w,pl,O]:=I.list E;have hlt:p< ~~~s:=by let#v[o,C,_]:=pl.isList;show aQ C
 have B:=by have:=w.length;rw[ah]at this;show this
 refine call_all_walk (jc pl.isList #v[~~~s,_,_,_,_,_,λi=>(bs[i]?).getD γ,J,kU (show X.A.in1.handled=Z from I.ok.hd y) _ p (bf hlt) j.toArray,#v[#v[_,bz _ J,J,J],?_],?_,λN tk z=>?_])
 .show pl.isList.at λo e=>aK _ e
 .intro i v P M G F hQ';have c:=by exists F
  have a:=(bZ.1 c).1;have d:(bs.map V.bl)[i]?=U (.bl (bs[i]'())):=by simp[show i<bs.length by omega]
  let#v[u,m,l]:=w.get d;rw[c]at m;ext m;ext l;calc dH ?_;have e:(bs[i]?).getD γ=bs[i]'():=by simp[show i<bs.length by omega]
  rw[<-e];show hQ'
 .refine#v[.bl (bs.all id),H,?_,?_,q]
  .show I.gp λb o e=>z b o (by simp;show bf (aQ e)) (aK _ e)
  .change Value.bool _=Value.bool _;congr 1;rw[bI,<- B];rw[dj];erw[bH,bY,id];constructor
   .intro f b d;let#v[i,a,rfl]:=dY.1 d;have:=f i a;simpa [a]using this
   .intro f i a;erw[aI a,my];show f _ (cG a)
end
inductive Dq where
 |I|bl (b:Bool)|int (i:Int)|str (x:Str)|bx (ds:List Dq)|ax (ds:List Dq)
mutual
def c3(K:ay)(H:Hp):Dq->V->Prop
 |.I,v=>v=.I
 |.bl b,v=>v=.bl b
 |.int i,v=>v=.int i
 |.str x,v=>v=.str x
 |.bx d,v=>∃a c,v=.ref a/\fh K H a c/\a9 K H d c
 |.ax d,v=>∃a c,v=.ref a/\f? K H a c/\a9 K H d c
def a9(K:ay)(H:Hp):List Dq->bC->Prop
 |[],a=>a=[]
 |d::b,a=>∃v r,a=v::r/\c3 K H d v/\a9 K H b r
end
mutual
def n3:Dq->Dq->Bool
 |.I,.I=>γ
 |.bl a,.bl b=>a==b
 |.bl a,.int b=>(if a then 1 else 0)==b
 |.int a,.bl b=>a==(if b then 1 else 0)
 |.int a,.int b=>a==b
 |.str a,.str b=>a==b
 |.bx a,.bx b=>AS a b
 |.ax a,.ax b=>AS a b
 |_,_=>δ
def AS:List Dq->List Dq->Bool
 |[],[]=>γ
 |a::r,b::q=>n3 a b&&AS r q
 |_,_=>δ
end
mutual
def ij:Dq->Nat
 |.bx a=>xJ a+1
 |.ax a=>xJ a+1
 |_=>0
def xJ:List Dq->Nat
 |[]=>0
 |d::r=>max (ij d) (xJ r)
end
mutual
theorem Em:∀d:Dq,n3 d d=γ
 |.I=>rfl
 |.bl b=>beq_self_eq_true b
 |.int i=>beq_self_eq_true i
 |.str x=>beq_self_eq_true x
 |.bx a=>E9 a
 |.ax a=>E9 a
theorem E9:∀a:List Dq,AS a a=γ
 |[]=>rfl
 |d::r=>by change (n3 d d&&AS r r)=γ;rw[Em d,E9 r];rfl
end
theorem vv{K:ay}:∀{b:List Dq} {a:bC},a9 K H b a->b.length=a.length
 |[],a,h=>by subst h;rfl
 |d::b,a,h=>by let#v[v,r,rfl,_,c]:=h;rw[aL,aL,vv c]
def eAt(d c:List Dq)(j:Nat):Bool:=match d[j]?,c[j]? with
 |some a,U b=>n3 a b
 |_,_=>γ
theorem G6:∀(d c:List Dq),AS d c=γ ↔ d.length=c.length/\∀j,j<d.length->eAt d c j=γ
 |[],[]=>by change γ=γ ↔ _;simp
 |[],b::q=>by change δ=γ ↔ _;simp
 |a::r,[]=>by change δ=γ ↔ _;simp
 |a::r,b::q=>by
  have l:=G6 r q;change (n3 a b&&AS r q)=γ ↔ _;rw[bA,l,aL,aL];constructor
  .rintro⟨f,e,h⟩;calc#v[by omega,λj i=>?_];cases j with
   |zero=>show f
   |succ j=>show h j ()
  .rintro⟨f,e⟩;show#v[e 0 (),by omega,λj i=>e (j+1) ()]
def Bv{b a:List Dq}(l:b.length=n)(i:a.length=m):((bh (min n m)).all (eAt b a)&&n==m)=AS b a:=by
 rw[dj,G6,bA,bH];subst l i;constructor
 .rintro⟨d,f⟩;have e:=by exists f
  show#v[e,λj c=>d j (bY.2 ())]
 .rintro⟨e,h⟩;show#v[λj c=>h j (by have:=bY.1 c;omega),by exists e]
def Cu{b a:List Dq}(d:b.length=n)(c:a.length=n):(bh n).all (eAt b a)=AS b a:=by rw[<-Bv d c];simp
def G7{b a:List Dq}(h:b.length≠a.length):AS b a=δ:=by
 cases e:AS b a with
 |false=>rfl
 |true=>show au ((G6 b a).1 e).1 h
section
def Yh(I:b9 X c l H s)(h:f? X.K H a i)(d:fh X.K H a j):False:=by let#v[e,_,p,_]:=I.list h;let#v[b,_,f,_]:=I.tuple d;show SeqAt.ne_of_list_tuple p.isList (show s.heap.IsTuple a b.toArray from f) J
mutual
theorem G8(I:b9 X w x H s):∀(d i:Dq) (v:V),c3 X.K H d v->c3 X.K H i v->n3 d i=γ
 |.I,i,v,h,c=>by subst h;ext i<;>first|rfl|(show nomatch c)|(let#v[_,_,e,_]:=c;show nomatch e)
 |.bl b,i,v,h,c=>by subst h;ext i<;>first|(let#v[_,_,e,_]:=c;ext e)|(ext c<;>show Em _)
 |.int b,i,v,h,c=>by subst h;ext i<;>first|(let#v[_,_,e,_]:=c;ext e)|(ext c<;>show Em _)
 |.str b,i,v,h,c=>by subst h;ext i<;>first|(let#v[_,_,e,_]:=c;ext e)|(ext c<;>show Em _)
 |.bx q,i,v,h,c=>by
  let#v[a,u,rfl,o,t]:=h;cases i with
  |bx j=>let#v[p,m,e,f,l]:=c;ext e;have r:=I.C? o f;subst r;show Fb I q j u t l
  |ax j=>let#v[p,m,e,f,l]:=c;ext e;show(Yh I f o).elim
  |_=>show nomatch (show _=_ from c)
 |.ax q,i,v,h,c=>by
  let#v[a,u,rfl,o,t]:=h;cases i with
  |ax j=>let#v[p,m,e,f,l]:=c;ext e;have r:=I.K? o f;subst r;show Fb I q j u t l
  |bx j=>let#v[p,m,e,f,l]:=c;ext e;show(Yh I o f).elim
  |_=>show nomatch (show _=_ from c)
theorem Fb(I:b9 X m w H s):∀(b a:List Dq) (f:bC),a9 X.K H b f->a9 X.K H a f->AS b a=γ
 |[],a,f,h,c=>by
  subst h;cases a with
  |nil=>rfl
  |cons d r=>let#v[_,_,e,_]:=c;show nomatch e
 |d::b,a,f,h,c=>by
  let#v[v,r,rfl,p,t]:=h;cases a with
  |nil=>show nomatch (show _=_ from c)
  |cons l o=>let#v[u,q,e,i,j]:=c;ext e;change (n3 d l&&AS b o)=γ;rw[G8 I d l v p i,Fb I b o r t j];rfl
end
mutual
theorem MX(I:b9 X pins σ H s):∀(d C:Dq) (x y:V) (u v:aa) (A:bp),c3 X.K H d x->c3 X.K H C y->d? x u->d? y v->A.units+ij d+ij C<cLine->jz A s u v (n3 d C)
 |.bx F,C,x,y,u,v,A,G,l,w,o,R=>by
  let#v[a,S,rfl,Q,N]:=G;ext w;let#v[M,P,p,_]:=I.tuple Q;cases C with
  |I=>delta c3 at l;subst l;ext o;show uq p ()
  |bl b=>delta c3 at l;subst l;ext o;show ur b p ()
  |int b=>delta c3 at l;subst l;let#v[t,rfl]:=o;show uC b t p ()
  |str b=>delta c3 at l;subst l;let#v[t,rfl]:=o;show uD b t p ()
  |ax i=>let#v[b,E,rfl,h,m]:=l;ext o;let#v[f,B,r,_]:=I.list h;show uu p r.isList ()
  |bx i=>
   have O:=l;let#v[b,E,rfl,h,m]:=l;ext o;let#v[f,B,r,_]:=I.tuple h;by_cases hab:a=b
   .subst hab;have e:n3 (.bx F) (.bx i)=γ:=G8 I _ _ (.ref a) (by delta c3;show#v[a,S,J,Q,N]) O;rw[e];show jm _
   .have hd:ij (.bx F)=xJ F+1:=by rw[ij]
    have hd':ij (.bx i)=xJ i+1:=by rw[ij]
    have q:=u0 (A:=A) p r () λj W Y=>by have z:=Bw I F i S E M f A.in1 N m P B (by change A.units+1+xJ F+xJ i<cLine;omega) j (by exists W) (by exists Y);exists z
    rw[Bv (by rw[vv N,P.length];simp) (by rw[vv m,B.length];simp)]at q;show l3 hab q
 |.ax F,C,x,y,u,v,A,G,l,w,o,R=>by
  let#v[a,S,rfl,Q,N]:=G;ext w;let#v[M,P,p,_]:=I.list Q;have p:=p.isList;cases C with
  |I=>delta c3 at l;subst l;ext o;show uE p ()
  |bl b=>delta c3 at l;subst l;ext o;show uF b p ()
  |int b=>delta c3 at l;subst l;let#v[t,rfl]:=o;show uO b t p ()
  |str b=>delta c3 at l;subst l;let#v[t,rfl]:=o;show uP b t p ()
  |bx i=>let#v[b,E,rfl,h,m]:=l;ext o;let#v[f,B,r,_]:=I.tuple h;show uv p (show s.heap.IsTuple b f.toArray from r) ()
  |ax i=>
   have O:=l;let#v[b,E,rfl,h,m]:=l;ext o;let#v[f,B,r,_]:=I.list h;have r:=r.isList;by_cases hab:a=b
   .subst hab;have e:n3 (.ax F) (.ax i)=γ:=G8 I _ _ (.ref a) (by delta c3;show#v[a,S,J,Q,N]) O;rw[e];show jm _
   .have hd:ij (.ax F)=xJ F+1:=by rw[ij]
    have hd':ij (.ax i)=xJ i+1:=by rw[ij]
    by_cases T:M.length=f.length
    .have q:=u5 (A:=A) p r (by exists T) () λj W Y=>by have z:=Bw I F i S E M f A.in1 N m P B (by change A.units+1+xJ F+xJ i<cLine;omega) j (by exists W) (by exists Y);exists z
     rw[Cu (by rw[vv N,P.length];simp) (by rw[vv m,B.length,<- T];simp)]at q;show l3 hab q
    .have e:n3 (.ax F) (.ax i)=δ:=by show G7 (by rw[vv N,vv m,P.length,B.length];show T)
     rw[e];show l3 hab (uj p r (by exists T) ())
 |.I,C,x,y,u,v,A,G,l,w,o,R=>by
  subst G;cases C with
  |bx i=>let#v[b,E,rfl,h,m]:=l;ext o;ext w;let#v[f,B,r,_]:=I.tuple h;show uw (show s.heap.IsTuple b f.toArray from r) ()
  |ax i=>let#v[b,E,rfl,h,m]:=l;ext o;ext w;let#v[f,B,r,_]:=I.list h;show uG r.isList ()
  |_=>delta c3 at l;subst l;show GZ w o J J
 |.bl c,C,x,y,u,v,A,G,l,w,o,R=>by
  subst G;cases C with
  |bx i=>let#v[b,E,rfl,h,m]:=l;ext o;ext w;let#v[f,B,r,_]:=I.tuple h;show ux c (show s.heap.IsTuple b f.toArray from r) ()
  |ax i=>let#v[b,E,rfl,h,m]:=l;ext o;ext w;let#v[f,B,r,_]:=I.list h;show uH c r.isList ()
  |_=>delta c3 at l;subst l;show GZ w o J J
 |.int c,C,x,y,u,v,A,G,l,w,o,R=>by
  subst G;cases C with
  |bx i=>let#v[b,E,rfl,h,m]:=l;ext o;let#v[t,rfl]:=w;let#v[f,B,r,_]:=I.tuple h;show uI c t (show s.heap.IsTuple b f.toArray from r) ()
  |ax i=>let#v[b,E,rfl,h,m]:=l;ext o;let#v[t,rfl]:=w;let#v[f,B,r,_]:=I.list h;show uQ c t r.isList ()
  |_=>delta c3 at l;subst l;show GZ w o J J
 |.str c,C,x,y,u,v,A,G,l,w,o,R=>by
  subst G;cases C with
  |bx i=>let#v[b,E,rfl,h,m]:=l;ext o;let#v[t,rfl]:=w;let#v[f,B,r,_]:=I.tuple h;show uJ c t (show s.heap.IsTuple b f.toArray from r) ()
  |ax i=>let#v[b,E,rfl,h,m]:=l;ext o;let#v[t,rfl]:=w;let#v[f,B,r,_]:=I.list h;show uR c t r.isList ()
  |_=>delta c3 at l;subst l;show GZ w o J J
theorem Bw(I:b9 X C R H s):∀(b a:List Dq) (f h:bC) (c e:List aa) (A:bp),a9 X.K H b f->a9 X.K H a h->df f c->df h e->A.units+xJ b+xJ a<cLine->
  ∀(j:Nat) (i:j<c.length) (l:j<e.length),jz A s c[j] e[j] (eAt b a j)
 |[],a,f,h,c,e,A,m,o,p,q,B,j,i,l=>by
  have:=vv m;have:=p.length;erw[dr]at *
  omega
 |d::b,[],f,h,c,e,A,m,o,p,q,B,j,i,l=>by
  have:=vv o;have:=q.length;erw[dr]at *
  omega
 |d::b,r::a,f,h,c,e,A,m,o,p,q,B,j,i,l=>by
  let#v[x,N,rfl,t,u]:=m;let#v[y,O,rfl,w,z]:=o;have P:xJ (d::b)=max (ij d) (xJ b):=by rw[xJ]
  have Q:xJ (r::a)=max (ij r) (xJ a):=by rw[xJ]
  cases p with
  |cons G M=>
   cases q with
   |cons E F=>
    cases j with
    |zero=>show MX I d r x y _ _ A t w G E ()
    |succ j=>show Bw I b a N O _ _ A u z M F () j (by exists i) (by exists l)
end
def Lh:Dq->Dq->Bool
 |.bx _,.bx _=>γ
 |.ax _,.ax _=>γ
 |_,_=>δ
def MY(K:ay)(neg:Bool):R2:=λx y H Q=>∃d a,c3 K H d x/\c3 K H a y/\Lh d a=γ/\ij d<=20/\ij a<=20/\Q (.bl (if neg then !n3 d a else n3 d a)) H
def Zx(hu:X.A.units+64<cLine):iE X (bD .Eq) (MY X.K δ):=by
 intro W s σ H x y u v Q I Y rv h;let#v[d,R,S,T,hd,B,C,q]:=h;cases d with
 |bx i=>
  cases R with
  |bx c=>
   have G:ij (.bx i)=xJ i+1:=by rw[ij]
   have M:ij (.bx c)=xJ c+1:=by rw[ij]
   let#v[a,O,rfl,N,r]:=S;let#v[b,P,rfl,o,l]:=T;ext Y;ext rv;let#v[m,t,p,_]:=I.tuple N;let#v[f,w,F,_]:=I.tuple o;refine SeqAt.eq_tupleAt (e:=eAt i c) (show s.heap.IsTuple a m.toArray from p) (show s.heap.IsTuple b f.toArray from F) () (λj B C=>?_) ?_
   .have z:=Bw I i c O P m f X.A.in1 r l t w (by change X.A.units+1+xJ i+xJ c<cLine;omega) j (by exists B) (by exists C);exists z
   .rw[Bv (by rw[vv r,t.length];simp) (by rw[vv l,w.length];simp)];show wc I q J
  |_=>show nomatch hd
 |ax i=>
  cases R with
  |ax c=>
   have G:ij (.ax i)=xJ i+1:=by rw[ij]
   have M:ij (.ax c)=xJ c+1:=by rw[ij]
   let#v[a,O,rfl,N,r]:=S;let#v[b,P,rfl,o,l]:=T;ext Y;ext rv;let#v[m,t,p,_]:=I.list N;let#v[f,w,F,_]:=I.list o;by_cases E:m.length=f.length
   .refine SeqAt.eq_listAt (e:=eAt i c) p.isList F.isList (by exists E) () (λj B C=>?_) ?_
    .have z:=Bw I i c O P m f X.A.in1 r l t w (by change X.A.units+1+xJ i+xJ c<cLine;omega) j (by exists B) (by exists C);exists z
    .rw[Cu (by rw[vv r,t.length];simp) (by rw[vv l,w.length,<- E];simp)];show wc I q J
   .calc SeqAt.eq_list_lengthsAt p.isList F.isList (by exists E) () ?_;have e:AS i c=δ:=G7 (by rw[vv r,vv l,t.length,w.length];show E);rw[show n3 (.ax i) (.ax c)=δ from e]at q;show wc I q J
  |_=>show nomatch hd
 |_=>show nomatch hd
def Zy(hu:X.A.units+64<cLine):iE X (bD .NotEq) (MY X.K γ):=by
 intro Y s σ H x y u v Q I ru rv h;let#v[d,S,T,W,hd,C,E,q]:=h;cases d with
 |bx l=>
  cases S with
  |bx c=>
   have M:ij (.bx l)=xJ l+1:=by rw[ij]
   have N:ij (.bx c)=xJ c+1:=by rw[ij]
   let#v[a,P,rfl,O,r]:=T;let#v[b,R,rfl,o,i]:=W;ext ru;ext rv;let#v[m,t,p,_]:=I.tuple O;let#v[f,B,G,_]:=I.tuple o;have w:=uS (A:=X.A) (show s.heap.IsTuple a m.toArray from p) (show s.heap.IsTuple b f.toArray from G) () (λj C E=>by
    have z:=Bw I l c P R m f X.A.in1 r i t B (by change X.A.units+1+xJ l+xJ c<cLine;omega) j (by exists C) (by exists E);exists z)
   rw[Bv (by rw[vv r,t.length];simp) (by rw[vv i,B.length];simp)]at w;show w X.prog X.w X.xe _ (wc I q J)
  |_=>show nomatch hd
 |ax l=>
  cases S with
  |ax c=>
   have M:ij (.ax l)=xJ l+1:=by rw[ij]
   have N:ij (.ax c)=xJ c+1:=by rw[ij]
   let#v[a,P,rfl,O,r]:=T;let#v[b,R,rfl,o,i]:=W;ext ru;ext rv;let#v[m,t,p,_]:=I.list O;let#v[f,B,G,_]:=I.list o;by_cases F:m.length=f.length
   .have w:=uW (A:=X.A) p.isList G.isList (by exists F) () (λj C E=>by
     have z:=Bw I l c P R m f X.A.in1 r i t B (by change X.A.units+1+xJ l+xJ c<cLine;omega) j (by exists C) (by exists E);exists z)
    rw[Cu (by rw[vv r,t.length];simp) (by rw[vv i,B.length,<- F];simp)]at w;show w X.prog X.w X.xe _ (wc I q J)
   .have e:AS l c=δ:=G7 (by rw[vv r,vv i,t.length,B.length];show F);rw[show n3 (.ax l) (.ax c)=δ from e]at q;show tJ p.isList G.isList (by exists F) () X.prog X.w X.xe _ (wc I q J)
  |_=>show nomatch hd
 |_=>show nomatch hd
end
theorem Ja{K:ay}:∀l:aD,a9 K H (l.map Dq.str) (l.map V.str)
 |[]=>by rw[cf,cf];delta a9;rfl
 |x::r=>by rw[aA,aA];show#v[_,_,J,(by delta c3;rfl),Ja r]
theorem Bc:∀l:aD,xJ (l.map Dq.str)=0
 |[]=>by rw[cf,xJ]
 |x::r=>by rw[aA];delta xJ;rw[Bc r];rfl
inductive StrsAre:List Expr->bC->Prop
 |nil:StrsAre [] []
 |cons {x:Str} {j:Nat} {pos:Pos} {es:List Expr} {vs:bC} (h:StrsAre es vs):StrsAre (.Constant (.str x) j pos::es) (.str x::vs)
def ze(h:n<=1000):n<=aS:=gG (Bb h)
def vw.new(x:vw H a)(c:a p=Z)(o:HO):vw H (el a p o):=λb u e=>by have z:=x b u e;rw[vt (xZ z c)];show z
structure P7(K:ay)(x qual:Str)(st:Stmt)(f:Addr)(fd:cy)(T:Addr):Prop where
 ex:∃(oc:aa) (od:Option Addr) (kV doc pm:aa) (an:Option Addr) (cdv ct:aa) (osl:Array (Option aa)),
  fd=fH x qual (yT st) (wa st) (vH st) (.ref T) kV doc pm an cdv ct/\K.lookup f=U #v[oc,od,.func fd,osl]/\iC K cdv qual=γ
 kp:eM K (.ref f)=γ
section
variable{K:ay}
theorem P7.ok{st:Stmt}(F:P7 K x qual st f d T)(S:xc N ps (vH st))(len:∀a H Q E,b a H Q E->a.length=ps.length)
  (hbody:∀(cdv:aa) (A:bp) (b8:List Env) (s:aq) (H:Hp) (a:bC) (Q:VK) (E:XK),xg k (A.deeper (envOfC qual (vH st) (~~~s) f cdv))->b a H Q E->
   ∃t,kv (K2 yy P w K i a7 N qual (vH st) f cdv A b8 s H E).nox (wa st) t/\t { nx:=λz c=>Q .I c,rt:=Q } (L2.start N a) H):yS P w K i a7 yy (k+1) f d ps b:=by
 let#v[m,o,kV,doc,p,j,cdv,l,osl,rfl,lk,hcd]:=F.ex;calc X9 lk hcd S len λA b8 s H a Q E e hsp=>?_;let#v[t,h,q]:=hbody cdv A b8 s H a Q E e hsp;show#v[t,h.nox,q]
end
theorem P7.rl{K:ay}{st:Stmt}{i:aD}{d:List aa}(F:P7 K x qual st f j T)(q:K.lookup T=U o)(r:o.data=.seq items n)
  (h:∀(kV doc e:aa) (b:Option Addr) (cdv c:aa) (a:List aa),a.length=i.length - d.length->∃k,bindArgs (fH x qual (yT st) (wa st) (vH st) (.ref T) kV doc e b cdv c) #v[a,[]]=seqItems? (.ref T)>>=k/\k (U items)=pure (i.zip (a++d))):km K j i d:=by
 let#v[t,u,kV,doc,e,b,cdv,c,osl,rfl,lk,hcd]:=F.ex;intro s a KX p;let#v[k,l,m]:=h kV doc e b cdv c a (by rw[aH]at p;omega);show BindsTo.of_defaults J (KX _ _ q) r l m
section
def MZ:iE X (c8 .Mult) (λx y H Q=>∃z n,x=.str z/\y=.int n/\MulOk z n/\Q (.str (jD z n)) H):=by intro a s i H x y v u Q I c d h;let#v[z,n,rfl,rfl,b,q]:=h;let#v[t,rfl]:=c;let#v[f,rfl]:=d;show SB.mul b λe k=>#v[.str _,H,I.w? _,#v[e,J],q]
end
section
variable(K:ay)
#print "RB Vr Os;VB Rj Rk" in def ϑ0(hK:X.K=K:=by rfl):ε X (ϑ1 K):=by subst hK;show ϑ2
#print "Li Q0 Vd;VC Zc Zd" in def ϑ0(a:PE X l b)(hK:X.K=K:=by rfl):PI X c l (ϑ1 K b):=by subst hK;show ϑ2 a
def VD(b:X.k3=γ)(h:Pr X a t)(c:(dw a X.a8).length=n:=by rfl)(hst:(dw a X.a8).findIdx? (·.1)=Z:=by rfl)(hK:X.K=K:=by rfl):PG X (.Tuple a k pos) (Y9 K n t):=by subst hK;show Za b h c hst
variable{T id:String}
def RD(h:nS T)(slot:Slot T name id)(hty:typeOf (.builtin id)=pure (.type "method_descriptor"))(c:MtR X id r)(d:PE X o to)(b:PA X (e::a) t)
  (hbase:fo o name X.a8 (eval o X.a8)=eval o X.a8:=by rfl)
  (hfew:((bM cpos (aE (e::a) X.a8)).all (λx=>!x.1)&&(backToKw cpos (eI [] X.a8)).all (λx=>x.1.isSome)
   && decide ((e::a).length+([]:List fV).length+(if ([]:List fV).isEmpty then 0 else 1)<30))=γ:=by rfl)
  (hline:(apos.endLine==cpos.line)=γ:=by rfl) (f:aE (e::a) X.a8=(δ,eval e X.a8)::aE a X.a8:=by rfl) (hplain:(bM cpos (aE a X.a8)).any (·.1)=δ:=by rfl) (hK:X.K=K:=by rfl):
  PE X (.Call (.Attribute o name apos) (e::a) [] cpos) (tBM K T r to t):=by subst hK;show ads h slot hty c d b hbase hfew hline f hplain
end
end L3
namespace L2
open PySem PySem.Spec PyProof.Rows
section
def Bd(e:H a=U u)(q:H c=U v)(d:u≠v)(n:HO):el H a n c=U v:=by rw[vt (λz=>by subst z;rw[e]at q;show d (cZ q))];show q
def b9.l?(I:b9 X f B H s)(e:H a=U (.dK kvs)):∃o,b9 X f B (el H a (.k4 o (.dK kvs))) s:=by
 let#v[z,y,R,r,i,M,G,p,c]:=(show er X.prog X.w H s.heap a (.dK kvs) from I.e8 a _ e);calc#v[i,?_];have l:=I.step (H':=el H a (.k4 i (.dK kvs))) (h':=s.heap) (g':=s.gens) (d':=s.drawn) (t':=s.toks) (ch:=[]) (λ_ z=>nomatch z) (λb o _ _ _ q _=>q) (λb o _ _ _ q _=>#v[o.slots,q])
  (λb o _ _ n=>by rw[vt (λz=>by subst z;rw[e]at n;ext n)];show n) (λb o _ q=>#v[o,q]) (λb A q=>Bd e q (λz=>nomatch z) _) (λb o u q=>Bd e q (λz=>nomatch z) _)
  (λb P q=>#v[[].toArray,by rw[Bd e q (λz=>nomatch z) _];simp]) (λm q=>q) ?_ I.jl
 .let#v[h,g,d,t,os]:=s;show l
 .intro b u q;have st:∀{b:Addr} {u:HO},er X.prog X.w H s.heap b u->er X.prog X.w (el H a (.k4 i (.dK kvs))) s.heap b u:=λ{b u} x=>x.v? (λ_ _ _ q=>q) (λc q=>Bd e q (λz=>nomatch z) _) λc A q=>Bd e q (λz=>nomatch z) _
  by_cases j:b=a
  .subst j;rw[vp]at q;ext q;show#v[p,st (I.e8 b _ e)]
  .rw[vt j]at q;show st (I.e8 b u q)
def PE.ψ(h:PE X e t):PE X e (λd H Q=>t d H λx b=>Q x b\/∃a kvs,b a=U (.dK kvs)/\∀o,Q x (el b a (.k4 o (.dK kvs)))):=λc s d H Q I l=>
 fb (h c s d H _ I l) λu p #v[x,b,f,i,m]=>by
  rcases m with q|⟨a,kvs,e,q⟩
  .show#v[x,b,f,i,q]
  .let#v[o,j]:=f.l? e;show#v[x,_,j,i,q o]
end
end L2
namespace L4
open PySem PySem.Spec PyProof.Rows L2 L3
abbrev St:=L2.St
inductive D where
 |I|bl (b:Bool)|int (i:Int)|str (x:Str)
 |bx (ds:List D)|ax (ds:List D)
 |O (ds:List D)
 |obj (c:Nat) (ns:aD) (ds:List D)
 |M (ks:List ef) (ds:List D)
 |dit (ks:List (List ef)) (ds:List D)
abbrev aV:=List D
structure Bg where
 K:ay
 ca:Nat->Addr
 hs:List ef->Int
def isO(a:Addr)(o:Obj):Heap->Prop:=λh=>h.get? a=U o
structure DtE(hs:List ef->Int)(o:Obj)(qs:List (List ef×Addr×aa)):Prop where
 ex:o.ExactDict
 da:∃es ep,o.data=.dict es ep/\es.toList=qs.map λq=>#v[hs q.1,.ref q.2.1,q.2.2]
 nd:(qs.map (·.1)).Nodup
 sz:qs.length<=1000
def DtO(G:Bg)(H:Hp)(a:Addr)(c:List (List ef))(d:bC):Prop:=∃(o:Obj) (b:List (List ef×Addr×aa)),H a=U (.ext (isO a o))/\(a==c6)=δ/\DtE G.hs o b/\b.map (·.1)=c/\(∀q∈b,fh G.K H q.2.1 (q.1.map kV))/\df d (b.map (·.2.2))
mutual
def c3(G:Bg)(H:Hp):D->V->Prop
 |.I,v=>v=.I
 |.bl b,v=>v=.bl b
 |.int i,v=>v=.int i
 |.str x,v=>v=.str x
 |.bx e,v=>∃a d,v=.ref a/\fh G.K H a d/\a9 G H e d
 |.ax e,v=>∃a d,v=.ref a/\H a=U (.ax d)/\a9 G H e d
 |.O e,v=>∃a d,v=.ref a/\f? G.K H a d/\a9 G H e d
 |.obj c h e,v=>∃a j d,v=.ref a/\H a=U (.l' (G.ca c) j (h.zip d))/\h.length=d.length/\a9 G H e d
 |.M f e,v=>∃a o d,v=.ref a/\H a=U (.k4 o (.dK (f.zip d)))/\f.length=d.length/\a9 G H e d
 |.dit f e,v=>∃a d,v=.ref a/\DtO G H a f d/\a9 G H e d
def a9(G:Bg)(H:Hp):aV->bC->Prop
 |[],a=>a=[]
 |d::b,a=>∃v r,a=v::r/\c3 G H d v/\a9 G H b r
end
def fh.mono{K:ay}{H b:Hp}{a:Addr}{c:bC}(e:vw H b)(h:fh K H a c):fh K b a c:=by
 rcases h with (h|⟨o,h⟩)|h
 .show .inl (.inl (e _ _ h))
 .show .inl (.inr #v[o,e _ _ h])
 .show .inr h
theorem DtO.mono{G:Bg}{H b:Hp}{a:Addr}{c:List (List ef)}{d:bC}(e:vw H b)(h:DtO G H a c d):DtO G b a c d:=by let#v[o,t,f,i,j,l,m,p]:=h;show#v[o,t,e _ _ f,i,j,l,λq r=>fh.mono e (m q r),p]
mutual
theorem c3.mono{G:Bg}{H q:Hp}(e:vw H q):∀(d:D) (v:V),c3 G H d v->c3 G q d v
 |.I,v,h=>by delta c3 at h ⊢;show h
 |.bl b,v,h=>by delta c3 at h ⊢;show h
 |.int i,v,h=>by delta c3 at h ⊢;show h
 |.str x,v,h=>by delta c3 at h ⊢;show h
 |.bx j,v,h=>by let#v[a,f,rfl,l,m]:=h;show#v[a,f,J,fh.mono e l,a9.mono e j f m]
 |.ax j,v,h=>by let#v[a,f,rfl,l,m]:=h;show#v[a,f,J,e _ _ l,a9.mono e j f m]
 |.O j,v,h=>by let#v[a,f,rfl,l,m]:=h;show#v[a,f,J,e.seq l,a9.mono e j f m]
 |.obj c u j,v,h=>by let#v[a,r,f,rfl,l,m,p]:=h;show#v[a,r,f,J,e _ _ l,m,a9.mono e j f p]
 |.M t j,v,h=>by let#v[a,o,f,rfl,l,m,p]:=h;show#v[a,o,f,J,e _ _ l,m,a9.mono e j f p]
 |.dit t j,v,h=>by let#v[a,f,rfl,l,m]:=h;show#v[a,f,J,l.mono e,a9.mono e j f m]
theorem a9.mono{G:Bg}{H c:Hp}(e:vw H c):∀(a:aV) (b:bC),a9 G H a b->a9 G c a b
 |[],b,h=>by delta a9 at h ⊢;show h
 |d::a,b,h=>by let#v[v,r,rfl,f,i]:=h;show#v[v,r,J,c3.mono e d v f,a9.mono e a r i]
end
section
def vO:a9 G H [] []:=by delta a9;rfl
def vM{d:D}{v:V}{b:aV}{a:bC}(h:c3 G H d v)(r:a9 G H b a):a9 G H (d::b) (v::a):=by delta a9;show#v[v,a,J,h,r]
inductive IRp(G:Bg) (H:Hp) (d:D) (ds:aV) (xs:bC):Prop
 |i (v:V) (r:bC) (e:xs=v::r) (h:c3 G H d v) (t:a9 G H ds r):IRp G H d ds xs
def Ae{d:D}{a:aV}{b:bC}(h:a9 G H (d::a) b):IRp G H d a b:=let #v[v,r,e,p,q]:=h;#v[v,r,e,p,q]
def By{a:bC}(h:a9 G H [] a):a=[]:=h
theorem vv:∀{b:aV} {a:bC},a9 G H b a->b.length=a.length
 |[],a,h=>by cases By h;rfl
 |d::b,a,h=>by let#v[v,r,rfl,_,c]:=h;rw[aL,aL,vv c]
theorem xl:∀{e a:aV} {b c:bC},a9 G H e b->a9 G H a c->a9 G H (e++a) (b++c)
 |[],a,b,c,h,f=>by cases By h;show f
 |d::e,a,b,c,h,f=>by let#v[v,r,rfl,i,j]:=h;show vM i (xl j f)
theorem xm:∀{b:aV} {a:bC} {i:Nat} {d:D},a9 G H b a->b[i]?=U d->∃v,a[i]?=U v/\c3 G H d v
 |[],a,i,d,h,e=>by simp at e
 |j::b,a,i,d,h,e=>by
  let#v[v,r,rfl,c,f]:=h;cases i with
  |zero=>simp at e;subst e;show#v[v,J,c]
  |succ i=>exists xm f (by exists e)
theorem Jb:∀{ds:aV} {a:bC} (n:Nat),a9 G H ds a->a9 G H (ds.drop n) (a.drop n)
 |ds,a,0,h=>h
 |[],a,n+1,h=>by cases By h;show vO
 |d::ds,a,n+1,h=>by let#v[v,r,rfl,c,b]:=h;show Jb n b
theorem Jc:∀{ds:aV} {a:bC} (n:Nat),a9 G H ds a->a9 G H (ds.take n) (a.take n)
 |ds,a,0,h=>vO
 |[],a,n+1,h=>by cases By h;show vO
 |d::ds,a,n+1,h=>by let#v[v,r,rfl,b,c]:=h;show vM b (Jc n c)
def zM{a:Addr}{b:bC}{c:aV}(h:fh G.K H a b)(r:a9 G H c b):c3 G H (.bx c) (.ref a):=by delta c3;show#v[a,b,J,h,r]
def AC{a:Addr}{b:bC}{c:aV}(h:H a=U (.ax b))(r:a9 G H c b):c3 G H (.ax c) (.ref a):=by delta c3;show#v[a,b,J,h,r]
#print "xW Int int;ya Bool bl;zN Str str" in def ϑ0(i:ϑ1):c3 G H (.ϑ2 i) (.ϑ2 i):=by delta c3;rfl
def BA:c3 G H .I .I:=by delta c3;rfl
end
inductive Sl where
 |un
 |q (d:D)
 |J (ds:aV)
 |pm (ds:aV)
 |dk (ks:List ef) (ds:aV)
 |ob (c:Nat) (ns:aD) (ds:aV)
abbrev aU:=List Sl
def Sl.gy:Sl->Bool
 |.J _=>γ
 |.pm _=>γ
 |.dk _ _=>γ
 |.ob _ _ _=>γ
 |_=>δ
structure Fr where
 B0:Hp
 B:Hp
 A:List Addr
def DS(G:Bg)(F:Fr)(e H:Hp)(o:Option V):Sl->Prop
 |.un=>True
 |.q d=>∃v,o=U v/\c3 G e d v
 |.J f=>∃a b,o=U (.ref a)/\H a=U (.ax b)/\e a=Z/\F.B a=Z/\a9 G e f b
 |.pm f=>∃a b,o=U (.ref a)/\H a=U (.ax b)/\e a=Z/\a∈F.A/\a9 G e f b
 |.dk h f=>∃a b,o=U (.ref a)/\H a=U (.dK (h.zip b))/\e a=Z/\F.B a=Z/\h.length=b.length/\a9 G e f b
 |.ob c i f=>∃a j b,o=U (.ref a)/\H a=U (.l' (G.ca c) j (i.zip b))/\e a=Z/\a∈F.A/\i.length=b.length/\a9 G e f b
structure bc(G:Bg)(F:Fr)(σ:St)(ρ:aU)(H0 H:Hp):Prop where
 sub:vw H0 H
 g0:vw F.B0 H0
 keep:∀b o,F.B b=U o->b∉F.A->H b=U o
 fr:∀b o,H0 b=U o->F.B0 b=U o\/F.B b=Z
 am:∀a∈F.A,∃o,H a=U o
 len:σ.length=ρ.length
 sl:∀(i:Nat) (s:Sl),ρ[i]?=U s->DS G F H0 H (σ[i]?).join s
 ap:∀(i j:Nat) (s t:Sl) (a:Addr),i≠j->ρ[i]?=U s->ρ[j]?=U t->s.gy=γ->t.gy=γ->(σ[i]?).join=U (.ref a)->(σ[j]?).join=U (.ref a)->False
theorem DS.at{G:Bg}{F:Fr}{p H:Hp}{o:Option V}{s:Sl}(h:DS G F p H o s)(e:s.gy=γ):∃a u,o=U (.ref a)/\H a=U u/\p a=Z/\(F.B a=Z\/a∈F.A):=by
 cases s with
 |un=>cases e
 |q d=>cases e
 |J l=>let#v[a,m,b,f,i,j,_]:=h;show#v[a,_,b,f,i,.inl j]
 |pm l=>let#v[a,m,b,f,i,j,_]:=h;show#v[a,_,b,f,i,.inr j]
 |dk r l=>let#v[a,m,b,f,i,j,_]:=h;show#v[a,_,b,f,i,.inl j]
 |ob c t l=>let#v[a,q,m,b,f,i,j,_]:=h;show#v[a,_,b,f,i,.inr j]
def DS.gk{G:Bg}{F:Fr}{t H f y:Hp}{o:Option V}{s:Sl}(h:DS G F t H o s)(p:vw t f)(q:∀a u,o=U (.ref a)->s.gy=γ->H a=U u->y a=U u)
  (r:∀a u,o=U (.ref a)->s.gy=γ->H a=U u->t a=Z->f a=Z):DS G F f y o s:=by
 cases s with
 |un=>trivial
 |q d=>let#v[v,b,e]:=h;show#v[v,b,c3.mono p _ _ e]
 |J w=>let#v[a,m,b,e,i,j,l]:=h;show#v[a,m,b,q _ _ b J e,r _ _ b J e i,j,a9.mono p _ _ l]
 |pm w=>let#v[a,m,b,e,i,j,l]:=h;show#v[a,m,b,q _ _ b J e,r _ _ b J e i,j,a9.mono p _ _ l]
 |dk A w=>let#v[a,m,b,e,i,j,l,x]:=h;show#v[a,m,b,q _ _ b J e,r _ _ b J e i,j,l,a9.mono p _ _ x]
 |ob c B w=>let#v[a,z,m,b,e,i,j,l,x]:=h;show#v[a,z,m,b,q _ _ b J e,r _ _ b J e i,j,l,a9.mono p _ _ x]
section
theorem bc.gr(R:bc G F f ρ c H){b:Addr}(h:H b=Z):F.B b=Z:=by
 cases e:F.B b with
 |none=>rfl
 |some o=>
  by_cases a:b∈F.A
  .let#v[d,q]:=R.am b a;rw[q]at h;ext h
  .have q:=R.keep b o e a;rw[q]at h;ext h
theorem bc.gk(R:bc G F σ ρ H0 H)(hs:vw H H')(h0:vw H0 c)(sub':vw c H')(d:∀b o,c b=U o->H0 b=U o\/H b=Z):bc G F σ ρ c H' where
 sub:=sub'
 g0:=R.g0.t h0
 keep:=λb o e n=>hs _ _ (R.keep b o e n)
 fr:=λb o e=>by
  rcases d b o e with q|q
  .show R.fr b o q
  .show .inr (R.gr q)
 am:=λa ha=>let #v[xs,q]:=R.am a ha;#v[xs,hs _ _ q]
 len:=R.len
 sl:=λi s e=>(R.sl i s e).gk h0 (λa u w w q=>hs _ _ q) λa u w w q q0=>by
  cases z:c a with
  |none=>rfl
  |some o=>
   rcases d a o z with y|y
   .rw[y]at q0;ext q0
   .rw[y]at q;ext q
 ap:=R.ap
def vE{H:Hp}{p:Addr}(a:H p=Z)(o:HO):vw H (el H p o):=vw.new (vw.refl H) a o
def bc.ey(R:bc G F c ρ a H){p:Addr}(b:H p=Z):a p=Z:=by
 cases e:a p with
 |none=>rfl
 |some o=>have:=R.sub _ _ e;rw[this]at b;ext b
def RE{a H:Hp}(s:vw a H)(p:Addr)(o:HO):vw (el a p o) (el H p o):=λb u e=>by
 by_cases c:b=p
 .subst c;rw[vp]at e ⊢;show e
 .rw[vt c]at e ⊢;show s _ _ e
def bc.J?(R:bc G F h f d H){p:Addr}(a:H p=Z)(o:HO):bc G F h f (el d p o) (el H p o):=
 R.gk (vE a o) (vE (R.ey a) o) (RE R.sub p o) λb u e=>by
  by_cases c:b=p
  .subst c;show .inr a
  .rw[vt c]at e;show .inl e
def bc.gi(R:bc G F d ρ c H){p:Addr}(a:H p=Z)(o:HO):bc G F d ρ c (el H p o):=
 R.gk (vE a o) (vw.refl _) (λb u e=>by rw[vt (xZ (R.sub _ _ e) a)];show R.sub _ _ e) λb u e=>.inl e
def t7(b:St)(a:aU)(p:Addr):Prop:=∀(i:Nat) (s:Sl),a[i]?=U s->s.gy=γ->(b[i]?).join≠U (.ref p)
def bc.apart(R:bc G F f ρ h H){p:Addr}(d:H p=Z):t7 f ρ p:=λi s e so z=>by let#v[a,u,b,c,_]:=(R.sl i s e).at so;rw[z]at b;ext b;rw[d]at c;ext c
theorem bc.l?(R:bc G F σ ρ H0 H){p:Addr}{o:HO}(f:H p=U o)(h0:H0 p=Z)(d:F.B p=Z)(ap:t7 σ ρ p):bc G F σ ρ (el H0 p o) H where
 sub:=λb u e=>by
  by_cases d:b=p
  .subst d;rw[vp]at e;ext e;show f
  .rw[vt d]at e;show R.sub _ _ e
 g0:=R.g0.t (vE h0 o)
 keep:=R.keep
 fr:=λb u e=>by
  by_cases c:b=p
  .subst c;show .inr d
  .rw[vt c]at e;show R.fr _ _ e
 am:=R.am
 len:=R.len
 sl:=λi s e=>(R.sl i s e).gk (vE h0 o) (λa u w w q=>q) λa u z so q q0=>by rw[vt (λy=>ap i s e so (by rw[z,y]))];show q0
 ap:=R.ap
def Lj{a:St}{i j:Nat}{v:Option V}(b:i<a.length):((a.set i v)[j]?).join=if j=i then v else (a[j]?).join:=by
 rw[cc];by_cases h:i=j
 .subst h;simp[b]
 .rw[ai h,ai (λz=>h z.symm)]
#print h
theorem bc.set(R:bc G F σ ρ H0 H){i:Nat}{v:V}{s:Sl}(hs:DS G F H0 H (U v) s)(ap:s.gy=γ->∀a,v=.ref a->∀(j:Nat) (t:Sl),j≠i->ρ[j]?=U t->t.gy=γ->(σ[j]?).join≠U (.ref a)):
  bc G F (σ.set i (U v)) (ρ.set i s) H0 H where
 sub:=R.sub
 g0:=R.g0
 keep:=R.keep
 fr:=R.fr
 am:=R.am
 len:=by rw[eC,eC,R.len]
 sl:=λj t e=>by
  rw[cc]at e;by_cases h:i=j
  .subst h;rw[af J]at e;split at e
   .rename_i hi;ext e;rw[Lj (by rw[R.len];show hi),af J];show hs
   .ext e
  .rw[ai h]at e;have A:=R.sl j t e;rw[cc,ai h];show A
 ap:=λj k t u a hjk q f p tk b vk=>by
  have ma:∀{m:Nat} {x:Sl},(ρ.set i s)[m]?=U x->m≠i->ρ[m]?=U x/\((σ.set i (U v))[m]?).join=(σ[m]?).join:=λ{m x} e hm=>by rw[cc,ai (λz=>hm z.symm)]at e;show#v[e,by rw[cc,ai (λz=>hm z.symm)]]
  have self:∀{x:Sl},(ρ.set i s)[i]?=U x->x=s/\((σ.set i (U v))[i]?).join=U v:=λ{x} e=>by
   rw[cc,af J]at e;split at e
   .rename_i hi;ext e;show#v[J,by rw[Lj (by rw[R.len];show hi),af J]]
   .ext e
  by_cases o:j=i
  .subst o;let#v[rfl,l]:=self q;rw[l]at b;ext b;let#v[c,d]:=ma f (λz=>hjk z.symm);rw[d]at vk;show ap p a J k u (λz=>hjk z.symm) c tk vk
  .let#v[c,d]:=ma q o;by_cases r:k=i
   .subst r;let#v[rfl,l]:=self f;rw[l]at vk;ext vk;rw[d]at b;show ap tk a J j t o c p b
   .let#v[w,y]:=ma f r;rw[d]at b;rw[y]at vk;show R.ap j k t u a hjk c w p tk b vk
#print f
def bc.V?(R:bc G F b ρ a H)(i:Nat){v:V}{d:D}(h:c3 G a d v):bc G F (b.set i (U v)) (ρ.set i (.q d)) a H:=R.set #v[v,J,h] λz=>by ext z
theorem bc.setLs(R:bc G F f ρ b H)(i:Nat){p:Addr}{c:bC}{d:aV}(r:H p=U (.ax c))(o:b p=Z)(q:F.B p=Z)(l:t7 f ρ p)(h:a9 G b d c):bc G F (f.set i (U (.ref p))) (ρ.set i (.J d)) b H:=
 R.set #v[p,c,J,r,o,q,h] λz a e j t z m u=>by ext e;show l j t m u
def bc.mut(R:bc G F σ ρ H0 H){i:Nat}{a:Addr}{s s':Sl}{o:HO}(hi:ρ[i]?=U s)(so:s.gy=γ)(ha:(σ[i]?).join=U (.ref a))(ok:∀H',H' a=U o->DS G F H0 H' (U (.ref a)) s')
  (M:s'.gy=γ):bc G F σ (ρ.set i s') H0 (el H a o):=by
 let#v[P,u,c,Q,d,f]:=(R.sl i s hi).at so;rw[ha]at c;ext c;show {
  sub:=λb w e=>by rw[vt (λz=>by rw[z,d]at e;ext e)];show R.sub _ _ e
  g0:=R.g0
  keep:=λb w e n=>by
   have C:b≠a:=λz=>by
    subst z;rcases f with q|q
    .rw[q]at e;ext e
    .show n q
   rw[vt C];show R.keep b w e n
  fr:=R.fr
  am:=λb B=>by
   by_cases z:b=a
   .subst z;show#v[o,vp]
   .rw[vt z];show R.am b B
  len:=by rw[eC];show R.len
  sl:=λj t e=>by
   rw[cc]at e;by_cases h:i=j
   .subst h;rw[af J]at e;split at e
    .ext e;rw[ha];show ok _ vp
    .ext e
   .rw[ai h]at e;calc(R.sl j t e).gk (vw.refl _) (λb w z to q=>?_) λb w v v v q=>q;rw[vt (λy=>by subst y;show R.ap j i t s b (λy=>h y.symm) e hi to so z ha)];show q
  ap:=λj k t u b hjk l p N tk O vk=>by
   have ma:∀{m:Nat} {x:Sl},(ρ.set i s')[m]?=U x->∃y,ρ[m]?=U y/\(x.gy=γ->y.gy=γ):=λ{m x} e=>by
    rw[cc]at e;by_cases h:i=m
    .subst h;show#v[s,hi,λv=>so]
    .rw[ai h]at e;show#v[x,e,λq=>q]
   let#v[y,r,E]:=ma l;let#v[z,A,I]:=ma p;show R.ap j k y z b hjk r A (E N) (I tk) O vk }
end
#print "E D;T Bool;A aV" in abbrev Fϑ0:=aU->Option (ϑ1×aU)
inductive ItF(G:Bg) (f:FE) (σ:St) (H:Hp) (Q:VK):Prop
 |i (F ρ H0 d ρ') (h0:bc G F σ ρ H0 H) (h1:f ρ=U (d,ρ')) (h2:∀v H0' H',vw H0 H0'->bc G F σ ρ' H0' H'->c3 G H0' d v->Q v H'):ItF G f σ H Q
def tF(G:Bg)(f:FE):TE:=λa H Q=>ItF G f a H Q
inductive ItFT(G:Bg) (f:FT) (σ:St) (H:Hp) (Q:(Bool->Hp->Prop)):Prop
 |i (F ρ H0 d ρ') (h0:bc G F σ ρ H0 H) (h1:f ρ=U (d,ρ')) (h2:∀H0' H',vw H0 H0'->bc G F σ ρ' H0' H'->Q d H'):ItFT G f σ H Q
def m?(G:Bg)(f:FT):TT:=λa H Q=>ItFT G f a H Q
inductive ItFA(G:Bg) (f:FA) (σ:St) (H:Hp) (Q:(bC->Hp->Prop)):Prop
 |i (F ρ H0 ds ρ') (h0:bc G F σ ρ H0 H) (h1:f ρ=U (ds,ρ')) (h2:∀xs H0' H',vw H0 H0'->bc G F σ ρ' H0' H'->a9 G H0' ds xs->Q xs H'):ItFA G f σ H Q
def sh(G:Bg)(f:FA):TA:=λa H Q=>ItFA G f a H Q
inductive ItFN(G:Bg) (f:FA) (σ:St) (H:Hp) (Q:VK):Prop
 |i (F ρ H0 ds ρ') (h0:bc G F σ ρ H0 H) (h1:f ρ=U (ds,ρ')) (h2:∀p xs H0' H',vw H0 H0'->bc G F σ ρ' H0' H'->H' p=U (.ax xs)->H0' p=Z->F.B p=Z->t7 σ ρ' p->a9 G H0' ds xs->Q (.ref p) H'):ItFN G f σ H Q
def y0(G:Bg)(f:FA):TE:=λa H Q=>ItFN G f a H Q
#print "E;T" in def Pϑ0.cx(h:Pϑ0 X e t)(w:∀b H Q,d b H Q->t b H Q):Pϑ0 X e d:=λa s b H Q I c=>h a s b H Q I (w _ _ _ c)
#print "W f;A pos" in def Pϑ0.cx(h:Pϑ0 X e t)(w:∀b H Q,d b H Q->t b H Q):Pϑ0 X e d:=λϑ1 a s b H Q I c=>h ϑ1 a s b H Q I (w _ _ _ c)
noncomputable def cC(d:D):FE:=λa=>U (d,a)
noncomputable def cV(i:Nat):FE:=λa=>match a[i]? with
 |some (.q d)=>U (d,a)
 |_=>Z
noncomputable def c1(g:D->Option D) (f:FE):FE:=λb=>match f b with
 |some (d,a)=>match g d with
  |some x=>U (x,a)
  |none=>Z
 |none=>Z
noncomputable def c2(g:D->D->Option D) (f c:FE):FE:=λd=>match f d with
 |some (x,a)=>match c a with
  |some (y,b)=>match g x y with
   |some z=>U (z,b)
   |none=>Z
  |none=>Z
 |none=>Z
def GB(h:c1 g f c=U (z,b)):∃d,f c=U (d,b)/\g d=U z:=by
 delta c1 at h;cases e:f c with
 |none=>rw[e]at h;cases h
 |some p=>
  let#v[d,i]:=p;rw[e]at h;cases a:g d with
  |none=>erw[a]at h;cases h
  |some x=>erw[a]at h;ext h;show#v[d,J,a]
def GE(h:c2 g f i j=U (z,d)):∃x y a,f j=U (x,a)/\i a=U (y,d)/\g x y=U z:=by
 delta c2 at h;cases e:f j with
 |none=>rw[e]at h;cases h
 |some p=>
  let#v[x,a]:=p;erw[e]at h;cases b:i a with
  |none=>erw[b]at h;cases h
  |some q=>
   let#v[y,l]:=q;erw[b]at h;cases c:g x y with
   |none=>erw[c]at h;cases h
   |some w=>erw[c]at h;ext h;show#v[x,y,a,J,b,c]
section
#print "Zz int int MG xW;adz bool bl acZ ya;ZC str str QT zN" in def ϑ0{i j pos}:PE X (.Constant (.ϑ1 i) j pos) (tF G (cC (.ϑ2 i))):=PE.cx ϑ3 λf H Q h=>by let#v[F,c,b,d,a,R,e,k]:=h;ext e;show k _ _ _ (vw.refl _) R (ϑ4 i)
def ZD{j pos}:PE X (.Constant .none j pos) (tF G (cC .I)):=PE.cx Y1 λf H Q h=>by let#v[F,c,b,d,a,R,e,k]:=h;ext e;show k _ _ _ (vw.refl _) R BA
#print h
def VE(h:cV i b=U (d,a)):b[i]?=U (.q d)/\a=b:=by
 delta cV at h;split at h
 .rename_i e;ext h;show#v[e,J]
 .ext h
#print f
def yb{a:Type}{o:Option (Option a)}{v:a}(h:o.join=U v):o=U (U v):=by
 cases o with
 |none=>cases h
 |some u=>cases u with
  |none=>cases h
  |some w=>ext h;rfl
def M0(h:PE X e (Aa i)):PE X e (tF G (cV i)):=PE.cx h λo H Q f=>by let#v[F,m,l,d,j,R,e,k]:=f;let#v[a,rfl]:=VE e;let#v[v,b,c]:=R.sl i _ a;show#v[v,yb b,k _ _ _ (vw.refl _) R c]
def VF(h:PE X e (tC v))(r:∀H,c3 G H d v):PE X e (tF G (cC d)):=PE.cx h λj H Q a=>by let#v[F,i,c,f,b,R,e,k]:=a;ext e;show k _ _ _ (vw.refl _) R (r _)
def ki(G:Bg)(r:R2)(g:D->D->Option D):Prop:=∀x y z b H v u (Q:VK),g x y=U z->vw b H->c3 G b x v->c3 G b y u->(∀w,(∀a,vw b a->c3 G a z w)->Q w H)->r v u H Q
def Ow(C:ki G r g):∀h H Q,tF G (c2 g f A) h H Q->tOp r (tF G f) (tF G A) h H Q:=λh H Q B=>by let#v[F,O,l,d,c,R,e,k]:=B;let#v[x,y,b,q,t,z]:=GE e;calc#v[F,O,l,x,b,R,q,λv m o N p I=>#v[F,b,m,y,c,p,t,λu i a j R2 M=>?_]];show C x y d i a v u Q z R2.sub (c3.mono j _ _ I) M λw E=>k w i a (N.t j) R2 (E _ (vw.refl _))
def adA(i:iE X (c8 op) r)(h:ki G r g)(d:PE X a (tF G f))(e:PE X b (tF G c)):PE X (.BinOp a op b pos) (tF G (c2 g f c)):=PE.cx (Of i d e) (Ow h)
def ZL(j:iE X (bD op) r)(i:ki G r g)(d:PE X a (tF G f))(e:PE X b (tF G c))(h:gz op b=δ):PE X (.Compare a [op] [b] pos) (tF G (c2 g f c)):=PE.cx (Vj j d e h) (Ow i)
def adB(i:ε X r)(h:ki G r g)(d:PE X a (tF G f))(e:PE X b (tF G c))(j:Oq b):PE X (.Subscript a b pos) (tF G (c2 g f c)):=PE.cx (Rh i d e j) (Ow h)
def cT(f:FE):FT:=λc=>match f c with
 |some (.bl b,a)=>U (b,a)
 |_=>Z
#print h
def Ox(h:cT f c=U (b,a)):f c=U (.bl b,a):=by
 delta cT at h;split at h
 .rename_i e;ext h;show e
 .ext h
#print f
def Oy:∀b H Q,m? G (cT f) b H Q->Q4 (tF G f) b H Q:=λb H Q j=>by let#v[F,l,c,d,a,R,e,k]:=j;calc#v[F,l,c,_,a,R,Ox e,λv h m s i r=>?_];show#v[d,r,k _ _ s i]
def VG(t:iE X (bD op) r)(q:ki G r g)(l:PE X a (tF G f))(m:PE X b (tF G j))(p:gz op b=δ):
  PT X (.Compare a [op] [b] pos) (m? G (cT (c2 g f j))):=PT.cx (Vk t l m p) λh H Q o=>by
 let#v[F,u,i,d,c,R,e,k]:=Oy h H Q o;show Ow q h H _ #v[F,u,i,d,c,R,e,k]
def VH(h:PE X e (tF G f))(j:∀whole,isTrue e X.a8 whole=(do let v<-whole;standAt e.pos;holding [v] (truthy v)):=by intro _;rfl):PT X e (m? G (cT f)):=PT.cx (Y2 h j) λp H Q l=>by let#v[F,m,b,d,a,R,e,k]:=l;calc#v[F,m,b,_,a,R,Ox e,λv c o s i r=>?_];show#v[d,r,k _ _ s i]
def zK(f:FT):FT:=λc=>match f c with
 |some (b,a)=>U (!b,a)
 |none=>Z
#print "zu γ;Ah δ" in def ϑ0(f g:FT):FT:=λb=>match f b with
 |some (ϑ1,a)=>g a
 |r=>r
def VI(h:PT X a (m? G f)):PT X (.UnaryOp .Not a pos) (m? G (zK f)):=PT.cx (Y5 h) λu H Q o=>by
 let#v[F,i,j,d,q,R,e,k]:=o;delta zK at e;cases c:f i with
 |none=>erw[c]at e;cases e
 |some p=>let#v[b,r]:=p;erw[c]at e;ext e;show#v[F,i,j,b,_,R,c,λl t s m=>k _ _ s m]
def ZQ:∀m H Q,m? G (zu f g) m H Q->tAnd (m? G f) (m? G g) m H Q:=λm H Q t=>by
 let#v[F,j,o,d,l,R,e,k]:=t;delta zu at e;cases c:f j with
 |none=>erw[c]at e;cases e
 |some p=>
  let#v[b,h]:=p;cases b with
  |true=>erw[c]at e;show#v[F,j,o,γ,h,R,c,λa q s i=>Iw #v[F,h,a,d,l,i,e,λw r u R2=>k _ _ (s.t u) R2]]
  |false=>erw[c]at e;ext e;show#v[F,j,o,δ,_,R,c,λa q s i=>Iv (k _ _ s i)]
def adC:∀m H Q,m? G (Ah f g) m H Q->tOr (m? G f) (m? G g) m H Q:=λm H Q t=>by
 let#v[F,j,o,d,l,R,e,k]:=t;delta Ah at e;cases c:f j with
 |none=>erw[c]at e;cases e
 |some p=>
  let#v[b,h]:=p;cases b with
  |false=>erw[c]at e;show#v[F,j,o,δ,h,R,c,λa q s i=>Iv #v[F,h,a,d,l,i,e,λw r u R2=>k _ _ (s.t u) R2]]
  |true=>erw[c]at e;ext e;show#v[F,j,o,γ,_,R,c,λa q s i=>Iw (k _ _ s i)]
#print "RF And Vb;VJ Or Y3" in def ϑ0(h:PT X a (m? G f)):PW X (.BoolOp .ϑ1 [a] pos) (m? G f):=ϑ2 h
#print "VL And zu Y4 ZQ;RG Or Ah ac1 adC" in def ϑ0{eu:List Expr}(c:PT X a (m? G f))(d:PW X (.BoolOp .ϑ1 (b::eu) pos) (m? G g)):PW X (.BoolOp .ϑ1 (a::b::eu) pos) (m? G (ϑ2 f g)):=PW.cx (ϑ3 c d) ϑ4
#print "xB γ δ;cOr δ γ" in def ϑ0(f g:FE):FE:=λb=>match f b with
 |some (.bl ϑ1,a)=>g a
 |some (.bl ϑ2,a)=>U (.bl ϑ2,a)
 |_=>Z
def Gq(f:FE):FE:=λc=>match f c with
 |some (.bl b,a)=>U (.bl !b,a)
 |_=>Z
def Y?(c:FT)(f g:FE):FE:=λb=>match c b with
 |some (γ,a)=>f a
 |some (δ,a)=>g a
 |none=>Z
def ZR{op}(h:PE X a (tF G f)):PE X (.BoolOp op [a] pos) (tF G f):=Y6 h
def Lk{f:FE}{ρ:aU}:(∃a,f ρ=U (.bl γ,a))\/(∃a,f ρ=U (.bl δ,a))\/(∀b a,f ρ≠U (.bl b,a)):=by
 by_cases c:∃a,f ρ=U (.bl γ,a)
 .show .inl c
 by_cases d:∃a,f ρ=U (.bl δ,a)
 .show .inr (.inl d)
 calc .inr (.inr λb a z=>?_);cases b with
 |true=>show c #v[a,z]
 |false=>show d #v[a,z]
#print h
#print "P8 xB;RH cOr" in def ϑ0(h:∀b a,f ρ≠U (.bl b,a)):ϑ1 f g ρ=Z:=by
 delta ϑ1;split
 .rename_i e;show au e (h _ _)
 .rename_i e;show au e (h _ _)
 .rfl
#print f
def ZU{eu:List Expr}(u:PE X a (tF G f))(w:PE X (.BoolOp .And (b::eu) pos) (tF G g)):PE X (.BoolOp .And (a::b::eu) pos) (tF G (xB f g)):=PE.cx (Y7 u w) λC H Q x=>by
 let#v[F,i,p,d,o,R,e,k]:=x;rcases Lk (f:=f) (ρ:=i)with ⟨h,c⟩|⟨h,c⟩|c
 .have m:=by delta xB at e;erw[c]at e;show e
  calc#v[F,i,p,_,h,R,c,λv q j s l r=>?_];calc#v[γ,r,?_];show Iw #v[F,h,q,d,o,l,m,λv B t A R2 z=>k _ _ _ (s.t A) R2 z]
 .have m:=by delta xB at e;erw[c]at e;show e
  ext m;calc#v[F,i,p,_,_,R,c,λv q j s l r=>?_];have y:=r;calc#v[δ,y,?_];show Iv (k _ _ _ s l (ya δ))
 .rw[P8 c]at e;ext e
def adD{eu:List Expr}(u:PE X a (tF G f))(w:PE X (.BoolOp .Or (b::eu) pos) (tF G g)):PE X (.BoolOp .Or (a::b::eu) pos) (tF G (cOr f g)):=PE.cx (ac4 u w) λB H Q x=>by
 let#v[F,i,p,d,o,R,e,k]:=x;rcases Lk (f:=f) (ρ:=i)with ⟨h,c⟩|⟨h,c⟩|c
 .have m:=by delta cOr at e;erw[c]at e;show e
  ext m;calc#v[F,i,p,_,_,R,c,λv q j s l r=>?_];calc#v[γ,r,?_];show Iw (k _ _ _ s l (ya γ))
 .have m:=by delta cOr at e;erw[c]at e;show e
  calc#v[F,i,p,_,h,R,c,λv q j s l r=>?_];calc#v[δ,r,?_];show Iv #v[F,h,q,d,o,l,m,λv A t z R2 y=>k _ _ _ (s.t z) R2 y]
 .rw[RH c]at e;ext e
#print h
def ZZ(l:PE X a (tF G f)):PE X (.UnaryOp .Not a pos) (tF G (Gq f)):=PE.cx (Y8 l) λu H Q m=>by
 let#v[F,o,c,d,p,R,e,k]:=m;delta Gq at e;split at e
 .rename_i b q j;ext e;calc#v[F,o,c,_,_,R,j,λv t h s i r=>?_];show#v[b,r,k _ _ _ s i (ya _)]
 .ext e
#print f
def adE(B:PT X c (m? G h))(z:PE X a (tF G f))(A:PE X b (tF G g)):PE X (.IfExp c a b pos) (tF G (Y? h f g)):=PE.cx (QU B z A) λE H Q C=>by
 let#v[F,u,w,d,j,R,e,k]:=C;delta Y? at e;cases l:h u with
 |none=>erw[l]at e;cases e
 |some p=>
  let#v[b,i]:=p;calc#v[F,u,w,b,i,R,l,λr x s t=>?_];cases b with
  |true=>erw[l]at e;show Iw #v[F,i,r,d,j,t,e,λv y m q R2 o=>k _ _ _ (s.t q) R2 o]
  |false=>erw[l]at e;show Iv #v[F,i,r,d,j,t,e,λv y m q R2 o=>k _ _ _ (s.t q) R2 o]
noncomputable def vG:FA:=λa=>U ([],a)
noncomputable def ab(f:FE) (g:FA):FA:=λe=>match f e with
 |some (d,a)=>match g a with
  |some (c,b)=>U (d::c,b)
  |none=>Z
 |none=>Z
def BB(h:ab f g i=U (j,c)):∃d r a,f i=U (d,a)/\g a=U (r,c)/\j=d::r:=by
 delta ab at h;cases e:f i with
 |none=>rw[e]at h;cases h
 |some p=>
  let#v[x,a]:=p;erw[e]at h;cases b:g a with
  |none=>erw[b]at h;cases h
  |some q=>let#v[y,l]:=q;erw[b]at h;ext h;show#v[x,y,a,J,b,J]
def zl:PA X [] (sh G vG):=PA.cx zd λh H Q a=>by let#v[F,f,c,d,b,R,e,k]:=a;ext e;show k _ _ _ (vw.refl _) R vO
def yz(t:PE X e (tF G f))(w:PA X b (sh G g))(y:aE (e::b) X.a8=(δ,eval e X.a8)::aE b X.a8:=by rfl):PA X (e::b) (sh G (ab f g)):=PA.cx (wQ t w y) λE H Q u=>by let#v[F,A,i,d,c,R,e,k]:=u;let#v[x,r,a,p,q,rfl]:=BB e;show#v[F,A,i,x,a,R,p,λv j l s o z=>#v[F,a,j,r,c,o,q,λC B m h R2 rs=>k _ _ _ (s.t h) R2 (vM (c3.mono h _ _ z) rs)]]
def v8(g:FA):FE:=λc=>match g c with
 |some (b,a)=>if b.length<=1000 then U (.bx b,a)else Z
 |none=>Z
def vL(g:FA):FA:=λc=>match g c with
 |some (b,a)=>if b.length<=1000 then U (b,a)else Z
 |none=>Z
#print h
def Z0{q}(h:PA X l (sh G g)):PE X (.Tuple l q pos) (tF G (v8 g)):=PE.cx (Q9 h) λy H Q m=>by
 let#v[F,f,i,d,r,R,e,k]:=m;delta v8 at e;cases b:g f with
 |none=>erw[b]at e;cases e
 |some p=>
  let#v[w,t]:=p;erw[b]at e;split at e
  .rename_i o;ext e;calc#v[F,f,i,_,_,R,b,λx u j s a rs=>#v[by rw[<-vv rs];show ze o,λp c=>?_]];show k _ _ _ (s.t (vE (a.ey c) _)) (a.J? c _) (zM (fh.of vp) (a9.mono (vE (a.ey c) _) _ _ rs))
  .ext e
def VM(h:PA X l (sh G g)):PE X (.List l pos) (y0 G (vL g)):=PE.cx (Rb h) λx H Q m=>by
 let#v[F,f,i,d,q,R,e,k]:=m;delta vL at e;cases c:g f with
 |none=>erw[c]at e;cases e
 |some p=>
  let#v[u,r]:=p;erw[c]at e;split at e
  .rename_i o;ext e;calc#v[F,f,i,_,_,R,c,λw t j s a rs=>#v[by rw[<-vv rs];show ze o,λp b=>?_]];show k _ _ _ _ s (a.gi b _) vp (a.ey b) (a.gr b) (a.apart b) rs
  .ext e
#print f
def cL(g:FA):FE:=λc=>match g c with
 |some (b,a)=>U (.ax b,a)
 |none=>Z
def VN(h:cL g c=U (d,b)):∃a,g c=U (a,b)/\d=.ax a:=by
 delta cL at h;cases e:g c with
 |none=>erw[e]at h;cases h
 |some p=>let#v[a,f]:=p;erw[e]at h;ext h;show#v[a,J,J]
def tN_F:∀c H Q,tF G (cL g) c H Q->y0 G g c H Q:=λc H Q q=>by let#v[F,t,f,d,b,R,e,k]:=q;let#v[l,m,rfl]:=VN e;calc#v[F,t,f,l,b,R,m,λp w u h s i r a o j rs=>?_];show k _ _ _ (s.t (vE a _)) (i.l? r a o j) (AC vp (a9.mono (vE a _) _ _ rs))
def Z1(h:PE X e (y0 G g)):PE X e (tF G (cL g)):=PE.cx h tN_F
end
inductive mn where
 |nx (ρ:aU)|bk (ρ:aU)|ct (ρ:aU)
 |rt (d:D) (ρ:aU)
 |rn (ds:aV) (ρ:aU)
abbrev FS:=aU->Option mn
def Oz(G:Bg)(F:Fr)(f:Hp)(E:zE):mn->Prop
 |.nx c=>∀b a e,vw f a->bc G F b c a e->E.nx b e
 |.bk c=>∀b a e,vw f a->bc G F b c a e->E.bk b e
 |.ct c=>∀b a e,vw f a->bc G F b c a e->E.ct b e
 |.rt d c=>∀v b a e,vw f a->bc G F b c a e->c3 G a d v->E.rt v e
 |.rn i c=>∀p h b a e,vw f a->bc G F b c a e->e p=U (.ax h)->a p=Z->F.B p=Z->t7 b c p->a9 G a i h->E.rt (.ref p) e
inductive ItFS(G:Bg) (f:FS) (E:zE) (σ:St) (H:Hp):Prop
 |i (F ρ H0 o) (h0:bc G F σ ρ H0 H) (h1:f ρ=U o) (h2:Oz G F H0 E o) (h3:(∀p,E.rt p=E.rt p)):ItFS G f E σ H
def kb(G:Bg)(f:FS):TS:=λE a H=>ItFS G f E a H
def Oz.mu(h:Oz G F i E o)(s:vw i j):Oz G F j E o:=by
 cases o with
 |nx f=>show λb a c e R=>h b a c (s.t e) R
 |bk f=>show λb a c e R=>h b a c (s.t e) R
 |ct f=>show λb a c e R=>h b a c (s.t e) R
 |rt d f=>show λv b a c e R=>h v b a c (s.t e) R
 |rn m f=>show λp l b a c e R=>h p l b a c (s.t e) R
#print "PS;kv" in def ϑ0.cx(h:ϑ0 X e t)(w:∀E b H,d E b H->t E b H):ϑ0 X e d:=λa s b H D I c=>h a s b H D I (w _ _ _ c)
def vJ:FS:=λa=>U (.nx a)
noncomputable def a0(f g:FS):FS:=λb=>match f b with
 |some (.nx a)=>g a
 |r=>r
section
def Z2(h:kb G vJ E a H):E.nx a H:=by let#v[F,c,b,o,R,e,k,_]:=h;ext e;show k _ _ _ (vw.refl _) R
def VO:kv X [] (kb G vJ):=kv.cx N9 λE a H h=>Z2 h
def RI{st:Stmt}{eu:List Stmt}(p:PS X st (kb G f))(q:kv X eu (kb G g)):kv X (st::eu) (kb G (a0 f g)):=kv.cx (A9 p q) λE w H h=>by
 let#v[F,i,j,o,R,e,k,c]:=h;delta a0 at e;cases a:f i with
 |none=>erw[a]at e;cases e
 |some r=>
  cases r with
  |nx b=>erw[a]at e;show#v[F,i,j,_,R,a,λt l u s m=>#v[F,b,l,o,m,e,k.mu s,c],c]
  |bk b=>erw[a]at e;ext e;show#v[F,i,j,_,R,a,k,c]
  |ct b=>erw[a]at e;ext e;show#v[F,i,j,_,R,a,k,c]
  |rt d b=>erw[a]at e;ext e;show#v[F,i,j,_,R,a,k,c]
  |rn d b=>erw[a]at e;ext e;show#v[F,i,j,_,R,a,k,c]
def VP{st:Stmt}(a:PS X st (kb G f)):kv X [st] (kb G f):=Ed a
noncomputable def vz(f:FE):FS:=λb=>match f b with
 |some (d,a)=>U (.rt d a)
 |none=>Z
noncomputable def xC(f:FA):FS:=λb=>match f b with
 |some (d,a)=>U (.rn d a)
 |none=>Z
def vT{b:Type}{f:aU->Option (b×aU)}{ρ:aU}:f ρ=Z\/∃d a,f ρ=U (d,a):=by
 cases e:f ρ with
 |none=>show .inl J
 |some p=>show .inr #v[p.1,p.2,J]
def VQ(h:PE X e (tF G f)):PS X (.Return (U e) pos) (kb G (vz f)):=PS.cx (MH h) λE t H m=>by
 let#v[F,b,i,o,R,e,k,q]:=m;delta vz at e;rcases vT (f:=f) (ρ:=b)with a|⟨d,c,a⟩<;>erw[a]at e
 .ext e
 .ext e;show#v[F,b,i,d,c,R,a,λv j p s l r=>k _ _ _ _ s l r]
def RJ(h:PE X e (y0 G f)):PS X (.Return (U e) pos) (kb G (xC f)):=PS.cx (MH h) λE A H w=>by
 let#v[F,b,i,o,R,e,k,y]:=w;delta xC at e;rcases vT (f:=f) (ρ:=b)with a|⟨d,c,a⟩<;>erw[a]at e
 .ext e
 .ext e;show#v[F,b,i,d,c,R,a,λp z j x s l m q r t u=>k _ _ _ _ _ s l m q r t u]
noncomputable def vY(f:FE):FS:=λb=>match f b with
 |some (_,a)=>U (.nx a)
 |none=>Z
def RK{pos:Pos}(h:PE X e (tF G f))(p:eL e Z pos.line X.a8=pure δ:=by rfl):PS X (.Expr e pos) (kb G (vY f)):=PS.cx (Oa h p) λE u H m=>by
 let#v[F,b,i,o,R,e,k,t]:=m;delta vY at e;rcases vT (f:=f) (ρ:=b)with a|⟨d,c,a⟩<;>erw[a]at e
 .ext e
 .ext e;show#v[F,b,i,d,c,R,a,λv j q s l r=>k _ _ _ s l]
noncomputable def fx(c:FT) (f g:FS):FS:=λb=>match c b with
 |some (γ,a)=>f a
 |some (δ,a)=>g a
 |none=>Z
def Z3(w:PT X c (m? G h))(t:kv X a (kb G f))(u:kv X b (kb G g)):PS X (.If c a b pos) (kb G (fx h f g)):=PS.cx (X4 w t u) λE z H x=>by
 let#v[F,m,r,o,R,e,k,q]:=x;delta fx at e;rcases vT (f:=h) (ρ:=m)with l|⟨d,i,l⟩
 .erw[l]at e;ext e
 .calc#v[F,m,r,d,i,R,l,λj y s p=>?_];cases d with
  |true=>erw[l]at e;show Iw #v[F,i,j,o,p,e,k.mu s,q]
  |false=>erw[l]at e;show Iv #v[F,i,j,o,p,e,k.mu s,q]
abbrev FG:=D->aU->Option aU
inductive ItFG(G:Bg) (n:Nat) (g:FG) (v:V) (σ:St) (H:Hp) (Q:(St->Hp->Prop)):Prop
 |i (F ρ H0 d ρ') (h0:bc G F σ ρ H0 H) (h1:c3 G H0 d v) (h2:g d ρ=U ρ') (h3:∀σ',σ'.drop n=σ.drop n->bc G F σ' ρ' H0 H->Q σ' H):ItFG G n g v σ H Q
def tFG(G:Bg)(n:Nat)(g:FG):TG:=λv a H Q=>ItFG G n g v a H Q
inductive Yi(G:Bg) (n:Nat) (g:aV->aU->Option aU) (vs:bC) (σ:St) (H:Hp) (Q:(St->Hp->Prop)):Prop
 |i (F ρ H0 ds ρ') (h0:bc G F σ ρ H0 H) (h1:a9 G H0 ds vs) (h2:g ds ρ=U ρ') (h3:∀σ',σ'.drop n=σ.drop n->bc G F σ' ρ' H0 H->Q σ' H):Yi G n g vs σ H Q
def RM(G:Bg)(n:Nat)(g:aV->aU->Option aU):TGs:=λa b H Q=>Yi G n g a b H Q
#print "G;r" in def Pϑ0.cx(h:Pϑ0 X e t)(w:∀v b H Q,d v b H Q->t v b H Q):Pϑ0 X e d:=λa s b H x u Q I r c=>h a s b H x u Q I r (w _ _ _ _ c)
def gN(i:Nat):FG:=λd a=>U (a.set i (.q d))
def Ll{a:Type}{l:List a}{i n:Nat}{x:a}(h:i<n):(l.set i x).drop n=l.drop n:=by apply l7;intro j;rw[dG,dG,cc,ai ()]
def RN(n:Nat)(h:PG X c (Ab i))(b:i<n):PG X c (tFG G n (gN i)):=PG.cx h λv m H Q a=>by let#v[F,l,j,d,f,R,r,e,k]:=a;ext e;show k _ (Ll b) (R.V? i r)
def G9:aV->aU->Option aU:=λa b=>match a with
 |[]=>U b
 |_=>Z
def yH(g:FG)(c:aV->aU->Option aU):aV->aU->Option aU:=λb e=>match b with
 |d::r=>match g d e with
  |some a=>c r a
  |none=>Z
 |[]=>Z
def VR(h:Pr X [] gNil):Pr X [] (RM G n G9):=Pr.cx h λv j H Q b=>by
 let#v[F,i,f,a,c,R,r,e,k]:=b;cases a with
 |nil=>ext e;delta a9 at r;show#v[r,k _ J R]
 |cons d a=>ext e
def RO(h:Pr X (e::p) (X5 (tFG G n g) (RM G n q))):Pr X (e::p) (RM G n (yH g q)):=Pr.cx h λv B H Q t=>by
 let#v[F,l,j,c,i,R,r,e,k]:=t;cases c with
 |nil=>cases e
 |cons d c=>
  let#v[z,x,rfl,u,w]:=r;delta yH at e;cases f:g d l with
  |none=>erw[f]at e;cases e
  |some a=>erw[f]at e;show#v[z,x,J,F,l,j,d,a,R,u,f,λA s o=>#v[F,a,j,c,i,o,w,e,λm y b=>k _ (y.t s) b]]
def gT(b:aV->aU->Option aU)(n:Nat):FG:=λd c=>match d with
 |.bx a=>if a.length=n then b a c else Z
 |_=>Z
#print h
def VS(h:PG X (.Tuple j k pos) (Y9 G.K m (RM G n l))):PG X (.Tuple j k pos) (tFG G n (gT l m)):=PG.cx h λv w H Q p=>by
 let#v[F,u,f,d,b,R,r,e,k]:=p;cases d with
 |bx i=>
  delta gT at e;simp only at e;split at e
  .rename_i q;let#v[a,t,rfl,o,c]:=r;show#v[a,t,J,fh.mono R.sub o,by rw[<-vv c];show q,F,u,f,i,b,R,c,e,k]
  .cases e
 |_=>ext e
#print f
def JZ(f:FE)(g:FG):FS:=λc=>match f c with
 |some (d,a)=>match g d a with
  |some b=>U (.nx b)
  |none=>Z
 |none=>Z
def VT{st:Stmt}(h:PS X st (Ee (tF G f) (tFG G n g))):PS X st (kb G (JZ f g)):=PS.cx h λE x H q=>by
 let#v[F,j,m,o,R,e,k,w]:=q;delta JZ at e;rcases vT (f:=f) (ρ:=j)with c|⟨d,a,c⟩<;>erw[c]at e
 .ext e
 .cases i:g d a with
  |none=>erw[i]at e;cases e
  |some l=>erw[i]at e;ext e;show#v[F,j,m,d,a,R,c,λv b u s p r=>#v[F,a,b,d,l,p,r,i,λt z R2=>k _ _ _ s R2]]
def vR(i:Nat)(f:FE):FS:=λb=>match f b with
 |some (d,a)=>U (.nx (a.set i (.q d)))
 |none=>Z
def OA{st:Stmt}(h:PS X st (Ee (tF G f) (Ab i))):PS X st (kb G (vR i f)):=PS.cx h λE u H p=>by
 let#v[F,b,j,o,R,e,k,t]:=p;delta vR at e;rcases vT (f:=f) (ρ:=b)with a|⟨d,c,a⟩<;>erw[a]at e
 .ext e
 .ext e;show#v[F,b,j,d,c,R,a,λv l q s m r=>k _ _ _ s (m.V? i r)]
def yc(i:Nat)(f:FA):FS:=λb=>match f b with
 |some (d,a)=>U (.nx (a.set i (.J d)))
 |none=>Z
def RP{st:Stmt}(h:PS X st (Ee (y0 G f) (Ab i))):PS X st (kb G (yc i f)):=PS.cx h λE B H x=>by
 let#v[F,b,j,o,R,e,k,z]:=x;delta yc at e;rcases vT (f:=f) (ρ:=b)with a|⟨d,c,a⟩<;>erw[a]at e
 .ext e
 .ext e;show#v[F,b,j,d,c,R,a,λp A l y s m q r t u w=>k _ _ _ s (m.setLs i q r t u w)]
def GX(n:Nat)(a:aV):aU:=a.map Sl.q++fR (n - a.length) .un
def e?(b n:Nat)(f:FS):aV->Option D:=λa=>if a.length=b then match f (GX n a)with
 |some (.rt d _)=>U d
 |some (.rn a _)=>U (.ax a)
 |some (.nx _)=>U .I
 |_=>Z
 else Z
def wh(b n:Nat)(f:FS):aV->Option aV:=λa=>if a.length=b then match f (GX n a)with
 |some (.rn a _)=>U a
 |_=>Z
 else Z
inductive IspF(G:Bg) (g:aV->Option D) (vs:bC) (H:Hp) (Q:VK) (_x3:XK):Prop
 |i (H0 ds d) (h0:vw H0 H) (h1:a9 G H0 ds vs) (h2:g ds=U d) (h3:∀v H0' H',vw H0 H0'->vw H0' H'->vw H H'->(∀b o,H0' b=U o->H0 b=U o\/H b=Z)->c3 G H0' d v->Q v H'):IspF G g vs H Q _x3
def gj(G:Bg)(g:aV->Option D):Sp:=λa H Q _x3=>IspF G g a H Q _x3
inductive IspN(G:Bg) (g:aV->Option aV) (vs:bC) (H:Hp) (Q:VK) (_x3:XK):Prop
 |i (H0 ds d) (h0:vw H0 H) (h1:a9 G H0 ds vs) (h2:g ds=U d) (h3:∀p xs H0' H',vw H0 H0'->vw H0' H'->vw H H'->(∀b o,H0' b=U o->H0 b=U o\/H b=Z)->H p=Z->H' p=U (.ax xs)->H0' p=Z->a9 G H0' d xs->Q (.ref p) H'):IspN G g vs H Q _x3
def tp(G:Bg)(g:aV->Option aV):Sp:=λa H Q _x3=>IspN G g a H Q _x3
def GF{n:Nat}{b:aV}{i:Nat}{s:Sl}(h:(GX n b)[i]?=U s):s=.un\/∃d,b[i]?=U d/\s=.q d:=by
 delta GX at h;by_cases a:i<b.length
 .rw[cU (by exists a),br,aI a]at h;ext h;show .inr #v[_,aI a,J]
 .rw[cR (by exists a),hX]at h;split at h
  .ext h;show .inl J
  .ext h
def yp{N:aD}{a:bC}{i:Nat}{v:V}(h:a[i]?=U v):((L2.start N a)[i]?).join=U v:=by delta L2.start;have b:=(bZ.1 h).1;rw[cU (by exists b),br,h];rfl
def Jd{N:aD}(s:vw H0 H)(r:a9 G H0 ds vs)(m:vs.length<=N.length):bc G #v[H0,H,[]] (L2.start N vs) (GX N.length ds) H0 H where
 sub:=s
 g0:=vw.refl _
 keep:=λb o e z=>e
 fr:=λb o e=>.inl e
 am:=λa h=>by ext h
 len:=by delta L2.start GX;rw[aH,aH,ah,ah,cP,cP,vv r]
 sl:=λi t e=>by
  rcases GF e with rfl|⟨d,c,rfl⟩
  .trivial
  .let#v[v,f,l]:=xm r c;show#v[v,yp f,l]
 ap:=λi j t u a z e z ht=>by rcases GF e with rfl|⟨d,_,rfl⟩<;>ext ht
#print h
def Lm(h:e? j n f b=U d):b.length=j/\((∃a,f (GX n b)=U (.rt d a))\/(∃c a,f (GX n b)=U (.rn c a)/\d=.ax c)\/∃a,f (GX n b)=U (.nx a)/\d=.I):=by
 delta e? at h;split at h
 .rename_i i;calc#v[i,?_];split at h
  .rename_i e;ext h;show .inl #v[_,e]
  .rename_i e;ext h;show .inr (.inl #v[_,_,e,J])
  .rename_i e;ext h;show .inr (.inr #v[_,e,J])
  .ext h
 .ext h
def Ln(h:wh c n f a=U d):a.length=c/\∃i,f (GX n a)=U (.rn d i):=by
 delta wh at h;split at h
 .rename_i b;calc#v[b,?_];split at h
  .rename_i e;ext h;show#v[_,e]
  .ext h
 .ext h
end
#print f
def VU{N:aD}(hN:I<=N.length)(h:gj G (e? I N.length f) O H Q E):kb G f { nx:=λn c=>Q .I c,rt:=Q } (L2.start N O) H:=by
 let#v[l,P,d,s,r,e,k]:=h;let#v[C,A]:=Lm e;clear e;have R:=Jd s r (by rw[<-vv r,C];show hN);have fin:∀{j:St} {x:aU} {a c:Hp},bc G #v[l,H,[]] j x a c->vw H c/\vw a c/\∀b o,a b=U o->l b=U o\/H b=Z:=λi=>#v[λb o e=>i.keep b o e (by simp),i.sub,i.fr];rcases A with ⟨y,e⟩|⟨S,y,e,rfl⟩|⟨y,e,rfl⟩
 .calc#v[_,_,l,_,R,e,λv j a c u i M=>?_,λn=>J];let#v[m,q,t]:=fin i;show k v a c u q m t M
 .calc#v[_,_,l,_,R,e,λp T j a c u i F w B z rs=>?_,λn=>J];have R2:=i.l? F w B z;let#v[m,q,t]:=fin R2;show k _ _ c (u.t (vE w _)) q m t (AC vp (a9.mono (vE w _) _ _ rs))
 .calc#v[_,_,l,_,R,e,λj a c u i=>?_,λn=>J];let#v[m,q,t]:=fin i;show k _ a c u q m t BA
def VW{N:aD}(hN:u<=N.length)(h:tp G (wh u N.length f) x H Q E):kb G f { nx:=λv a=>Q .I a,rt:=Q } (L2.start N x) H:=by let#v[j,B,d,s,r,e,k]:=h;let#v[q,C,e]:=Ln e;have R:=Jd s r (by rw[<-vv r,q];show hN);calc#v[_,_,j,_,R,e,λp y z c a w i t l m A rs=>?_,λv=>J];show k p y c a w i.sub (λb o e=>i.keep b o e (by simp)) i.fr m t l rs
#print "K gj;L tp" in def adϑ0(c:∀a d,g a=U d->a.length=f):∀b H Q E,ϑ1 G g b H Q E->b.length=f:=λb H Q E h=>by let#v[i,a,d,_,r,e,_]:=h;rw[<-vv r];show c _ _ e
#print "X e? m;Y wh n" in def Vϑ0:∀a d,ϑ1 b n f a=U d->a.length=b:=λz z h=>(Lϑ2 h).1
def Fc{c:Type}(g:aV->Option c)(a:FA):aU->Option (c×aU):=λf=>match a f with
 |some (e,b)=>match g e with
  |some d=>U (d,b)
  |none=>Z
 |none=>Z
abbrev vo(g:aV->Option D)(a:FA):FE:=Fc g a
abbrev wb(g:aV->Option aV)(a:FA):FA:=Fc g a
def DT{j:Type}{g:aV->Option j}{a:FA}{ρ c:aU}{d:j}(h:Fc g a ρ=U (d,c)):∃b,a ρ=U (b,c)/\g b=U d:=by
 delta Fc at h;rcases vT (f:=a) (ρ:=ρ)with e|⟨b,l,e⟩<;>erw[e]at h
 .ext h
 .cases i:g b with
  |none=>erw[i]at h;cases h
  |some x=>erw[i]at h;ext h;show#v[b,e,i]
section
def VZ(hd:∀H,a9 G H dds dvs):∀h H Q,tF G (vo (λb=>g (b++dds)) a) h H Q->Cq (gj G g) dvs E (sh G a) h H Q:=λh H Q t=>by let#v[F,y,l,d,f,R,e,k]:=t;let#v[b,q,r]:=DT e;calc#v[F,y,l,b,f,R,q,λz m o s i rs=>#v[m,b++dds,d,i.sub,xl rs (hd _),r,λv p c j w x fr u=>?_]];show k v p c (s.t j) (i.gk x j w fr) u
def V4(hd:∀H,a9 G H dds dvs):∀i H Q,y0 G (wb (λc=>g (c++dds)) a) i H Q->Cq (tp G g) dvs E (sh G a) i H Q:=λi H Q x=>by let#v[F,I,m,d,h,R,e,k]:=x;let#v[c,t,u]:=DT e;calc#v[F,I,m,c,h,R,t,λM o q s b rs=>#v[o,c++dds,d,b.sub,xl rs (hd _),u,λp C r f l A B fr j y w z=>?_]];show k p C r f (s.t l) (b.gk B l A fr) y w (b.gr j) (b.apart j) z
end
section
#print "V5 gj tF vo Z;RQ tp y0 wb 4" in def ϑ0(hd:∀H,a9 G H dds dvs)(h:PE X e (Cq (ϑ1 G g) dvs E (sh G a))):PE X e (ϑ2 G (ϑ3 (λb=>g (b++dds)) a)):=PE.cx h (Vϑ4 hd)
def P9(h:PE X e (Cq (tp G g) [] E JM)):PE X e (y0 G (wb g vG)):=PE.cx h λA H Q o=>by let#v[F,z,f,d,x,R,e,k]:=o;let#v[y,j,l]:=DT e;ext j;show#v[f,[],d,R.sub,vO,l,λp w i a c t u fr b q m r=>k p w i a c (R.gk u c t fr) q m (R.gr b) (R.apart b) r]
def Qa:aD->aV->Str->Option D
 |n::b,d::a,f=>if n=f then U d else Qa b a f
 |_,_,_=>Z
theorem Je:∀{h:aD} {b:aV} {a:bC} {f:Str} {d:D},a9 G H b a->Qa h b f=U d->∃v,(h.zip a).lookup f=U v/\c3 G H d v
 |[],b,a,f,d,r,e=>by simp[Qa]at e
 |n::h,[],a,f,d,r,e=>by simp[Qa]at e
 |n::h,p::b,a,f,d,r,e=>by
  let#v[v,q,rfl,l,m]:=r;delta Qa at e;by_cases c:n=f
  .rw[af c]at e;ext e;subst c;show#v[v,by simp[dQ],l]
  .rw[ai c]at e;let#v[w,i,j]:=Je m e;calc#v[w,?_,j];have o:=beq_eq_false_iff_ne.2 λz=>c z.symm;erw[eY,dQ,o];show i
def vP(ok:Nat->Bool)(f:Str):D->Option D
 |.obj c b a=>if ok c=γ then Qa b a f else Z
 |_=>Z
#print h
def RR(A:PE X e (tF G t))(j:∀c,ok c=γ->P2 X.K (G.ca c)/\AR X.K (G.ca c) f)(z:fo e f X.a8 (eval e X.a8)=eval e X.a8:=by rfl):PE X (.Attribute e f pos) (tF G (c1 (vP ok f) t)):=PE.cx (Zm A z) λT H Q B=>by
 let#v[F,I,m,d,h,R,e,k]:=B;let#v[x,q,b]:=GB e;cases x with
 |obj c P N=>
  delta vP at b;simp only at b;split at b
  .rename_i l;calc#v[F,I,m,_,h,R,q,λv M o s i r=>?_];let#v[a,p,S,rfl,u,O,y]:=r;let#v[w,C,E]:=Je y b;show#v[a,_,p,_,w,J,i.sub _ _ u,(j c l).1,(j c l).2,C,k _ _ _ s i E]
  .cases b
 |_=>ext b
#print f
def MOk(X:Cx)(C:Addr)(m:Str)(d:Sp)(dvs:bC)(E:XK):Prop:=∃(k:Nat) (f:Addr) (b:cy) (c:aD) (a:List aa),P2 X.K C/\Meth X.K C m f/\yS X.prog X.w X.K X.mg X.a7 yy k f b c d/\xg k X.A/\km X.K b c a/\df dvs a/\qi yy X E
def vZ(g:Nat->Option (aV->Option D))(m:Str)(f:FE)(a:FA):FE:=λo=>match f o with
 |some (.obj c i j,b)=>match g c with
  |some h=>if i.contains m=γ then Z else match a b with
   |some (l,e)=>match h (.obj c i j::l)with
    |some d=>U (d,e)
    |none=>Z
   |none=>Z
  |none=>Z
 |_=>Z
#print h
def He(h:vZ g m f a ρ=U (d,t)):
  ∃c e i b l j,f ρ=U (.obj c e i,b)/\g c=U l/\e.contains m=δ/\a b=U (j,t)/\l (.obj c e i::j)=U d:=by
 delta vZ at h;split at h
 .rename_i c e i b u;cases o:g c with
  |none=>erw[o]at h;cases h
  |some l=>
   erw[o]at h;cases p:e.contains m with
   |true=>erw[p,if_true]at h;cases h
   |false=>
    erw[p,gm,if_false]at h;rcases vT (f:=a) (ρ:=b)with q|⟨j,w,q⟩<;>erw[q]at h
    .ext h
    .cases r:l (.obj c e i::j)with
     |none=>erw[r]at h;cases h
     |some x=>erw[r]at h;ext h;show#v[c,e,i,b,l,j,u,o,p,q,r]
 .ext h
#print f
theorem DU:∀{a:aD} {b:bC},a.contains m=δ->(a.zip b).lookup m=Z
 |[],b,h=>rfl
 |n::a,[],h=>rfl
 |n::a,x::b,h=>by rw[pX,lM]at h;erw[eY,dQ,h.1];show DU h.2
def RS(T:Addr->Sp->Prop)(hT:∀C d,T C d->MOk X C m d dvs E)(S:PE X o ta)(P:PA X (e::i) t)
  (hst:aE (e::i) X.a8=(δ,eval e X.a8)::aE i X.a8:=by rfl) (hpl:(bM pos (aE i X.a8)).any (·.1)=δ:=by rfl)
  (w:eval (.Call (.Attribute o m apos) (e::i) [] pos) X.a8=(do
   let M<-eval o X.a8
   standAt apos.atName
   let (f,first)<-holding [M] (getMethod M m pl)
   callWith pos f first (bM pos (aE (e::i) X.a8)) (backToKw pos (eI [] X.a8))):=by rfl):
  PE X (.Call (.Attribute o m apos) (e::i) [] pos) (λj H Q=>ta j H λx p=>∃a C B fs d,x=.ref a/\p a=U (.l' C B fs)/\T C d/\fs.lookup m=Z/\t j p λvs y=>d (x::(vs++dvs)) y Q E):=by
 intro b s j H Q I h;calc qF (fb (S b s j H _ I h) λu s1 zz=>?_) w;let#v[x,p,z,rx,a,C,B,fs,d,O,N,w,l,q]:=zz;let#v[k,f,fd,ps,ds,c,G,F,W,R,hd,Y]:=hT C d w;subst O;obtain rfl:u=Value.ref a:=rx;calc GW z N c G l ?_;calc m8 I.ok.Dv.kin G.kp (fb (P pos b s1 j p _ z q) λus s2 #v[vs,y,A,r,q2]=>#v[A.n?,?_]) hst hpl;show JN (vs:=.ref a::vs) F W R hd Y A (.cons J r) q2
def Qb(T:Addr->Sp->Prop)(hT:∀C b,T C b->MOk X C m b dvs E)(B:PE X o O)
  (j:eval (.Call (.Attribute o m apos) [] [] pos) X.a8=(do
   let w<-eval o X.a8
   standAt apos.atName
   let (f,first)<-holding [w] (getMethod w m pl)
   callWith pos f first (bM pos (aE [] X.a8)) (backToKw pos (eI [] X.a8))):=by rfl):
  PE X (.Call (.Attribute o m apos) [] [] pos) (λp H Q=>O p H λx e=>∃a C r fs b,x=.ref a/\e a=U (.l' C r fs)/\T C b/\fs.lookup m=Z/\b (x::dvs) e Q E):=by
 intro d s p H Q I h;calc qF (fb (B d s p H _ I h) λu W zz=>?_) j;let#v[x,e,i,N,a,C,r,fs,b,z,y,j,l,q]:=zz;let#v[k,f,R,S,P,c,t,F,G,A,hd,M]:=hT C b j;subst z;obtain rfl:u=Value.ref a:=N;calc GW i y c t l ?_;show mT i.n? t.kp (JN (vs:=[.ref a]) F G A hd M i (.cons J .nil) q)
def MT(G:Bg)(g:Nat->Option (aV->Option D)):Addr->Sp->Prop:=λC a=>∃c h,g c=U h/\C=G.ca c/\a=gj G h
def V6(h:PE X (.Call (.Attribute o m apos) (e::es) [] pos) (λz H Q=>tF G f z H λx j=>∃b C u fs I,x=.ref b/\j b=U (.l' C u fs)/\MT G g C I/\fs.lookup m=Z/\sh G a z j λvs p=>I (x::(vs++[])) p Q E)):
  PE X (.Call (.Attribute o m apos) (e::es) [] pos) (tF G (vZ g m f a)):=PE.cx h λz H Q l=>by
 let#v[F,ρ,N,d,y,R,e,k]:=l;let#v[c,ns,ds,i,l,w,S,T,W,Y,e5]:=He e;calc#v[F,ρ,N,_,i,R,S,λv j O s A r=>?_];have r0:=r;let#v[b,u,xs,rfl,h1,h2,h3]:=r;calc#v[b,_,u,_,_,J,A.sub _ _ h1,#v[c,l,T,J,J],DU W,F,i,j,w,y,A,Y,λys p q B R2 rs=>?_];change gj G l (V.ref b::(ys++[])) q Q E;rw[bF];show#v[p,_,d,R2.sub,vM (c3.mono B _ _ r0) rs,e5,λv P t M t2 t3 fr rv=>k v P t (s.t (B.t M)) (R2.gk t3 M t2 fr) rv]
def RT(h:PE X (.Call (.Attribute o m apos) [] [] pos) (λu H Q=>tF G f u H λx a=>∃b C l fs q,x=.ref b/\a b=U (.l' C l fs)/\MT G g C q/\fs.lookup m=Z/\q (x::[]) a Q E)):
  PE X (.Call (.Attribute o m apos) [] [] pos) (tF G (vZ g m f vG)):=PE.cx h λu H Q p=>by
 let#v[F,ρ,w,d,ρ',R,e,k]:=p;let#v[c,ns,ds,ρ1,p,O,A,B,I,M,N]:=He e;ext M;calc#v[F,ρ,w,_,_,R,A,λv a y s j r=>?_];have S:=r;let#v[b,l,xs,rfl,P,h2,h3]:=r;calc#v[b,_,l,_,_,J,j.sub _ _ P,#v[c,p,B,J,J],DU I,?_];show#v[a,_,d,j.sub,vM S vO,N,λv z i t W Y fr T=>k v z i (s.t t) (j.gk Y t W fr) T]
inductive IspI(G:Bg) (c:Nat) (g:aV->Option (aD×aV)) (vs:bC) (H:Hp) (Q:VK) (_x3:XK):Prop
 |i (p dx:Addr) (us:bC) (H0:Hp) (ds:aV) (ns:aD) (es:aV) (h0:vs=.ref p::us) (h1:H p=U (.l' (G.ca c) dx [])) (h2:H0 p=Z) (h3:vw H0 H) (h4:a9 G H0 ds us) (h5:g ds=U (ns,es)) (h6:∀ys dx' H0' H',vw H0 H0'->vw H0' H'->(∀b o,H b=U o->b≠p->H' b=U o)->(∀b o,H0' b=U o->H0 b=U o\/H b=Z)->H0' p=Z->H' p=U (.l' (G.ca c) dx' (ns.zip ys))->ns.length=ys.length->a9 G H0' es ys->Q .I H'):IspI G c g vs H Q _x3
def spI(G:Bg)(c:Nat)(g:aV->Option (aD×aV)):Sp:=λa H Q _x3=>IspI G c g a H Q _x3
def v7(c:Nat)(g:aV->Option (aD×aV))(a:FA):FE:=λh=>match a h with
 |some (d,b)=>match g d with
  |some (f,e)=>U (.obj c f e,b)
  |none=>Z
 |none=>Z
def V7(hd:∀H,a9 G H dds dvs)(h:PE X e (X8 (G.ca c) (spI G c g) dvs E (sh G a))):PE X e (tF G (v7 c (λm=>g (m++dds)) a)):=PE.cx h λσ H Q hh=>by
 let#v[F,N,T,d,O,R,e,k]:=hh;delta v7 at e;rcases vT (f:=a) (ρ:=N)with y|⟨m,ρ1,y⟩<;>erw[y]at e
 .ext e
 .cases A:g (m++dds)with
  |none=>erw[A]at e;cases e
  |some q=>
   let#v[ns,es]:=q;erw[A]at e;ext e;calc#v[F,N,T,m,O,R,y,λxs P j s l rs x r p hdx ne=>?_];have I:(el j r (.gy x)) x=Z:=by rw[vt (λz=>ne z.symm)];show p
   have M:vw j (el (el j r (.gy x)) x (.l' (G.ca c) r [])):=(vE hdx _).t (vE I _);calc#v[x,r,_,P,m++dds,ns,es,J,vp,l.ey p,l.sub.t M,xl rs (hd _),A,λys w W Y S t2 t3 fr C hp hl ry=>#v[J,?_]];have t4:=λb o e=>t3 b o (M b o e) (xZ e p);have B:∀b o,W b=U o->P b=U o\/j b=Z:=λb o e=>by
    rcases fr b o e with q|q
    .show .inl q
    .cases z:j b with
     |none=>show .inr J
     |some u=>rw[M b u z]at q;ext q
   have R2:=l.gk t4 S t2 B;have hb:=l.gr p;have R3:=R2.l? hp C hb (λi t ei to z=>l.apart p i t ei to z);calc k _ _ _ (s.t (S.t (vE C _))) R3 ?_;show#v[x,w,ys,J,vp,hl,a9.mono (vE C _) _ _ ry]
def we(h:Nat)(i:Nat)(f:Str)(j:FE):FS:=λl=>match j l with
 |some (d,a)=>match a[i]? with
  |some (.ob c b e)=>if c=h then if b.contains f=γ then Z else if e.length=b.length then if b.length<900 then U (.nx (a.set i (.ob c (b++[f]) (e++[d]))))else Z else Z else Z
  |_=>Z
 |none=>Z
theorem Lo:∀{a:aD} {b:bC},a.contains f=δ->a.length=b.length->Ba f v (a.zip b)=(a++[f]).zip (b++[v])
 |[],[],h,l=>rfl
 |[],x::b,h,l=>by cases l
 |n::a,[],h,l=>by cases l
 |n::a,x::b,h,l=>by
  rw[pX,lM]at h;have c:¬n=f:=λz=>by rw[z]at h;simp at h
  have d:=Lo (v:=v) h.2 (by exists l);change Ba f v ((n,x)::a.zip b)=_;rw[show Ba f v ((n,x)::a.zip b)=(if n=f then (n,v)::a.zip b else (n,x)::Ba f v (a.zip b)) from J,ai c,d];rfl
#print h
def V8{st:Stmt}(h:PS X st (sFld X.K (Aa i) (tF G x) f))(y:P2 X.K (G.ca p)/\AR X.K (G.ca p) f):PS X st (kb G (we p i f x)):=PS.cx h λE σ H N=>by
 let#v[F,j,z,o,R,e,k,k2]:=N;delta we at e;rcases vT (f:=x) (ρ:=j)with b|⟨d,l,b⟩<;>erw[b]at e
 .ext e
 .split at e
  .rename_i c O T t;split at e
   .rename_i hcc;subst hcc;split at e
    .ext e
    rename_i hnc;split at e
    .rename_i Y;split at e
     .rename_i W;ext e;calc#v[F,j,z,d,l,R,b,λv S A s m r=>?_];let#v[a,q,P,u,B,C,I,w,M]:=m.sl i _ t;calc#v[_,yb u,a,_,q,_,J,B,y.1,y.2,by rw[fQ];omega,?_];have hnf:O.contains f=δ:=by exists hnc
      rw[Lo hnf w];calc k _ _ _ s (m.mut t J u (λQ hH=>?_) J);show#v[a,q,P++[v],J,hH,C,I,by rw[aH,aH,w];rfl,xl M (vM r vO)]
     .ext e
    .ext e
   .ext e
  .ext e
#print f
def stI(c n:Nat)(a:aV):aU:=.ob c [] []::GX (n - 1) a
def vf(c h n:Nat)(f:FS):aV->Option (aD×aV):=λa=>if a.length=h then match f (stI c n a)with
 |some (.nx i)=>match (i:aU)[0]? with
  |some (Sl.ob e d b)=>if e=c then if d.length=b.length then U (d,b)else Z else Z
  |_=>Z
 |_=>Z
 else Z
#print h
def Hf(h:vf c m n f b=U q):b.length=m/\∃a,f (stI c n b)=U (.nx a)/\a[0]?=U (.ob c q.1 q.2)/\q.1.length=q.2.length:=by
 delta vf at h;split at h
 .rename_i l;calc#v[l,?_];split at h
  .rename_i a e;split at h
   .rename_i o r p d;split at h
    .rename_i j;split at h
     .rename_i i;subst j;ext h;show#v[a,e,d,i]
     .ext h
    .ext h
   .ext h
  .ext h
 .ext h
#print f
def OB{N:aD}(hN:M+1<=N.length)(h:spI G c (vf c M N.length f) vs H Q E):kb G f { nx:=λ_ H'=>Q .I H',rt:=Q } (L2.start N vs) H:=by
 let#v[p,dx,us,H0,ds,ns,es,rfl,A,h0,s,r,e,k]:=h;let#v[X,ρ,l,x,z]:=Hf e;have gets:∀{i:Nat} {t:Sl},(stI c N.length ds)[i]?=U t->(i=0/\t=.ob c [] [])\/t=.un\/∃(j:Nat) (d:D),i=j+1/\ds[j]?=U d/\t=.q d:=λ{i t} e=>by
  cases i with
  |zero=>ext e;show .inl #v[J,J]
  |succ j=>
   have C:=e;rcases GF C with rfl|⟨d,l,rfl⟩
   .show .inr (.inl J)
   .show .inr (.inr #v[j,d,J,l,J])
 have R:bc G #v[H0,H,[p]] (L2.start N (.ref p::us)) (stI c N.length ds) H0 H:={
  sub:=s
  g0:=vw.refl _
  keep:=λb o e _=>e
  fr:=λb o e=>.inl e
  am:=λa ha=>by
   have y:=by exists ha
   subst y;show#v[_,A]
  len:=by delta L2.start stI GX;erw[aH,ah,cP,aL];rw[<-vv r,ko,sd,rO 1]
  sl:=λi t e=>by
   rcases gets e with ⟨rfl,rfl⟩|rfl|⟨j,d,rfl,l,rfl⟩
   .show#v[p,dx,[],yp J,A,h0,by simp,J,vO]
   .trivial
   .let#v[v,x,z]:=xm r l;show#v[v,yp (by exists x),z]
  ap:=λi j t u a hij F I ht B=>by
   rcases gets F with ⟨rfl,rfl⟩|rfl|⟨_,_,_,_,rfl⟩
   .rcases gets I with ⟨rfl,rfl⟩|rfl|⟨_,_,_,_,rfl⟩
    .show au J hij
    .ext B
    .ext B
   .ext ht
   .cases ht }
 calc#v[_,_,H0,_,R,l,λσ' q H' s' m=>?_,λ_=>J];let#v[a,w,W,q1,q2,O,P,S,T]:=m.sl 0 _ x;have y:=by exists P
 subst y;show k W w q H' s' m.sub (λb o e n=>m.keep b o e (by exists n)) m.fr O q2 S T
end
def Sl.L:Sl->Option aV
 |.J a=>U a
 |.pm a=>U a
 |_=>Z
def Sl.putL:Sl->aV->Sl
 |.pm _,a=>.pm a
 |_,a=>.J a
def Sl.t?{s:Sl}(h:s.L=U a):s.gy=γ:=by ext s<;>first|rfl|ext h
def Sl.putL_L{s:Sl}:(s.putL a).L=U a:=by ext s<;>rfl
section
theorem DS.ax{o:Option V}{s:Sl}{ds:aV}(h:DS G F j H o s)(e:s.L=U ds):∃a xs,o=U (.ref a)/\H a=U (.ax xs)/\j a=Z/\a9 G j ds xs:=by
 cases s with
 |J b=>ext e;let#v[a,xs,c,d,f,l,i]:=h;show#v[a,xs,c,d,f,i]
 |pm b=>ext e;let#v[a,xs,c,d,f,l,i]:=h;show#v[a,xs,c,d,f,i]
 |_=>ext e
def bc.mutL(R:bc G F t q l H)(o:q[i]?=U s)(p:s.L=U z)(m:(t[i]?).join=U (.ref a))(r:a9 G l d c):
  bc G F t (q.set i (s.putL d)) l (el H a (.ax c)):=by
 have ok:=R.sl i s o;rw[m]at ok;calc R.mut o (Sl.t? p) m (λy hH=>?_) (Sl.t? Sl.putL_L);cases s with
 |J e=>let#v[b,x,f,u,h,j,w]:=ok;ext f;show#v[a,c,J,hH,h,j,r]
 |pm e=>let#v[b,x,f,u,h,j,w]:=ok;ext f;show#v[a,c,J,hH,h,j,r]
 |_=>ext p
end
def xb(ρ:aU)(i:Nat):Option aV:=match ρ[i]? with
 |some s=>s.L
 |none=>Z
def yq(h:xb ρ i=U a):∃s,ρ[i]?=U s/\s.L=U a:=by
 delta xb at h;cases e:ρ[i]? with
 |none=>rw[e]at h;cases h
 |some s=>rw[e]at h;show#v[s,J,h]
def putAt(ρ:aU)(i:Nat)(a:aV):aU:=match ρ[i]? with
 |some s=>ρ.set i (s.putL a)
 |none=>ρ
def zF(i:Nat)(f:FE):FE:=λc=>match xb c i with
 |some _=>match f c with
  |some (d,a)=>match xb a i with
   |some b=>if b.length<1000 then U (.I,putAt a i (b++[d]))else Z
   |none=>Z
  |none=>Z
 |none=>Z
section
def xD(R:bc G F m ρ e H)(h:xb ρ i=U o):∃a d,m[i]?=U (U (.ref a))/\H a=U (.ax d)/\a9 G e o d/\
  (∀b c,a9 G e b c->bc G F m (putAt ρ i b) e (el H a (.ax c))):=by
 let#v[s,f,j]:=yq h;let#v[a,d,l,p,t,q]:=(R.sl i s f).ax j;calc#v[a,d,yb l,p,q,λb c r=>?_];delta putAt;rw[f];show R.mutL f j l r
#print h
def Qc(h:PE X e (tBM G.K "list" JU (Aa i) (sh G (ab f vG)))):PE X e (tF G (zF i f)):=PE.cx h λσ H Q z=>by
 let#v[F,c,t,d,N,R,e,k]:=z;delta zF at e;cases j:xb c i with
 |none=>erw[j]at e;cases e
 |some y=>
  erw[j]at e;rcases vT (f:=f) (ρ:=c)with l|⟨x,b,l⟩<;>erw[l]at e
  .ext e
  .cases m:xb b i with
   |none=>erw[m]at e;cases e
   |some S=>
    erw[m]at e;split at e
    .rename_i T;ext e;let#v[a,M,p,C,Y,_]:=xD R j;calc#v[.ref a,p,.inl #v[J,M,f?.of C],F,c,t,[x],b,R,by delta ab;rw[l];rfl,λys O u s w rs=>?_];let#v[v,W,rfl,B,A]:=rs;subst A;let#v[P,o,q,E,r,I]:=xD w m;rw[p]at q;ext q;show#v[a,o,v,J,J,E,by rw[<-vv r];show Bb (),k _ _ _ s (I _ _ (xl r (vM B vO))) BA]
    .ext e
#print f
def OC(i:Nat):FE:=λa=>match xb a i with
 |some (d::b)=>U (d,putAt a i b)
 |_=>Z
#print h
def V9(h:PE X e (tBM G.K "list" MU (Aa i) (Ef (tC (.int 0)) JM))):PE X e (tF G (OC i)):=PE.cx h λz H Q f=>by
 let#v[F,y,t,d,q,R,e,k]:=f;delta OC at e;split at e
 .rename_i u w c;ext e;let#v[a,x,m,b,o,p]:=xD R c;let#v[v,r,rfl,j,l]:=o;refine#v[.ref a,m,.inl #v[J,_,f?.of b],a,v::r,0,0,v,J,J,b,by decide,by decide,?_,J,?_]
  .delta seqIndex?;simp
  .show k _ _ _ (vw.refl _) (p _ _ l) j
 .ext e
#print f
def En(r:a9 G b a c)(h:x? a i=U d):∃v,x? c i=U v/\c3 G b d v:=by
 delta x? at h ⊢;rw[<-vv r];cases e:ixN a.length i with
 |none=>rw[e]at h;cases h
 |some j=>rw[e]at h;show xm r h
def Fd(i:Nat)(f:FE):FE:=λb=>match xb b i with
 |some _=>match f b with
  |some (.int j,a)=>match xb a i with
   |some c=>match x? c j with
    |some d=>U (d,a)
    |none=>Z
   |none=>Z
  |_=>Z
 |none=>Z
#print h
def Z4(h:PE X e (tOp (Vr G.K) (Aa i) (tF G f))):PE X e (tF G (Fd i f)):=PE.cx h λσ H Q I=>by
 let#v[F,t,y,d,W,R,e,k]:=I;delta Fd at e;cases l:xb t i with
 |none=>erw[l]at e;cases e
 |some C=>
  erw[l]at e;let#v[A,T,p,_]:=xD R l;split at e
  .rename_i j m E;cases b:xb m i with
   |none=>erw[b]at e;cases e
   |some B=>
    erw[b]at e;cases c:x? B j with
    |none=>erw[c]at e;cases e
    |some x=>erw[c]at e;ext e;calc#v[.ref A,p,F,t,y,_,_,R,E,λu Y z s o r=>?_];subst r;let#v[a,S,q,M,N,s4]:=xD o b;rw[p]at q;ext q;let#v[w,O,P]:=En N c;show#v[_,S,j,w,J,J,f?.of M,O,k _ _ _ s o P]
  .ext e
#print f
def t9(i:Nat):FE:=λb=>match b[i]? with
 |some (.J a)=>U (.ax a,b.set i (.q (.ax a)))
 |some (.dk c a)=>U (.M c a,b.set i (.q (.M c a)))
 |some (.q d)=>U (d,b)
 |_=>Z
theorem bc.toIm(R:bc G F σ ρ H0 H)(hi:ρ[i]?=U s)(hs:(σ[i]?).join=U (.ref p))(so:s.gy=γ)(C:H p=U o)(h0:H0 p=Z)(f:F.B p=Z)(r:c3 G (el H0 p o) d (.ref p)):
  bc G F σ (ρ.set i (.q d)) (el H0 p o) H where
 sub:=λb u e=>by
  by_cases f:b=p
  .subst f;rw[vp]at e;ext e;show C
  .rw[vt f]at e;show R.sub _ _ e
 g0:=R.g0.t (vE h0 o)
 keep:=R.keep
 fr:=λb u e=>by
  by_cases c:b=p
  .subst c;show .inr f
  .rw[vt c]at e;show R.fr _ _ e
 am:=R.am
 len:=by rw[eC];show R.len
 sl:=λj t e=>by
  rw[cc]at e;by_cases h:i=j
  .subst h;rw[af J]at e;split at e
   .ext e;show#v[_,hs,r]
   .ext e
  .rw[ai h]at e;calc(R.sl j t e).gk (vE h0 o) (λa u v v q=>q) λa u z to q q0=>?_;rw[vt (λy=>by subst y;show R.ap j i t s a (λy=>h y.symm) e hi to so z hs)];show q0
 ap:=λj k t u b hjk w A l tk E vk=>by
  have ma:∀{m:Nat} {x:Sl},(ρ.set i (.q d))[m]?=U x->x.gy=γ->ρ[m]?=U x:=λ{m x} e I=>by
   rw[cc]at e;by_cases h:i=m
   .subst h;rw[af J]at e;split at e
    .ext e;ext I
    .ext e
   .rw[ai h]at e;show e
  show R.ap j k t u b hjk (ma w l) (ma A tk) l tk E vk
theorem bc.toImD(R:bc G F σ ρ H0 H)(hi:ρ[i]?=U s)(hs:(σ[i]?).join=U (.ref p))(so:s.gy=γ)(h0:H0 p=Z)(f:F.B p=Z)(r:c3 G (el H0 p o) d (.ref p)):
  bc G F σ (ρ.set i (.q d)) (el H0 p o) (el H p o) where
 sub:=λb u e=>by
  by_cases f:b=p
  .subst f;rw[vp]at e ⊢;show e
  .rw[vt f]at e ⊢;show R.sub _ _ e
 g0:=R.g0.t (vE h0 o)
 keep:=λb u e n=>by rw[vt (λz=>by subst z;rw[f]at e;ext e)];show R.keep b u e n
 fr:=λb u e=>by
  by_cases c:b=p
  .subst c;show .inr f
  .rw[vt c]at e;show R.fr _ _ e
 am:=λb hm=>by
  by_cases c:b=p
  .subst c;show#v[o,vp]
  .rw[vt c];show R.am b hm
 len:=by rw[eC];show R.len
 sl:=λj t e=>by
  rw[cc]at e;by_cases h:i=j
  .subst h;rw[af J]at e;split at e
   .ext e;show#v[_,hs,r]
   .ext e
  .rw[ai h]at e;refine(R.sl j t e).gk (vE h0 o) (λa u z to q=>?_) λa u z to q q0=>?_
   .rw[vt (λy=>by subst y;show R.ap j i t s a (λy=>h y.symm) e hi to so z hs)];show q
   .rw[vt (λy=>by subst y;show R.ap j i t s a (λy=>h y.symm) e hi to so z hs)];show q0
 ap:=λj k t u b hjk w A l tk C vk=>by
  have ma:∀{m:Nat} {x:Sl},(ρ.set i (.q d))[m]?=U x->x.gy=γ->ρ[m]?=U x:=λ{m x} e E=>by
   rw[cc]at e;by_cases h:i=m
   .subst h;rw[af J]at e;split at e
    .ext e;ext E
    .ext e
   .rw[ai h]at e;show e
  show R.ap j k t u b hjk (ma w l) (ma A tk) l tk C vk
#print h
def adN(h:PE X e (Aa i)):PE X e (tF G (t9 i)):=PE.cx (PE.ψ h) λE H Q z=>by
 let#v[F,C,u,d,A,R,e,k]:=z;delta t9 at e;split at e
 .rename_i r b;ext e;let#v[a,q,f,l,c,m,p]:=R.sl i _ b;have j:=AC vp (a9.mono (vE c _) _ _ p);show#v[_,yb f,.inl (k _ _ _ (vE c _) (R.toIm b f J l c m j) j)]
 .rename_i t r b;ext e;let#v[a,q,f,l,c,m,p,y]:=R.sl i _ b;calc#v[_,yb f,.inr #v[a,_,l,λo=>?_]];have j:c3 G (el u a (.k4 o (.dK (t.zip q)))) (.M t r) (.ref a):=by delta c3;show#v[a,o,q,J,vp,p,a9.mono (vE c _) _ _ y]
  show k _ _ _ (vE c _) (R.toImD b f J c m j) j
 .rename_i B b;ext e;let#v[v,w,x]:=R.sl i _ b;show#v[v,yb w,.inl (k _ _ _ (vw.refl _) R x)]
 .ext e
#print f
def Qd(i:Nat):FA:=λa=>match a[i]? with
 |some (.J b)=>U (b,a.set i .un)
 |_=>Z
#print h
def Wa(h:PE X e (Aa i)):PE X e (y0 G (Qd i)):=PE.cx h λσ H Q r=>by
 let#v[F,ρ,H0,d,ρ',R,e,k]:=r;delta Qd at e;split at e
 .rename_i ds l;ext e;let#v[a,xs,h1,h2,h3,h4,h5]:=R.sl i _ l;have ma:∀{m:Nat} {x:Sl},(ρ.set i .un)[m]?=U x->x.gy=γ->m≠i/\ρ[m]?=U x:=λ{m x} e A=>by
   rw[cc]at e;by_cases h:i=m
   .subst h;rw[af J]at e;split at e
    .ext e;ext A
    .ext e
   .rw[ai h]at e;show#v[λz=>h z.symm,e]
  have p:bc G F σ (ρ.set i .un) H0 H:={
   sub:=R.sub,g0:=R.g0,keep:=R.keep,fr:=R.fr,am:=R.am
   len:=by rw[eC];show R.len
   sl:=λj t e=>by
    rw[cc]at e;by_cases h:i=j
    .subst h;rw[af J]at e;split at e
     .ext e;trivial
     .ext e
    .rw[ai h]at e;show R.sl j t e
   ap:=λj k t u b hjk c q o tk y vk=>R.ap j k t u b hjk (ma c o).2 (ma q tk).2 o tk y vk }
  calc#v[_,yb h1,k a xs _ _ (vw.refl _) p h2 h3 h4 (λj t c to z=>?_) h5];let#v[w,f]:=ma c to;show R.ap j i t _ a w f l to J z h1
 .ext e
end
#print f
inductive IspM(G:Bg) (g:aV->aV->Option (D×aV)) (vs:bC) (H:Hp) (Q:VK) (_x3:XK):Prop
 |i (a:Addr) (us xs:bC) (H0:Hp) (es ds:aV) (d:D) (es':aV) (h0:vs=.ref a::us) (h1:H a=U (.ax xs)) (h2:H0 a=Z) (h3:vw H0 H) (h4:a9 G H0 es xs) (h5:a9 G H0 ds us) (h6:g es ds=U (d,es')) (h7:∀v xs' H0' H',vw H0 H0'->vw H0' H'->(∀b o,H b=U o->b≠a->H' b=U o)->(∀b o,H0' b=U o->H0 b=U o\/H b=Z)->H0' a=Z->H' a=U (.ax xs')->a9 G H0' es' xs'->c3 G H0' d v->Q v H'):IspM G g vs H Q _x3
def π(G:Bg)(g:aV->aV->Option (D×aV)):Sp:=λa H Q _x3=>IspM G g a H Q _x3
def stM(n:Nat)(b a:aV):aU:=.pm b::GX (n - 1) a
def FL(b:aU):Option aV:=match b with
 |.pm a::_=>U a
 |_=>Z
def ZY(h n:Nat)(f:FS):aV->aV->Option (D×aV):=λe c=>if c.length=h then match f (stM n e c)with
 |some (.rt d b)=>match FL b with
  |some a=>U (d,a)
  |none=>Z
 |some (.rn i b)=>match FL b with
  |some a=>U (.ax i,a)
  |none=>Z
 |_=>Z
 else Z
def Hg(h:FL b=U a):b[0]?=U (.pm a):=by
 delta FL at h;split at h
 .ext h;rfl
 .ext h
#print h
def Lp(h:ZY o n f j i=U (d,c)):i.length=o/\((∃a,f (stM n j i)=U (.rt d a)/\a[0]?=U (.pm c))\/∃l a,f (stM n j i)=U (.rn l a)/\a[0]?=U (.pm c)/\d=.ax l):=by
 delta ZY at h;split at h
 .rename_i m;calc#v[m,?_];split at h
  .rename_i x a e;cases b:FL a with
   |none=>erw[b]at h;cases h
   |some q=>erw[b]at h;ext h;show .inl #v[a,e,Hg b]
  .rename_i x a e;cases b:FL a with
   |none=>erw[b]at h;cases h
   |some q=>erw[b]at h;ext h;show .inr #v[x,a,e,Hg b,J]
  .ext h
 .ext h
section
#print f
def Wb{N:aD}(hN:S+1<=N.length)(h:π G (ZY S N.length f) vs H Q E):kb G f { nx:=λ_ H'=>Q .I H',rt:=Q } (L2.start N vs) H:=by
 let#v[a,us,xs,H0,es,ds,d,es',rfl,ha,h0,s,r1,r,e,k]:=h;let#v[hl,l]:=Lp e;have gets:∀{i:Nat} {t:Sl},(stM N.length es ds)[i]?=U t->(i=0/\t=.pm es)\/t=.un\/∃(j:Nat) (d:D),i=j+1/\ds[j]?=U d/\t=.q d:=λ{i t} e=>by
  cases i with
  |zero=>ext e;show .inl #v[J,J]
  |succ j=>
   have B:=e;rcases GF B with rfl|⟨d,l,rfl⟩
   .show .inr (.inl J)
   .show .inr (.inr #v[j,d,J,l,J])
 have R:bc G #v[H0,H,[a]] (L2.start N (.ref a::us)) (stM N.length es ds) H0 H:={
  sub:=s
  g0:=vw.refl _
  keep:=λb o e _=>e
  fr:=λb o e=>.inl e
  am:=λb x=>by
   have I:=by exists x
   subst I;show#v[_,ha]
  len:=by delta L2.start stM GX;erw[aH,ah,cP,aL];rw[<-vv r,ko,sd,rO 1]
  sl:=λi t e=>by
   rcases gets e with ⟨rfl,rfl⟩|rfl|⟨j,d,rfl,l,rfl⟩
   .show#v[a,xs,yp J,ha,h0,by simp,r1]
   .trivial
   .let#v[v,q,C]:=xm r l;show#v[v,yp (by exists q),C]
  ap:=λi j t u b hij M O ht z=>by
   rcases gets M with ⟨rfl,rfl⟩|rfl|⟨_,_,_,_,rfl⟩
   .rcases gets O with ⟨rfl,rfl⟩|rfl|⟨_,_,_,_,rfl⟩
    .show au J hij
    .ext z
    .ext z
   .ext ht
   .cases ht }
 have fin:∀{v:V} {σ':St} {ρ':aU} {c H':Hp},vw H0 c->bc G #v[H0,H,[a]] σ' ρ' c H'->ρ'[0]?=U (.pm es')->c3 G c d v->Q v H':=λs' m q y=>by
  let#v[Y,A,q1,q2,T,W,X]:=m.sl 0 _ q;have F:=by exists W
  subst F;show k _ A _ _ s' m.sub (λb o e n=>m.keep b o e (by exists n)) m.fr T q2 X y
 rcases l with ⟨ρ,l,q⟩|⟨zs,ρ,l,q,rfl⟩
 .show#v[_,_,H0,_,R,l,λv σ' c H' s' m y=>fin s' m q y,λ_=>J]
 .calc#v[_,_,H0,_,R,l,λp A σ' c H' s' m P w x ap rs=>?_,λ_=>J];show fin (s'.t (vE w _)) (m.l? P w x ap) q (AC vp (a9.mono (vE w _) _ _ rs))
def RU(j:∀f b d,g f b=U d->b.length=l):∀c H Q E,π G g c H Q E->c.length=l+1:=λc H Q E h=>by let#v[a,o,p,m,f,b,d,i,rfl,_,_,_,_,r,e,_]:=h;rw[aL,<- vv r,j _ _ _ e]
def Wc:∀b a d,ZY c n f b a=U d->a.length=c:=λz z d h=>(Lp h).1
def bc.call1(R:bc G F σ ρ H0 H)(hi:ρ[i]?=U s)(hs:s.L=U es)(d:(σ[i]?).join=U (.ref b))
  (C:vw H0 a) (s2:vw a H') (p:∀c o,H c=U o->c≠b->H' c=U o) (fr:∀c o,a c=U o->H0 c=U o\/H c=Z) (h0:a b=Z) (l:H' b=U (.ax A)) (r:a9 G a es' A):
  bc G F σ (ρ.set i (s.putL es')) a H':=by
 have so:=Sl.t? hs;let#v[X,u,B,Y,e3,E]:=(R.sl i s hi).at so;rw[d]at B;ext B;show {
  sub:=s2
  g0:=R.g0.t C
  keep:=λc o e n=>by
   calc p c o (R.keep c o e n) λz=>?_;subst z;rcases E with q|q
   .rw[q]at e;ext e
   .show n q
  fr:=λc o e=>by
   rcases fr c o e with q|q
   .show R.fr c o q
   .show .inr (R.gr q)
  am:=λc P=>by
   by_cases z:c=b
   .subst z;show#v[_,l]
   .let#v[o,q]:=R.am c P;show#v[o,p c o q z]
  len:=by rw[eC];show R.len
  sl:=λj t e=>by
   rw[cc]at e;by_cases h:i=j
   .subst h;rw[af J]at e;split at e
    .ext e;rw[d];have ok:=R.sl i s hi;rw[d]at ok;cases s with
     |J f=>let#v[c,xs,h1,h2,h3,h4,h5]:=ok;ext h1;show#v[b,A,J,l,h0,h4,r]
     |pm f=>let#v[c,xs,h1,h2,h3,h4,h5]:=ok;ext h1;show#v[b,A,J,l,h0,h4,r]
     |_=>ext hs
    .ext e
   .rw[ai h]at e;refine(R.sl j t e).gk C (λc w z to q=>p c w q λy=>?_) λc w z to q q0=>?_
    .subst y;show R.ap j i t s c (λy=>h y.symm) e hi to so z d
    .cases y:a c with
     |none=>rfl
     |some o=>
      rcases fr c o y with x|x
      .rw[x]at q0;ext q0
      .rw[x]at q;ext q
  ap:=λj k t u c hjk I M T tk W vk=>by
   have ma:∀{m:Nat} {x:Sl},(ρ.set i (s.putL es'))[m]?=U x->∃y,ρ[m]?=U y/\(x.gy=γ->y.gy=γ):=λ{m x} e=>by
    rw[cc]at e;by_cases h:i=m
    .subst h;show#v[s,hi,λv=>so]
    .rw[ai h]at e;show#v[x,e,λq=>q]
   let#v[y,N,Q]:=ma I;let#v[z,O,S]:=ma M;show R.ap j k y z c hjk N O (Q T) (S tk) W vk }
def v9(g:aV->aV->Option (D×aV))(i:Nat)(a:FA):FE:=λe=>match xb e i with
 |some _=>match a e with
  |some (f,b)=>match xb b i with
   |some h=>match g h f with
    |some (d,c)=>U (d,putAt b i c)
    |none=>Z
   |none=>Z
  |none=>Z
 |none=>Z
def Z5(h:PE X e (Cq (π G g) [] E (Ef (Aa i) (sh G a)))):PE X e (tF G (v9 g i a)):=PE.cx h λσ H Q T=>by
 let#v[F,m,A,d,ρ',R,e,k]:=T;delta v9 at e;cases r:xb m i with
 |none=>erw[r]at e;cases e
 |some S=>
  erw[r]at e;rcases vT (f:=a) (ρ:=m)with t|⟨p,l,t⟩<;>erw[t]at e
  .ext e
  .cases u:xb l i with
   |none=>erw[u]at e;cases e
   |some C=>
    erw[u]at e;cases w:g C p with
    |none=>erw[w]at e;cases e
    |some q=>
     let#v[d1,x]:=q;erw[w]at e;ext e;let#v[b,xs,y,s2,s3,_]:=xD R r;calc#v[.ref b,y,F,m,A,p,l,R,t,λN B O s o rs=>?_];let#v[s,c,j]:=yq u;let#v[b',z,I,W,Y,t4]:=(o.sl i s c).ax j;rw[yb I]at y;ext y;refine#v[b,N,z,B,C,p,d,x,?_,W,Y,o.sub,t4,rs,w,λv zs H2 P M u2 u3 fr w0 w1 w2 w3=>?_]
     .change V.ref b::N++[]=_;rw[bF]
     .calc k _ _ _ (vw.t ‹vw A B› M) ?_ w3;delta putAt;rw[c];show o.call1 c j I M u2 u3 fr w0 w1 w2
def Walk(G:Bg)(A_:It)(h:aV)(j:Hp):Prop:=∀(i:Nat) (e a:Hp),vw j e->vw e a->
 (∀d,h[i]?=U d->A_.go i a/\∀x c,A_.yld i a x c->∃f,vw e f/\vw f c/\vw a c/\(∀b o,f b=U o->e b=U o\/a b=Z)/\c3 G f d x)/\(i=h.length->A_.stop i a)
inductive ItFI(G:Bg) (f:FA) (σ:St) (H:Hp) (R:(It->Hp->Prop)):Prop
 |i (F ρ H0 ds ρ') (h0:bc G F σ ρ H0 H) (h1:f ρ=U (ds,ρ')) (h2:∀A_ H0' H',vw H0 H0'->bc G F σ ρ' H0' H'->Walk G A_ ds H0'->R A_ H'):ItFI G f σ H R
def S?(G:Bg)(f:FA):TI:=λa H R=>ItFI G f a H R
def PI.cx(h:PI X f e t)(w:∀b H R,d b H R->t b H R):PI X f e d:=λa s b H R I c=>h a s b H R I (w _ _ _ c)
def Hh(h:f? G.K j a c)(r:a9 G j w c):Walk G (Itl G.K a) w j:=λi q t s p=>by have f:=(s.t p).seq h;calc#v[λd e=>?_,λC=>#v[c,f,by rw[<-vv r,C];show aG _]];let#v[v,l,z]:=xm r e;calc#v[#v[c,v,f,l],λx u y=>?_];let#v[A,B]:=y;have m:=B c f;rw[l]at m;ext m;subst A;show#v[q,vw.refl _,p,vw.refl _,λb o e=>.inl e,c3.mono s _ _ z]
def RV(h:fh G.K j a c)(r:a9 G j w c):Walk G (Itt G.K a) w j:=λi q t s p=>by have f:=fh.mono (s.t p) h;calc#v[λd e=>?_,λC=>#v[c,f,by rw[<-vv r,C];show aG _]];let#v[v,l,z]:=xm r e;calc#v[#v[c,v,f,l],λx u y=>?_];let#v[A,B]:=y;have m:=B c f;rw[l]at m;ext m;subst A;show#v[q,vw.refl _,p,vw.refl _,λb o e=>.inl e,c3.mono s _ _ z]
def iL(f:FE):FA:=λc=>match f c with
 |some (.ax b,a)=>U (b,a)
 |some (.O b,a)=>U (b,a)
 |_=>Z
def iT(f:FE):FA:=λc=>match f c with
 |some (.bx b,a)=>U (b,a)
 |_=>Z
#print h
def Lq(h:PI X w e (Q0 G.K (tF G f))):PI X w e (S? G (iL f)):=PI.cx h λz H R u=>by
 let#v[F,q,p,y,x,R,e,k]:=u;delta iL at e;split at e
 .rename_i i o j;ext e;calc#v[F,q,p,_,_,R,j,λv t d s b r=>?_];let#v[a,m,rfl,c,l]:=r;show#v[a,J,#v[m,b.sub.seq (f?.of c)],k _ _ _ s b (Hh (f?.of c) l)]
 .rename_i i o j;ext e;calc#v[F,q,p,_,_,R,j,λv t d s b r=>?_];let#v[a,m,rfl,c,l]:=r;show#v[a,J,#v[m,b.sub.seq c],k _ _ _ s b (Hh c l)]
 .ext e
def Wd(h:PI X p e (Zc G.K (tF G f))):PI X p e (S? G (iT f)):=PI.cx h λz H R m=>by
 let#v[F,t,d,y,u,R,e,k]:=m;delta iT at e;split at e
 .rename_i j w l;ext e;calc#v[F,t,d,_,_,R,l,λv x i s b r=>?_];let#v[a,q,rfl,c,o]:=r;show#v[a,J,#v[q,fh.mono b.sub c],k _ _ _ s b (RV c o)]
 .ext e
#print f
def Eo(lo:Int)(n:Nat):aV:=(bh n).map λ(i:Nat)=>D.int (lo+(i:Int))
def RW{lo:Int}:Walk G (Itr lo n) (Eo lo n) p:=λi c f s m=>by
 calc#v[λd e=>?_,λl=>by change n<=i;rw[l];simp[Eo]];delta Eo at e;rw[br]at e;by_cases a:i<n
 .rw[lR a]at e;ext e;calc#v[a,λx h y=>?_];let#v[j,rfl]:=y;subst j;show#v[c,vw.refl _,m,vw.refl _,λb o e=>.inl e,xW _]
 .rw[gf (by exists a)]at e;ext e
def B?(f:FE):FA:=λb=>match f b with
 |some (.int n,a)=>if -1000000<=n/\n<=1000000 then U (Eo 0 n.toNat,a)else Z
 |_=>Z
#print h
def M4(h:PI X m e (X7 (sh G (ab f vG)))):PI X m e (S? G (B? f)):=PI.cx h λy H R i=>by
 let#v[F,o,a,t,p,R,e,k]:=i;delta B? at e;split at e
 .rename_i n q d;split at e
  .rename_i u;ext e;calc#v[F,o,a,[.int n],_,R,by delta ab;rw[d];rfl,λx r b s c rs=>?_];let#v[v,w,rfl,l,j]:=rs;subst j l;show#v[n,J,by omega,by omega,k _ _ _ s c RW]
  .ext e
 .ext e
#print f
def fl(g:FG)(b:FS):aV->FS
 |[],c=>U (.nx c)
 |d::r,c=>match g d c with
  |none=>Z
  |some e=>match b e with
   |some (.nx a)=>fl g b r a
   |some (.ct a)=>fl g b r a
   |some (.bk a)=>U (.nx a)
   |some (.rt d a)=>U (.rt d a)
   |some (.rn d a)=>U (.rn d a)
   |none=>Z
def yA(s:FA)(g:FG)(b:FS):FS:=λd=>match s d with
 |some (c,a)=>fl g b c a
 |none=>Z
def We{st:Stmt}(h:PS X st (Ve (S? G s) (tFG G n g) (kb G b))):PS X st (kb G (yA s g b)):=PS.cx h λE σ H hh=>by
 let#v[F,W,H0,o,R,e,k,k2]:=hh;delta yA at e;rcases vT (f:=s) (ρ:=W)with P|⟨l,C,P⟩<;>erw[P]at e
 .ext e
 .calc#v[F,W,H0,l,C,R,P,λA_ N H1' s1 R1 wk=>?_];calc#v[λi m σ H=>m=l.length - i/\i<=l.length/\∃c r,vw N r/\bc G F σ c r H/\fl g b (l.drop i) c=U o,#v[_,J,bP _,C,N,vw.refl _,R1,e],?_];rintro i m σi B ⟨rfl,hi,c,r,A,I,a⟩;by_cases hlt:i<l.length
  .have ed:=iR hlt;rw[ed]at a;delta fl at a;let#v[go,yl]:=(wk i r B A I.sub).1 l[i] (aI hlt);calc .inr #v[go,λp z=>∃c r,vw N r/\bc G F p c r z/\fl g b (l.drop (i+1)) c=U o,λp z q=>#v[l.length - (i+1),by omega,J,hlt,q],λx z y=>?_];let#v[Y,M,t2,t3,t4,t5]:=yl x z y;have R2:=I.gk t3 M t2 t4;cases Q:g l[i] c with
   |none=>erw[Q]at a;cases a
   |some w=>
    erw[Q]at a;calc#v[F,c,Y,_,w,R2,t5,Q,λσ3 v R3=>?_];have S:=k.mu (s1.t (A.t M));cases u:b w with
    |none=>erw[u]at a;cases a
    |some q=>
     calc#v[F,w,Y,q,R3,u,?_,λv=>J];cases q with
     |nx j=>erw[u]at a;show λp t z T O=>#v[j,t,A.t (M.t T),O,a]
     |ct j=>erw[u]at a;show λp t z T O=>#v[j,t,A.t (M.t T),O,a]
     |bk j=>erw[u]at a;ext a;show S
     |rt d j=>erw[u]at a;ext a;show S
     |rn d j=>erw[u]at a;ext a;show S
  .have ez:l.drop i=[]:=lI ();rw[ez]at a;ext a;show .inl #v[(wk i r B A I.sub).2 (),k _ _ _ (s1.t A) I]
def K'(c:FT)(b:FS):Nat->FS
 |0,_=>Z
 |n+1,f=>match c f with
  |some (δ,e)=>U (.nx e)
  |some (γ,e)=>match b e with
   |some (.nx a)=>K' c b n a
   |some (.ct a)=>K' c b n a
   |some (.bk a)=>U (.nx a)
   |some (.rt d a)=>U (.rt d a)
   |some (.rn d a)=>U (.rn d a)
   |none=>Z
  |none=>Z
def Qe{st:Stmt}(n:Nat)(h:PS X st (QY (m? G c) (kb G b))):PS X st (kb G (K' c b n)):=PS.cx h λE P H Y=>by
 let#v[F,O,B,o,R,e,k,k2]:=Y;calc#v[λm P H=>∃i r,vw B r/\bc G F P i r H/\K' c b m i=U o,#v[n,O,B,vw.refl _,R,e],?_];rintro m σi T ⟨i,r,A,W,a⟩;cases m with
 |zero=>cases a
 |succ m=>
  delta K' at a;rcases vT (f:=c) (ρ:=i)with x|⟨t,w,x⟩
  .erw[x]at a;ext a
  .calc#v[F,i,r,t,w,W,x,λQ S z N=>?_];cases t with
   |false=>erw[x]at a;ext a;show Iv (k _ _ _ (A.t z) N)
   |true=>
    erw[x]at a;calc Iw #v[λl y=>∃i r,vw B r/\bc G F l i r y/\K' c b m i=U o,λl y q=>#v[m,cY m,q],?_];have I:=k.mu (A.t z);cases u:b w with
    |none=>erw[u]at a;cases a
    |some q=>
     calc#v[F,w,Q,q,N,u,?_,λv=>J];cases q with
     |nx j=>erw[u]at a;show λl p y M C=>#v[j,p,A.t (z.t M),C,a]
     |ct j=>erw[u]at a;show λl p y M C=>#v[j,p,A.t (z.t M),C,a]
     |bk j=>erw[u]at a;ext a;show I
     |rt d j=>erw[u]at a;ext a;show I
     |rn d j=>erw[u]at a;ext a;show I
end
def Sl.eh:Sl->Sl
 |.q d=>.q d
 |.J a=>.pm a
 |.pm a=>.pm a
 |_=>.un
def DV(k:Nat)(eh:List Nat)(ρ:aU):aU:=fR k .un++eh.map λj=>((ρ[j]?).getD .un).eh
def yB:List Nat->aU->aU->Option aU
 |[],_,a=>U a
 |j::eh,t::b,a=>match xb a j with
  |some _=>match t with
   |.pm c=>yB eh b (putAt a j c)
   |_=>Z
  |none=>yB eh b a
 |_::_,[],_=>Z
def zv(k:Nat)(eh:List Nat)(g:FG)(ft:FT)(f:FE):aV->aU->Option (aV×aU)
 |[],c=>U ([],c)
 |d::r,c=>match g d (DV k eh c)with
  |none=>Z
  |some h=>match ft h with
   |some (γ,b)=>match f b with
    |some (x,i)=>match yB eh (i.drop k) c with
     |some a=>match zv k eh g ft f r a with
      |some (j,e)=>U (x::j,e)
      |none=>Z
     |none=>Z
    |none=>Z
   |some (δ,b)=>match yB eh (b.drop k) c with
    |some a=>zv k eh g ft f r a
    |none=>Z
   |none=>Z
def vS(k:Nat)(eh:List Nat)(s:FA)(g:FG)(ft:FT)(fe:FE):FA:=λc=>match s c with
 |some (b,a)=>if b.length<=1000 then zv k eh g ft fe b a else Z
 |none=>Z
def wJ:FT:=λa=>U (γ,a)
theorem BC:∀{eh:List Nat} {B f b:aU},yB eh B f=U b->b.length=f.length/\
  (∀(j:Nat) (c:Sl),b[j]?=U c->∃s,f[j]?=U s/\((c=s/\(s.L≠Z->j∉eh))\/∃(m:Nat) (i a:aV),eh[m]?=U j/\B[m]?=U (Sl.pm i)/\s.L=U a/\c=s.putL i))
 |[],B,f,b,h=>by ext h;show#v[J,λj c e=>#v[c,e,.inl #v[J,λv z=>by ext z]]]
 |G::eh,[],f,b,h=>by cases h
 |G::eh,t::B,f,b,h=>by
  delta yB at h;cases l:xb f G with
  |none=>
   erw[l]at h;let#v[C,E]:=BC h;calc#v[C,λj c e=>?_];let#v[s,r,q]:=E j c e;calc#v[s,r,?_];rcases q with ⟨rfl,q⟩|⟨m,i,a,u,w,A,x⟩
   .calc .inl #v[J,λz y=>?_];rcases aJ.1 y with y|y
    .subst y;delta xb at l;rw[r]at l;show z l
    .show q z y
   .show .inr #v[m+1,i,a,u,w,A,x]
  |some p=>
   erw[l]at h;cases t with
   |pm i=>
    simp only at h;let#v[I,r,H]:=yq l;delta putAt at h;rw[r]at h;simp only at h;let#v[C,E]:=BC h;calc#v[by rw[C,eC],λj c e=>?_];let#v[s,o,q]:=E j c e;by_cases F:G=j
    .subst F;rw[cc,af J]at o;split at o
     .ext o;calc#v[I,r,.inr ?_];rcases q with ⟨rfl,q⟩|⟨m,d,a,u,w,A,x⟩
      .show#v[0,i,p,J,J,H,J]
      .calc#v[m+1,d,p,u,w,H,?_];rw[x];ext I<;>rfl
     .ext o
    .rw[cc,ai F]at o;calc#v[s,o,?_];rcases q with ⟨rfl,q⟩|⟨m,d,a,u,w,A,x⟩
     .calc .inl #v[J,λz y=>?_];rcases aJ.1 y with y|y
      .show F y.symm
      .show q z y
     .show .inr #v[m+1,d,a,u,w,A,x]
   |_=>ext h
def IB(eh:List Nat)(b:St)(ρ:aU):List Addr:=eh.filterMap λj=>match xb ρ j,(b[j]?).join with
 |some _,U (.ref a)=>U a
 |_,_=>Z
#print h
def Cv:a∈IB eh i h ↔ ∃j∈eh,(∃b,xb h j=U b)/\(i[j]?).join=U (.ref a):=by
 delta IB;rw[ja];constructor
 .rintro⟨j,f,e⟩;calc#v[j,f,?_];split at e
  .rename_i b l c d;ext e;show#v[#v[b,c],d]
  .ext e
 .rintro⟨j,f,⟨b,c⟩,d⟩;calc#v[j,f,?_];rw[c,d]
section
#print f
def Hk(h:(DV k eh b)[i]?=U s):s=.un\/∃m j,i=k+m/\eh[m]?=U j/\s=((b[j]?).getD .un).eh:=by
 delta DV at h;by_cases a:i<k
 .rw[cU (by exists a),hX,af a]at h;ext h;show .inl J
 .rw[cR (by exists qt a),cP,br]at h;cases e:eh[i - k]? with
  |none=>rw[e]at h;cases h
  |some j=>rw[e]at h;ext h;show .inr #v[i - k,j,by omega,e,J]
def Ep(h:eh[m]?=U j):((yU k eh a)[k+m]?).join=(a[j]?).join:=by delta yU;rw[cR (by simp),cP,show k+m - k=m by omega,br,h];rfl
theorem bc.eh(R:bc G F σ ρ H0 H)(k:Nat)(eh:List Nat)(nd:eh.Nodup):bc G #v[H0,H,IB eh σ ρ] (yU k eh σ) (DV k eh ρ) H0 H where
 sub:=R.sub
 g0:=vw.refl _
 keep:=λb o e n=>e
 fr:=λb o e=>.inl e
 am:=λa ha=>by let#v[j,q,#v[ds,f],p]:=Cv.1 ha;let#v[s,x,y]:=yq f;let#v[C,xs,h1,h2,_]:=(R.sl j s x).ax y;rw[p]at h1;ext h1;show#v[_,h2]
 len:=by delta yU DV;rw[aH,aH,cP,cP,ah,ah]
 sl:=λi s e=>by
  rcases Hk e with rfl|⟨m,j,rfl,f,rfl⟩
  .trivial
  .rw[Ep f];cases p:ρ[j]? with
   |none=>trivial
   |some s=>
    have ok:=R.sl j s p;have mem:∀{a:Addr} {ds:aV},s.L=U ds->(σ[j]?).join=U (.ref a)->a∈IB eh σ ρ:=λh1 h2=>Cv.2 #v[j,ck f,#v[_,by delta xb;rw[p];show h1],h2];cases s with
    |un=>trivial
    |q d=>show ok
    |J ds=>let#v[a,xs,h1,h2,h3,h4,h5]:=ok;show#v[a,xs,h1,h2,h3,mem J h1,h5]
    |pm ds=>let#v[a,xs,h1,h2,h3,h4,h5]:=ok;show#v[a,xs,h1,h2,h3,mem J h1,h5]
    |dk ks ds=>trivial
    |ob c ns ds=>trivial
 ap:=λi E s t a hii e w so to v u=>by
  rcases Hk e with rfl|⟨m,j,rfl,f,rfl⟩
  .ext so
  rcases Hk w with rfl|⟨I,j',rfl,l,rfl⟩
  .ext to
  rw[Ep f]at v;rw[Ep l]at u;have gy:∀{j:Nat},(((ρ[j]?).getD Sl.un).eh).gy=γ->∃s,ρ[j]?=U s/\s.gy=γ:=λ{j} h=>by
   cases z:ρ[j]? with
   |none=>rw[z]at h;cases h
   |some s=>rw[z]at h;calc#v[s,J,?_];ext s<;>first|rfl|ext h
  let#v[s,z,B]:=gy so;let#v[s',A,r]:=gy to;by_cases q:j=j'
  .subst q;have:=(List.getElem?_inj (bZ.1 f).1 nd).1 (f.t l.symm);show hii (by rw[this])
  .show R.ap j j' s s' a q z A B r v u
theorem bc.uncap(R:bc G F σ ρ H0 H){k:Nat}{eh:List Nat}{f:St}{p ρ':aU}{H1 h:Hp}(c:bc G #v[H0,H,IB eh σ ρ] f p H1 h)(hd:f.drop k=(yU k eh σ).drop k)(hu:yB eh (p.drop k) ρ=U ρ'):bc G F σ ρ' H1 h:=by
 let#v[hl,S]:=BC hu;have C:∀{m j:Nat},eh[m]?=U j->(f[k+m]?).join=(σ[j]?).join:=λ{m j} e=>by
  have q:(f.drop k)[m]?=((yU k eh σ).drop k)[m]?:=by rw[hd]
  rw[dG,dG]at q;rw[q];show Ep e
 have nA:∀{j:Nat} {s:Sl} {a:Addr},ρ[j]?=U s->s.gy=γ->(σ[j]?).join=U (.ref a)->(s.L≠Z->j∉eh)->a∉IB eh σ ρ:=λ{j s a} e so z hn ha=>by
  let#v[i,hi,#v[ds,d],M]:=Cv.1 ha;let#v[t,l,r]:=yq d;by_cases hij:i=j
  .subst hij;rw[e]at l;ext l;show hn (by rw[r];simp) hi
  .show R.ap i j t s a hij l e (Sl.t? r) so M z
 have hA:∀a∈IB eh σ ρ,F.B a=Z\/a∈F.A:=λa ha=>by let#v[i,hi,#v[ds,d],M]:=Cv.1 ha;let#v[t,l,r]:=yq d;let#v[Q,u,h1,h2,h3,h4]:=(R.sl i t l).at (Sl.t? r);rw[M]at h1;ext h1;show h4
 have own':∀{j:Nat} {s':Sl},ρ'[j]?=U s'->s'.gy=γ->∃s,ρ[j]?=U s/\s.gy=γ:=λ{j s'} e so=>by
  let#v[s,d,q]:=S j s' e;rcases q with ⟨rfl,q⟩|⟨m,ds,E,q1,q2,N,T⟩
  .show#v[s',d,so]
  .show#v[s,d,Sl.t? N]
 show {
  sub:=c.sub
  g0:=R.g0.t c.g0
  keep:=λb o e n=>by
   calc c.keep b o (R.keep b o e n) λha=>?_;rcases hA b ha with q|q
   .rw[q]at e;ext e
   .show n q
  fr:=λb o e=>by
   rcases c.fr b o e with q|q
   .show R.fr b o q
   .show .inr (R.gr q)
  am:=λa ha=>by
   let#v[o,q]:=R.am a ha;by_cases z:a∈IB eh σ ρ
   .show c.am a z
   .show#v[o,c.keep a o q z]
  len:=by rw[hl];show R.len
  sl:=λj s' e=>by
   let#v[s,d,q]:=S j s' e;rcases q with ⟨rfl,q⟩|⟨m,ds,E,q1,q2,N,T⟩
   .calc(R.sl j s' d).gk c.g0 (λa u z so y=>c.keep a u y (nA d so z q)) λa u z so y W=>?_;cases w:H1 a with
    |none=>rfl
    |some o=>
     rcases c.fr a o w with x|x
     .have O:H0 a=U o:=x;rw[O]at W;ext W
     .have O:H a=Z:=x;rw[O]at y;ext y
   .rw[dG]at q2;let#v[a,xs,h1,h2,h3,h4,h5]:=c.sl _ _ q2;rw[C q1]at h1;have ok:=R.sl j s d;subst T;cases s with
    |J I=>let#v[Q,P,g1,g2,g3,g4,g5]:=ok;rw[h1]at g1;ext g1;show#v[a,xs,h1,h2,h3,g4,h5]
    |pm I=>let#v[Q,P,g1,g2,g3,g4,g5]:=ok;rw[h1]at g1;ext g1;show#v[a,xs,h1,h2,h3,g4,h5]
    |_=>ext N
  ap:=λi j s t a hij X Y so to v v'=>by
   let#v[s0,z,zo]:=own' X so;let#v[t0,y,yo]:=own' Y to;show R.ap i j s0 t0 a hij z y zo yo v v' }
def Cy{k:Nat}(h:t7 l ρ p)(f:yB eh w ρ=U a):t7 l a p:=λi c e so=>by
 let#v[s,b,q]:=(BC f).2 i c e;rcases q with ⟨rfl,q⟩|⟨m,o,d,r,t,j,u⟩
 .show h i c b so
 .show h i s b (Sl.t? j)
inductive CI(G:Bg) (F:Fr) (σ:St) (H1:Hp) (p:Addr) (k:Nat) (eh:List Nat) (g:FG) (ft:FT) (fe:FE) (ds es:aV) (ρ':aU) (i m:Nat) (acc:bC) (H2:Hp):Prop
 |mk (ρi:aU) (Hi:Hp) (dn eu:aV):m=ds.length - i->i<=ds.length->vw H1 Hi->bc G F σ ρi Hi H2->H2 p=U (.ax acc)->Hi p=Z->t7 σ ρi p->a9 G Hi dn acc->dn.length<=i->zv k eh g ft fe (ds.drop i) ρi=U (eu,ρ')->es=dn++eu->CI G F σ H1 p k eh g ft fe ds es ρ' i m acc H2
#print h
def OD{eh:List Nat}(nd:eh.Nodup):∀N H Q,y0 G (vS k eh s g ft fe) N H Q->G5 (S? G s) (tFG G k g) (m? G ft) (tF G fe) k eh N H Q:=λN H Q hh=>by
 let#v[F,ρ,H0,es,ρ',R,e,kk]:=hh;delta vS at e;rcases vT (f:=s) (ρ:=ρ)with e1|⟨d,ρ1,e1⟩<;>erw[e1]at e
 .ext e
 .split at e
  .rename_i hlen;calc#v[F,ρ,H0,d,ρ1,R,e1,λA_ H1 H1' s1 P wk p T=>?_];refine#v[CI G F N H1 p k eh g ft fe d es ρ',
    #v[_,ρ1,H1,[],es,J,bP _,vw.refl _,P.gi T _,vp,P.ey T,P.apart T,vO,aG _,e,J],?_]
   rintro i m acc H2 ⟨c,Hi,dn,eu,rfl,hi,Y,Ri,C,W,apt,rs,hdn,a,rfl⟩;by_cases hlt:i<d.length
   .have ed:=iR hlt;rw[ed]at a;delta zv at a;let#v[go,yl]:=(wk i Hi H2 Y Ri.sub).1 d[i] (aI hlt);calc .inr #v[go,λx H3 y=>?_];let#v[I,t1,t2,t3,t4,t5]:=yl x H3 y;have R2:=Ri.gk t3 t1 t2 t4;have X:=t3 _ _ C;have hpj:I p=Z:=by
     cases w:I p with
     |none=>rfl
     |some o=>
      rcases t4 p o w with z|z
      .rw[W]at z;ext z
      .rw[C]at z;ext z
    have RC:=R2.eh k eh nd;have npA:p∉IB eh N c:=λz=>by let#v[j,_,#v[ds',q1],q2]:=Cv.1 z;let#v[t,q3,q4]:=yq q1;show apt j t q3 (Sl.t? q4) q2
    cases e2:g d[i] (DV k eh c)with
    |none=>erw[e2]at a;cases a
    |some E=>
     erw[e2]at a;calc#v[_,_,I,d[i],E,RC,t5,e2,λσ4 B R4=>#v[B,?_]];rcases vT (f:=ft) (ρ:=E)with S|⟨b,l,S⟩
     .erw[S]at a;ext a
     .calc#v[_,E,I,b,l,R4,S,λH5 H5' s5 R5=>?_];have keepP:∀{σ':St} {ρ'':aU} {Ha O:Hp},bc G #v[I,H3,IB eh N c] σ' ρ'' Ha O->O p=U (.ax acc)/\Ha p=Z:=λRz=>by
       calc#v[Rz.keep p _ X npA,?_];calc Option.eq_none_iff_forall_ne_some.2 λo M=>?_;rcases Rz.fr p o M with z|z
       .have z':I p=U o:=z;rw[hpj]at z';ext z'
       .have z':H3 p=Z:=z;rw[X]at z';ext z'
      cases b with
      |false=>
       erw[S]at a;calc Iv ?_;cases h:yB eh (l.drop k) c with
       |none=>erw[h]at a;cases a
       |some r=>erw[h]at a;let#v[w1,M]:=keepP R5;show#v[d.length - (i+1),by omega,r,H5,dn,eu,J,hlt,Y.t (t1.t s5),R2.uncap R5 B h,w1,M,Cy (k:=k) apt h,a9.mono (t1.t s5) _ _ rs,by omega,a,J]
      |true=>
       erw[S]at a;calc Iw ?_;rcases vT (f:=fe) (ρ:=l)with e5|⟨x5,ρ5,e5⟩
       .erw[e5]at a;ext a
       .erw[e5]at a;calc#v[_,l,H5,x5,ρ5,R5,e5,λv H6 H6' s6 R6 rv=>?_];let#v[w1,M]:=keepP R6;cases h:yB eh (ρ5.drop k) c with
        |none=>erw[h]at a;cases a
        |some r=>
         erw[h]at a;cases e6:zv k eh g ft fe (d.drop (i+1)) r with
         |none=>erw[e6]at a;cases a
         |some q=>
          let#v[rest',ρz]:=q;erw[e6]at a;ext a;have A:=R2.uncap R6 B h;have lacc:=(vv rs).symm;calc#v[acc,w1,Bb (),d.length - (i+1),by omega,r,H6,dn++[x5],rest',J,hlt,Y.t (t1.t (s5.t s6)),?_,vp,M,Cy (k:=k) apt h,xl (a9.mono (t1.t (s5.t s6)) _ _ rs) (vM rv vO),by rw[aH,bq];omega,e6,by rw[bN];rfl];show {
           sub:=λb o e=>by rw[vt (λz=>by rw[z,M]at e;ext e)];show A.sub b o e
           g0:=A.g0
           keep:=λb o e n=>by rw[vt (λz=>by subst z;rw[P.gr T]at e;ext e)];show A.keep b o e n
           fr:=A.fr
           am:=λb hb=>by
            by_cases z:b=p
            .subst z;show#v[_,vp]
            .rw[vt z];show A.am b hb
           len:=A.len
           sl:=λj t ej=>(A.sl j t ej).gk (vw.refl _) (λb u z to q=>by rw[vt (λy=>Cy (k:=k) apt h j t ej to (by rw[z,y]))];show q) λb u _ _ _ q=>q
           ap:=A.ap }
   .have ez:d.drop i=[]:=lI ();rw[ez]at a;ext a;rw[bF]at kk;show .inl #v[(wk i Hi H2 Y Ri.sub).2 (),kk p acc Hi H2 (s1.t Y) Ri C W (P.gr T) apt rs]
  .ext e
#print f
def RX{eh:List Nat}(c:eh.Nodup)(h:PE X e (G5 (S? G s) (tFG G k g) (m? G b) (tF G a) k eh)):PE X e (y0 G (vS k eh s g b a)):=PE.cx h (OD c)
def RY:PIf X [] (m? G wJ):=λa s d H Q I h=>by let#v[F,i,f,b,c,R,e,k]:=h;ext e;show Vy a s d H Q I (k _ _ (vw.refl _) R)
end
def yd:D->Bool
 |.I=>γ|.bl _=>γ|.int _=>γ|.str _=>γ|_=>δ
def vD:D->V
 |.I=>.I|.bl b=>.bl b|.int i=>.int i|.str x=>.str x|_=>.I
section
variable{G:Bg}
def zw{d:D}{v:V}(h:c3 G H d v)(f:yd d=γ):v=vD d:=by ext d<;>first|(delta c3 at h;show h)|ext f
def Er{d:D}(f:yd d=γ):∀H,c3 G H d (vD d):=λH=>by ext d<;>first|(delta c3;rfl)|ext f
theorem Fe:∀{a:aV} {b:bC},a9 G H a b->a.all yd=γ->b=a.map vD
 |[],b,h,f=>by delta a9 at h;show h
 |d::a,b,h,f=>by let#v[v,r,rfl,c,e]:=h;rw[iw,bA]at f;rw[aA,zw c f.1,Fe e f.2]
def Lr{d:D}(f:yd d=γ):DF (vD d)=γ:=by ext d<;>first|rfl|ext f
theorem Jf:∀{a:aV},a.all yd=γ->(a.map vD).all DF=γ
 |[],_=>rfl
 |d::a,f=>by rw[iw,bA]at f;rw[aA,iw,Lr f.1,Jf f.2];rfl
def iE.or{f:aa->aa->Sem aa}{r b:R2}(h:iE X f r)(i:iE X f b):iE X f (λx y H Q=>r x y H Q\/b x y H Q):=λa s e H x y v u Q I c d q=>q.elim (h a s e H x y v u Q I c d) (i a s e H x y v u Q I c d)
def ki.or{r d:R2}{g c:D->D->Option D}(h:ki G r g)(j:ki G d c):ki G (λx y H Q=>r x y H Q\/d x y H Q) (λx y=>match g x y with|some z=>U z|none=>c x y):=λx y z b H v u Q e s f i k=>by
 cases a:g x y with
 |some w=>erw[a]at e;ext e;show .inl (h x y _ b H v u Q a s f i k)
 |none=>erw[a]at e;show .inr (j x y z b H v u Q e s f i k)
def dI(C:Int->Int->Bool)(g:Int->Int->D):D->D->Option D
 |.int a,.int b=>if C a b=γ then U (g a b)else Z
 |_,_=>Z
#print h
def OE{C:Int->Int->Bool}{d:Int->Int->Prop}{g:Int->Int->D}{f:Int->Int->V}(hC:∀a b,C a b=γ->d a b)(h:∀a b,yd (g a b)=γ/\vD (g a b)=f a b):ki G (rI d f) (dI C g):=λx y z m H v u Q e s j l k=>by
 delta dI at e;split at e
 .rename_i a b;split at e
  .rename_i i;ext e;show#v[a,b,j,l,hC _ _ i,by rw[<-(h a b).2];show k _ λc w=>Er (h a b).1 c]
  .ext e
 .ext e
def Fg{g:Int->Int->D}{d:Int->Int->V}(f:∀a b,yd (g a b)=γ/\vD (g a b)=d a b):ki G (Ra d) (dI (λw w=>γ) g):=λx y z j H v u Q e s h i k=>by
 delta dI at e;split at e
 .rename_i a b;split at e
  .ext e;show#v[a,b,h,i,by rw[<-(f a b).2];show k _ λc w=>Er (f a b).1 c]
  .ext e
 .ext e
#print f
def wA:=dI (λz z=>γ) λa b=>.int (a+b)
def Ls:=dI (λz z=>γ) λa b=>.int (a - b)
def DW(a:Int):Bool:=decide (-(2 ^ 64)<a)&&decide (a<2 ^ 64)
def zx:=dI (λa b=>DW a||DW b) λa b=>.int (a * b)
def ye:=dI (λz b=>decide (0<b)) λa b=>.int (a % b)
def DH:=dI (λz b=>decide (0<b)&&decide (b<1073741824)) λa b=>.int (a / b)
def FM:=dI (λa b=>decide (0<=b)&&decide (b<=1000000)&&decide (a.natAbs<2 ^ 64)) λa b=>.int (a ^ b.toNat)
#print "DA a b;IC b a" in def ϑ0:=dI (λz z=>γ) λa b=>.bl (decide (ϑ1<ϑ2))
#print "AU a b;Z6 b a" in def ϑ0:=dI (λz z=>γ) λa b=>.bl (decide (ϑ1<=ϑ2))
def Z7:ki G (Ra λi j=>.int (i+j)) wA:=Fg λz z=>#v[J,J]
def Z8:ki G (Ra λi j=>.int (i - j)) Ls:=Fg λz z=>#v[J,J]
def Z9:ki G (rI Vg λi j=>.int (i * j)) zx:=OE (λa b h=>by
 delta DW at h;erw[kF,bA,bU]at h;show h) λz z=>#v[J,J]
def aaa:ki G (rI (λz j=>0<j) λi j=>.int (i % j)) ye:=OE (λa b h=>by exists h) λz z=>#v[J,J]
def aab:ki G (rI Zf λi j=>.int (i / j)) DH:=OE (λa b h=>by delta Zf;exists h) λz z=>#v[J,J]
def aac:ki G (rI CPow λi j=>.int (i ^ j.toNat)) FM:=OE (λa b h=>by
 erw[bA,bU]at h;show#v[h.1.1,h.1.2,h.2]) λz z=>#v[J,J]
#print "Q i j DA;S j i IC" in def adϑ0:ki G (Ra λi j=>.bl (decide (ϑ1<ϑ2))) ϑ3:=Fg λz z=>#v[J,J]
#print "R i j AU;T j i Z6" in def adϑ0:ki G (Ra λi j=>.bl (decide (ϑ1<=ϑ2))) ϑ3:=Fg λz z=>#v[J,J]
def afn:D->D->Option D
 |.str a,.str b=>if a.length+b.length<=100000 then U (.str (a++b))else Z
 |_,_=>Z
def Lu{n:Nat}(h:n<=100000):n<=aS:=bW h (by rw[bS];decide)
def RZ:D->D->Option D
 |.str a,.str b=>U (.bl (!decide (b.cps.toList<a.cps.toList)))
 |_,_=>Z
#print h
def aad:ki G (λx y H Q=>∃i j,x=.str i/\y=.str j/\Q (.bl (!decide (j.cps.toList<i.cps.toList))) H) RZ:=λx y z f H v u Q e s c d k=>by
 delta RZ at e;split at e
 .rename_i a b;ext e;show#v[a,b,c,d,k _ λw w=>ya _]
 .ext e
#print f
def D.isN:D->Bool
 |.I=>γ
 |_=>δ
def Be:D->D->Option D
 |x,.I=>U (.bl x.isN)
 |_,_=>Z
def zy:D->D->Option D
 |x,.I=>U (.bl (!x.isN))
 |_,_=>Z
def OF{d:D}{v:V}(h:c3 G H d v):decide (v=.I)=d.isN:=by
 ext d<;>delta c3 at h
 .subst h;rfl
 .subst h;rfl
 .subst h;rfl
 .subst h;rfl
 .let#v[a,b,rfl,_]:=h;rfl
 .let#v[a,b,rfl,_]:=h;rfl
 .let#v[a,b,rfl,_]:=h;rfl
 .let#v[a,c,b,rfl,_]:=h;rfl
 .let#v[a,e,b,rfl,_]:=h;rfl
 .let#v[a,b,rfl,_]:=h;rfl
def aae:ki G (λx y H Q=>y=.I/\Q (.bl (decide (x=.I))) H) Be:=λx y z c H v u Q e s b a k=>by
 delta Be at e;split at e
 .ext e;delta c3 at a;calc#v[a,?_];rw[OF b];show k _ λw w=>ya _
 .ext e
def Wf:ki G (λx y H Q=>y=.I/\Q (.bl (!decide (x=.I))) H) zy:=λx y z c H v u Q e s b a k=>by
 delta zy at e;split at e
 .ext e;delta c3 at a;calc#v[a,?_];rw[OF b];show k _ λw w=>ya _
 .ext e
def ae5:D->D->Option D
 |.bl a,.bl b=>U (.bl (a != b))
 |_,_=>Z
mutual
def p?:D->Option L3.Dq
 |.I=>U .I
 |.bl b=>U (.bl b)
 |.int i=>U (.int i)
 |.str x=>U (.str x)
 |.bx a=>match CA a with
  |some l=>U (.bx l)
  |none=>Z
 |.ax a=>match CA a with
  |some l=>U (.ax l)
  |none=>Z
 |.O _=>Z
 |.obj _ _ _=>Z
 |.M _ _=>Z
 |.dit _ _=>Z
def CA:aV->Option (List L3.Dq)
 |[]=>U []
 |d::a=>match p? d with
  |some x=>match CA a with
   |some l=>U (x::l)
   |none=>Z
  |none=>Z
end
mutual
theorem GH:∀(d:D) (v:V) (x:L3.Dq),c3 G H d v->p? d=U x->L3.c3 G.K H x v
 |.I,v,x,h,e=>by delta p? at e;ext e;delta c3 at h;delta L3.c3;show h
 |.bl b,v,x,h,e=>by delta p? at e;ext e;delta c3 at h;delta L3.c3;show h
 |.int b,v,x,h,e=>by delta p? at e;ext e;delta c3 at h;delta L3.c3;show h
 |.str b,v,x,h,e=>by delta p? at e;ext e;delta c3 at h;delta L3.c3;show h
 |.bx f,v,x,h,e=>by
  delta p? at e;cases c:CA f with
  |none=>erw[c]at e;cases e
  |some l=>erw[c]at e;ext e;let#v[a,i,rfl,j,m]:=h;show#v[a,i,J,j,Es f i l m c]
 |.ax f,v,x,h,e=>by
  delta p? at e;cases c:CA f with
  |none=>erw[c]at e;cases e
  |some l=>erw[c]at e;ext e;let#v[a,i,rfl,j,m]:=h;show#v[a,i,J,f?.of j,Es f i l m c]
 |.O _,v,x,h,e=>by delta p? at e;cases e
 |.obj _ _ _,v,x,h,e=>by delta p? at e;cases e
 |.M _ _,v,x,h,e=>by delta p? at e;cases e
 |.dit _ _,v,x,h,e=>by delta p? at e;ext e
theorem Es:∀(a:aV) (b:bC) (l:List L3.Dq),a9 G H a b->CA a=U l->L3.a9 G.K H l b
 |[],b,l,h,e=>by delta CA at e;ext e;delta a9 at h;delta L3.a9;show h
 |d::a,b,l,h,e=>by
  delta CA at e;cases c:p? d with
  |none=>erw[c]at e;cases e
  |some x=>
   erw[c]at e;cases f:CA a with
   |none=>erw[f]at e;cases e
   |some m=>erw[f]at e;ext e;let#v[v,r,rfl,i,j]:=h;show#v[v,r,J,GH d v x i c,Es a r m j f]
end
def Hl(neg:Bool):D->D->Option D:=λx y=>match yd x&&yd y&&Q2 (vD x) (vD y)with
 |true=>U (.bl (if neg then !decide (vD x=vD y)else decide (vD x=vD y)))
 |false=>Z
def M5(neg:Bool):D->D->Option D:=λx y=>match p? x,p? y with
 |some a,U b=>if Lh a b&&decide (ij a<=20)&&decide (ij b<=20)then U (.bl (if neg then !n3 a b else n3 a b))else Z
 |_,_=>Z
def eo(neg:Bool):D->D->Option D:=λx y=>match Hl neg x y with
 |some z=>U z
 |none=>M5 neg x y
#print "f Eq δ;g Ne γ" in def aaϑ0:ki G rϑ1 (Hl ϑ2):=λx y z d H v u Q e s b c k=>by
 delta Hl at e;cases a:yd x&&yd y&&Q2 (vD x) (vD y)with
 |false=>erw[a]at e;cases e
 |true=>erw[a]at e;ext e;erw[bA]at a;rw[zw b a.1.1,zw c a.1.2];show#v[a.2,k _ λw w=>ya _]
#print h
def R7{neg:Bool}:ki G (MY G.K neg) (M5 neg):=λx y z j H v u Q e s h i k=>by
 delta M5 at e;cases c:p? x with
 |none=>erw[c]at e;cases e
 |some a=>
  cases f:p? y with
  |none=>erw[c,f]at e;cases e
  |some b=>
   erw[c,f]at e;split at e
   .rename_i d;ext e;erw[bA,bU]at d;show#v[a,b,GH x v a (c3.mono s _ _ h) c,GH y u b (c3.mono s _ _ i) f,d.1.1,d.1.2,d.2,k _ λw w=>ya _]
   .ext e
#print f
#print "h Eq Eq δ e x;i NotEq Ne γ f y" in def aaϑ0(a:X.A.units+64<cLine)(hK:X.K=G.K:=by rfl):iE X (bD .ϑ1) (λx y H Q=>rϑ2 x y H Q\/MY G.K ϑ3 x y H Q):=by rw[<-hK];show iE.or adϑ4 (Zϑ5 a)
#print "U Eq δ f;V Ne γ g" in def adϑ0:ki G (λx y H Q=>rϑ1 x y H Q\/MY G.K ϑ2 x y H Q) (eo ϑ2):=ki.or aaϑ3 R7
def R8:D->Option aV
 |.bx a=>U a
 |.ax a=>U a
 |.O a=>U a
 |_=>Z
def OG{d:D}{i:aV}{v:V}(h:c3 G H d v)(e:R8 d=U i):∃p b,v=.ref p/\(f? G.K H p b\/fh G.K H p b)/\a9 G H i b:=by
 cases d with
 |bx l=>ext e;delta c3 at h;let#v[a,b,rfl,c,f]:=h;show#v[a,b,J,.inr c,f]
 |ax l=>ext e;delta c3 at h;let#v[a,b,rfl,c,f]:=h;show#v[a,b,J,.inl (f?.of c),f]
 |O l=>ext e;delta c3 at h;let#v[a,b,rfl,c,f]:=h;show#v[a,b,J,.inl c,f]
 |_=>ext e
def k?(neg:Bool):D->D->Option D:=λx y=>match R8 y with
 |some a=>if yd x&&a.all yd then U (.bl (if neg then !inV (vD x) (a.map vD)else inV (vD x) (a.map vD)))else Z
 |none=>Z
def OH{K:ay}{H b:Hp}{p:Addr}{a:bC}(s:vw H b)(h:f? K H p a\/fh K H p a):f? K b p a\/fh K b p a:=h.imp s.seq (fh.mono s)
#print h
def Yj{neg:Bool}:ki G (rIn G.K neg) (k? neg):=λx y z j H v u Q e s d h k=>by
 delta k? at e;cases b:R8 y with
 |none=>erw[b]at e;cases e
 |some l=>
  erw[b]at e;split at e
  .rename_i a;ext e;erw[bA]at a;let#v[p,i,rfl,f,c]:=OG h b;refine#v[p,i,J,OH s f,?_,?_,?_]
   .rw[zw d a.1];show Lr a.1
   .rw[Fe c a.2];show Jf a.2
   .rw[zw d a.1,Fe c a.2];show k _ λw w=>ya _
  .ext e
#print f
#print "aaj In δ PX;Qf NotIn γ JQ" in def ϑ0(hK:X.K=G.K:=by rfl):iE X (bD .ϑ1) (rIn G.K ϑ2):=by rw[<-hK];show ϑ3
def e7(x y:D):Option D:=match y with
 |.int i=>match x with
  |.bx a=>x? a i
  |.ax a=>x? a i
  |.O a=>x? a i
  |.str x=>if x.length<=100000 then (x? x.cps.toList i).map λc=>.str #v[#[c]]else Z
  |_=>Z
 |_=>Z
#print h
def adW:ki G (rIx G.K) e7:=λx y z B H v u Q e s p A k=>by
 cases y with
 |int i=>
  subst A;cases x with
  |bx d=>let#v[a,o,rfl,f,h]:=p;let#v[w,l,m]:=En h (show x? d i=U z from e);show .inr (.inl #v[a,o,i,w,J,J,fh.mono s f,l,k _ λb j=>c3.mono j _ _ m])
  |ax d=>let#v[a,o,rfl,f,h]:=p;let#v[w,l,m]:=En h (show x? d i=U z from e);show .inl #v[a,o,i,w,J,J,s.seq (f?.of f),l,k _ λb j=>c3.mono j _ _ m]
  |O d=>let#v[a,o,rfl,f,h]:=p;let#v[w,l,m]:=En h (show x? d i=U z from e);show .inl #v[a,o,i,w,J,J,s.seq f,l,k _ λb j=>c3.mono j _ _ m]
  |str t=>
   subst p;delta e7 at e;simp only at e;split at e
   .rename_i r;cases q:x? t.cps.toList i with
    |none=>rw[q]at e;cases e
    |some c=>rw[q]at e;ext e;show .inr (.inr #v[t,i,c,J,J,Lu r,q,k _ λn n=>zN _])
   .cases e
  |_=>cases e
 |_=>ext e
#print f
def ix_X(hK:X.K=G.K:=by rfl):ε X (rIx G.K):=by rw[<-hK];show Zp
def Jg(G:Bg)(r:bC->Hp->VK->Prop)(g:D->Option D):Prop:=∀x z b H v (Q:VK),g x=U z->vw b H->c3 G b x v->(∀w,(∀a,vw b a->c3 G a z w)->Q w H)->r [v] H Q
def Yk{e:Expr}{r:bC->Hp->VK->Prop}{g:D->Option D}{f:FE}(p:Jg G r g)(h:PE X e (tCB r (sh G (ab f vG)))):PE X e (tF G (c1 g f)):=PE.cx h λB H Q o=>by let#v[F,y,i,d,b,R,e,k]:=o;let#v[x,l,m]:=GB e;calc#v[F,y,i,[x],b,R,by delta ab;rw[l];rfl,λA j a s c rs=>?_];let#v[v,z,rfl,u,t]:=rs;subst t;show p x d j a v Q m c.sub u λw q=>k _ _ _ s c (q _ (vw.refl _))
def xA.or{f:aa}{r b:bC->Hp->VK->Prop}(h:xA X f r)(j:xA X f b):xA X f (λx H Q=>r x H Q\/b x H Q):=λa s i H e d Q I c q=>q.elim (h a s i H e d Q I c) (j a s i H e d Q I c)
def wW:D->Option D
 |.bx a=>U (.int a.length)
 |.ax a=>U (.int a.length)
 |.O a=>U (.int a.length)
 |.str x=>if x.length<=100000 then U (.int x.length)else Z
 |.M b a=>U (.int b.length)
 |_=>Z
def Qg:xA X (.builtin "len") (λc H Q=>∃a kvs,c=[V.ref a]/\Rd H a (.dK kvs)/\Q (.int kvs.length) H):=by intro b s l H c j Q I r h;let#v[a,kvs,rfl,e,q]:=h;let#v[u,rfl,f]:=lq r;ext f;show adt I e λt i d=>#v[.int kvs.length,H,d,#v[t,J],q]
def Yl(K:ay):bC->Hp->VK->Prop:=λb H Q=>(∃p c,b=[.ref p]/\(f? K H p c\/fh K H p c)/\Q (.int c.length) H)\/((∃z,b=[.str z]/\z.length<=aS/\Q (.int z.length) H)\/(∃a kvs,b=[V.ref a]/\Rd H a (.dK kvs)/\Q (.int kvs.length) H))
def Qh(hK:X.K=G.K:=by rfl):xA X (.builtin "len") (Yl G.K):=by rw[<-hK];show xA.or JR (xA.or JS Qg)
#print h
def aak:Jg G (Yl G.K) wW:=λx z j H v Q e s f k=>by
 cases x with
 |bx h=>ext e;let#v[a,d,rfl,b,c]:=f;calc .inl #v[a,d,J,.inr (fh.mono s b),?_];rw[<-vv c];show k _ λw w=>xW _
 |ax h=>ext e;let#v[a,d,rfl,b,c]:=f;calc .inl #v[a,d,J,.inl (s.seq (f?.of b)),?_];rw[<-vv c];show k _ λw w=>xW _
 |O h=>ext e;let#v[a,d,rfl,b,c]:=f;calc .inl #v[a,d,J,.inl (s.seq b),?_];rw[<-vv c];show k _ λw w=>xW _
 |str t=>
  delta wW at e;simp only at e;split at e
  .rename_i i;ext e;show .inr (.inl #v[t,by rw[f],Lu i,k _ λw w=>xW _])
  .cases e
 |M m h=>ext e;let#v[a,o,d,rfl,b,c,l]:=f;calc .inr (.inr #v[a,_,J,.inr #v[o,s _ _ b],?_]);rw[fQ,<- c,fA];show k _ λw w=>xW _
 |_=>ext e
#print f
def ID:D->Option D
 |.int i=>U (.int i)
 |.bl b=>U (.int (if b then 1 else 0))
 |_=>Z
def aal:Jg G (λc H Q=>(∃i,c=[.int i]/\Q (.int i) H)\/∃k,c=[.bl k]/\Q (.int (if k then 1 else 0)) H) ID:=λx z d H v Q e s a k=>by
 cases x with
 |int i=>ext e;delta c3 at a;subst a;show .inl #v[i,J,k _ λw w=>xW _]
 |bl b=>ext e;delta c3 at a;subst a;show .inr #v[b,J,k _ λw w=>xW _]
 |_=>ext e
def IE:aV->Option (List Bool)
 |[]=>U []
 |.bl b::r=>(IE r).map (b::·)
 |_=>Z
theorem Hm:∀{d:aV} {a:bC} {bs:List Bool},a9 G H d a->IE d=U bs->a=bs.map V.bl
 |[],a,bs,h,e=>by ext e;delta a9 at h;show h
 |.bl b::r,a,bs,h,e=>by
  let#v[v,q,rfl,f,i]:=h;delta IE at e;cases c:IE r with
  |none=>rw[c]at e;cases e
  |some l=>rw[c]at e;ext e;delta c3 at f;subst f;rw[Hm i c];rfl
 |.I::r,a,bs,h,e=>by cases e
 |.int _::r,a,bs,h,e=>by cases e
 |.str _::r,a,bs,h,e=>by cases e
 |.bx _::r,a,bs,h,e=>by cases e
 |.ax _::r,a,bs,h,e=>by cases e
 |.O _::r,a,bs,h,e=>by cases e
 |.obj _ _ _::r,a,bs,h,e=>by cases e
 |.M _ _::r,a,bs,h,e=>by cases e
 |.dit _ _::r,a,bs,h,e=>by ext e
def Ay:D->Option D
 |.ax a=>(IE a).map λbs=>.bl (bs.all id)
 |_=>Z
def aam:Jg G (λd H Q=>∃(p:Addr) (bs:List Bool),d=[.ref p]/\f? G.K H p (bs.map V.bl)/\Q (.bl (bs.all id)) H) Ay:=λx z j H v Q e s i k=>by
 cases x with
 |ax f=>
  delta Ay at e;simp only at e;cases b:IE f with
  |none=>rw[b]at e;cases e
  |some bs=>rw[b]at e;ext e;let#v[a,d,rfl,c,h]:=i;rw[Hm h b]at c;show#v[a,bs,J,s.seq (f?.of c),k _ λw w=>ya _]
 |_=>ext e
def Qi(a:X.k3=γ)(hK:X.K=G.K:=by rfl):xA X (.builtin "all") (λb H Q=>∃(p:Addr) (bs:List Bool),b=[.ref p]/\f? G.K H p (bs.map V.bl)/\Q (.bl (bs.all id)) H):=by rw[<-hK];show RA a
inductive Ty where
 |b (n:String)|c (k:Nat)
#print "val aa ype;v V y" in def Ty.ϑ0(G:Bg):Ty->ϑ1
 |.b n=>.tϑ2 n
 |.c k=>.ref (G.ca k)
def tyD:D->Ty
 |.I=>.b "NoneType" |.bl _=>.b "bool" |.int _=>.b "int" |.str _=>.b "str" |.bx _=>.b "tuple" |.ax _=>.b "list" |.O _=>.b "list" |.M _ _=>.b "dict" |.dit _ _=>.b "dict" |.obj c _ _=>.c c
structure M6(K:ay)(C:Addr):Prop where
 cl:P2 K C
 ha:c9 K (.ref C) "__class__" = U (U (.builtin "object.__class__"))
 hn:rZ K (.builtin "object.__class__") "__get__" = U (U (.builtin "getset_descriptor.__get__"))
 htk:W.takesIn K (.builtin "object.__class__")=U γ
 hm:W.mroIn K C (.type "object")=U γ
def R9{pins:dh}{σ:St}{s:aq}{A:bp}{E:aa->aq->Prop}{Q:aa->aq->Prop}{c:aa}{b:Bool}{d:D}{v:V}{u:aa}(I:b9 X pins σ H s)(hK:X.K=G.K)(hd:c3 G H d v)(f:d? v u)(i:∀k ns ds,d=.obj k ns ds->M6 X.K (G.ca k))
  (e:de X.K ((tyD d).val G) c=U b) (h:∀tk,Q (.bool b) { s with toks:=tk }):av (model X.prog X.w) A (call (.builtin "isinstance") [u,c]) Q E s:=by
 cases d with
 |I=>delta c3 at hd;subst hd;show zY I f .I e h
 |bl x=>delta c3 at hd;subst hd;show zY I f (.bl x) e h
 |int x=>delta c3 at hd;subst hd;show zY I f (.int x) e h
 |str x=>delta c3 at hd;subst hd;show zY I f (.str x) e h
 |bx ds=>let#v[a,xs,rfl,h1,h2]:=hd;ext f;rw[<-hK]at h1;let#v[its,_,p,_]:=I.tuple h1;let#v[o,q1,q2,_]:=p;show cQ rL I.n? #v[o,q1,q2] e (λz=>nomatch z) h
 |ax ds=>let#v[a,xs,rfl,h1,h2]:=hd;show zY I f (.ax h1) e h
 |O ds=>let#v[a,xs,rfl,h1,h2]:=hd;ext f;rw[<-hK]at h1;let#v[its,_,p,_]:=I.list h1;let#v[o,n,q1,q2,_]:=p;show cQ nH I.n? #v[o,q1,q2] e (λz=>nomatch z) h
 |M ks ds=>let#v[a,o,xs,rfl,h1,h2,h3]:=hd;ext f;let#v[q0,_,_,vs,_,ob,es,ep,q1,q2,_]:=(show er X.prog X.w H s.heap a (.k4 o (.dK (ks.zip xs))) from I.e8 a _ h1);show cQ kO I.n? #v[ob,q1,q2.1] e (λz=>nomatch z) h
 |dit ks ds=>let#v[a,xs,rfl,#v[o,qs,h1,_,h3,_],_]:=hd;ext f;show cQ kO I.n? #v[o,(show er X.prog X.w H s.heap a (.ext (isO a o)) from I.e8 a _ h1).1,h3.ex.1] e (λz=>nomatch z) h
 |obj k ns ds=>have ci:=i k ns ds J;let#v[a,dx,xs,rfl,h1,h2,h3]:=hd;show zY I f (.l' h1 ci.cl ci.ha ci.hn ci.htk ci.hm) e h
def zL(t:Ty->Option Bool):D->Option D:=λd=>(t (tyD d)).map .bl
def Jh(c:Ty){t:Ty->Option Bool}(m:∀y b,t y=U b->de X.K (y.val G) (c.val G)=U b)(l:∀k b,t (.c k)=U b->M6 X.K (G.ca k))(hK:X.K=G.K:=by rfl):
  xA X (.builtin "isinstance") (λi H Q=>∃d x b,i=[x,c.v G]/\c3 G H d x/\t (tyD d)=U b/\Q (.bl b) H):=by
 intro f s C H i B Q I r h;let#v[d,x,b,rfl,hd,e,q]:=h;let#v[u,p,rfl,o,a]:=vals2 r;have j:p=c.val G:=by ext c<;>show a
 subst j;show R9 I hK hd o (λk A w z=>by subst z;show l k b e) (m _ _ e) λtk=>#v[.bl b,H,I.w? _,J,q]
def OI{e:Expr}{c:Ty}{t:Ty->Option Bool}{f:FE}(h:PE X e (tCB (λu H Q=>∃d x b,u=[x,c.v G]/\c3 G H d x/\t (tyD d)=U b/\Q (.bl b) H) (Ef (tF G f) (Ef (tC (c.v G)) JM)))):PE X e (tF G (c1 (zL t) f)):=PE.cx h λz H Q q=>by
 let#v[F,w,m,d,j,R,e,k]:=q;let#v[x,p,a]:=GB e;delta zL at a;cases i:t (tyD x)with
 |none=>rw[i]at a;cases a
 |some b=>rw[i]at a;ext a;show#v[F,w,m,x,j,R,p,λv y o s l r=>#v[x,v,b,J,c3.mono l.sub _ _ r,i,k _ _ _ s l (ya b)]]
def xi(f g:FE):FA:=λe=>match f e with
 |some (.ax c,a)=>match g a with
  |some (.ax d,b)=>if c.length+d.length<=1000 then U (c++d,b)else Z
  |_=>Z
 |_=>Z
#print h
def Wg{a b:Expr}{f g:FE}{pos:Pos}(I:PE X a (tF G f))(M:PE X b (tF G g)):PE X (.BinOp a .Add b pos) (y0 G (xi f g)):=PE.cx (Of Zr I M) λσ H Q N=>by
 let#v[F,T,q,d,W,R,e,k]:=N;delta xi at e;split at e
 .rename_i xs c A;split at e
  .rename_i ys Y B;split at e
   .rename_i O;ext e;calc#v[F,T,q,_,c,R,A,λv t w s y r=>#v[F,c,t,_,_,y,B,λu H2 x o R2 S=>?_]];have P:=c3.mono o _ _ r;let#v[a1,i,rfl,C,l]:=P;let#v[z,j,rfl,E,m]:=S;calc#v[a1,z,i,j,J,J,R2.sub _ _ C,R2.sub _ _ E,by rw[<-vv l,<- vv m];show ze O,λp h=>?_];show k p _ _ _ (s.t o) (R2.gi h _) vp (R2.ey h) (R2.gr h) (R2.apart h) (xl l m)
   .ext e
  .ext e
 .ext e
#print f
def CB(f:FE):FA:=λc=>match f c with
 |some (d,a)=>match R8 d with
  |some b=>U (b,a)
  |none=>Z
 |none=>Z
def Sa{e:Expr}{f:FE}(h:PE X e (tCB (λm H Q=>∃p c,m=[.ref p]/\(f? G.K H p c\/fh G.K H p c)/\∀l,H l=Z->Q (.ref l) (el H l (.ax c))) (sh G (ab f vG)))):PE X e (y0 G (CB f)):=PE.cx h λM H Q x=>by
 let#v[F,o,q,E,A,R,e,k]:=x;delta CB at e;rcases vT (f:=f) (ρ:=o)with i|⟨d,B,i⟩<;>erw[i]at e
 .ext e
 .cases j:R8 d with
  |none=>erw[j]at e;cases e
  |some t=>erw[j]at e;ext e;calc#v[F,o,q,[d],_,R,by delta ab;rw[i];rfl,λc C r s a rs=>?_];let#v[v,I,rfl,z,y]:=rs;subst y;let#v[p,m,rfl,u,w]:=OG z j;show#v[p,m,J,OH a.sub u,λl b=>k l _ _ _ s (a.gi b _) vp (a.ey b) (a.gr b) (a.apart b) w]
def M7(hK:X.K=G.K:=by rfl):xA X (.type "list") (λb H Q=>∃p a,b=[.ref p]/\(f? G.K H p a\/fh G.K H p a)/\∀l,H l=Z->Q (.ref l) (el H l (.ax a))):=by rw[<-hK];show JT
def FN(f:FE):FE:=λc=>match f c with
 |some (.ax b,a)=>U (.bx b,a)
 |some (.bx b,a)=>U (.bx b,a)
 |_=>Z
#print h
def Sd{e:Expr}{f:FE}(h:PE X e (tCB (λr H Q=>∃p b,r=[.ref p]/\((f? G.K H p b/\∀l,H l=Z->Q (.ref l) (el H l (.bx b)))\/(fh G.K H p b/\Q (.ref p) H))) (sh G (ab f vG)))):PE X e (tF G (FN f)):=PE.cx h λI H Q A=>by
 let#v[F,y,w,E,C,R,e,k]:=A;delta FN at e;split at e
 .rename_i r u i;ext e;calc#v[F,y,w,[_],_,R,by delta ab;rw[i];rfl,λb z d s a rs=>?_];let#v[v,B,rfl,c,o]:=rs;subst o;let#v[p,t,rfl,j,x]:=c;calc#v[p,t,J,.inl #v[f?.of (a.sub _ _ j),λl m=>?_]];show k _ _ _ (s.t (vE (a.ey m) _)) (a.J? m _) (zM (fh.of vp) (a9.mono (vE (a.ey m) _) _ _ x))
 .rename_i r u i;ext e;calc#v[F,y,w,[_],_,R,by delta ab;rw[i];rfl,λb z d s a rs=>?_];let#v[v,B,rfl,c,o]:=rs;subst o;have q:=c;let#v[p,t,rfl,j,x]:=c;show#v[p,t,J,.inr #v[fh.mono a.sub j,k _ _ _ s a q]]
 .ext e
#print f
def Qj(hK:X.K=G.K:=by rfl):xA X (.type "tuple") (λb H Q=>∃p a,b=[.ref p]/\((f? G.K H p a/\∀l,H l=Z->Q (.ref l) (el H l (.bx a)))\/(fh G.K H p a/\Q (.ref p) H))):=by rw[<-hK];show Iu
def gs(xs:aV)(lo a:Option Int):aV:=(xs.drop (HT.tX xs.length 0 lo)).take (HT.tX xs.length xs.length a - HT.tX xs.length 0 lo)
def Lv{a:Hp}{b:aV}{d:bC}{lo c:Option Int}(r:a9 G a b d):a9 G a (gs b lo c) (PU d lo c):=by delta gs PU;rw[<-vv r];show Jc _ (Jb _ r)
def cSl(f:FE)(lo c:Option Int):FA:=λd=>match f d with
 |some (.ax b,a)=>U (gs b lo c,a)
 |some (.O b,a)=>U (gs b lo c,a)
 |_=>Z
def tO(o:Option Int):TO:=λz H Q=>Q o H
#print h
def Qk{e:Expr}{f:FE}{lo o:Option Int}(h:PE X e (tSl (PV G.K) (tF G f) (tO lo) (tO o))):PE X e (y0 G (cSl f lo o)):=PE.cx h λC H Q A=>by
 let#v[F,y,t,z,w,R,e,k]:=A;have ma:∀{a:Addr} {j:bC} {i:aV} {d b:Hp},vw t d->bc G F C w d b->f? G.K d a j->a9 G d i j->z=gs i lo o->PV G.K (.ref a) lo o b Q:=λ{a j i d b} s c l m e=>by subst e;show#v[a,j,J,c.sub.seq l,λp q=>k p _ _ _ s (c.gi q _) vp (c.ey q) (c.gr q) (c.apart q) (Lv m)]
 delta cSl at e;split at e
 .rename_i j x u;ext e;calc#v[F,y,t,_,_,R,u,λv d b s c r=>?_];let#v[a,B,rfl,l,m]:=r;show ma s c (f?.of l) m J
 .rename_i j x u;ext e;calc#v[F,y,t,_,_,R,u,λv d b s c r=>?_];let#v[a,B,rfl,l,m]:=r;show ma s c l m J
 .ext e
#print f
def Se{n:Int}{j pos}:PO X (U (.Constant (.int n) j pos)) (tO (U n)):=λa s b H Q I h=>Ol MG a s b H Q I #v[n,J,h]
def adX:PO X Z (tO Z):=Oj
def sl_X(hK:X.K=G.K:=by rfl):SlR X (PV G.K):=by rw[<-hK];show Vs
end
def Sl.ν:Sl->Sl
 |.un=>.un
 |.q d=>.q d
 |.J a=>.q (.ax a)
 |.pm a=>.q (.ax a)
 |.dk _ _=>.un
 |.ob c b a=>.q (.obj c b a)
section
theorem bc.ν(R:bc G F σ ρ H0 H):bc G #v[H,H,[]] σ (ρ.map Sl.ν) H H where
 sub:=vw.refl _
 g0:=vw.refl _
 keep:=λb o e z=>e
 fr:=λb o e=>.inl e
 am:=λa h=>by ext h
 len:=by rw[ah];show R.len
 sl:=λi s e=>by
  rw[br]at e;cases f:ρ[i]? with
  |none=>rw[f]at e;cases e
  |some t=>
   rw[f]at e;ext e;have ok:=R.sl i t f;cases t with
   |un=>trivial
   |q d=>let#v[v,h1,h2]:=ok;show#v[v,h1,c3.mono R.sub _ _ h2]
   |J ds=>let#v[a,xs,h1,h2,h3,h4,h5]:=ok;show#v[_,h1,AC h2 (a9.mono R.sub _ _ h5)]
   |pm ds=>let#v[a,xs,h1,h2,h3,h4,h5]:=ok;show#v[_,h1,AC h2 (a9.mono R.sub _ _ h5)]
   |dk ks ds=>trivial
   |ob c ns ds=>let#v[a,dx,xs,h1,h2,h3,h4,h5,h6]:=ok;show#v[_,h1,by delta c3;show#v[a,dx,xs,J,h2,h5,a9.mono R.sub _ _ h6]]
 ap:=λi j s t a z e z so=>by
  rw[br]at e;cases f:ρ[i]? with
  |none=>rw[f]at e;cases e
  |some t=>rw[f]at e;ext e;ext t<;>ext so
def bc.unbor(R:bc G F h ρ d H)(c:bc G #v[H,H,[]] i f j a):bc G F h ρ d a:=
 R.gk (λb o e=>c.keep b o e (by simp)) (vw.refl _) (λb o e=>c.keep b o (R.sub _ _ e) (by simp)) λb o e=>.inl e
def Et(f:FE):FE:=λa=>match f (a.map Sl.ν)with
 |some (d,_)=>if yd d=γ then U (d,a)else Z
 |none=>Z
def DI(f:FT):FT:=λa=>match f (a.map Sl.ν)with
 |some (d,_)=>U (d,a)
 |none=>Z
#print h
def aan(h:PE X e (tF G f)):PE X e (tF G (Et f)):=PE.cx h λt H Q m=>by
 let#v[F,i,p,d,o,R,e,k]:=m;delta Et at e;rcases vT (f:=f) (ρ:=i.map Sl.ν)with a|⟨x,b,a⟩<;>erw[a]at e
 .ext e
 .split at e
  .rename_i c;ext e;calc#v[_,_,H,d,b,R.ν,a,λv q j s l r=>?_];rw[zw r c];show k _ _ _ (vw.refl _) (R.unbor l) (Er c _)
  .ext e
#print f
def Wh(h:PT X e (m? G f)):PT X e (m? G (DI f)):=PT.cx h λq H Q l=>by
 let#v[F,c,o,d,m,R,e,k]:=l;delta DI at e;rcases vT (f:=f) (ρ:=c.map Sl.ν)with a|⟨x,b,a⟩<;>erw[a]at e
 .ext e
 .ext e;show#v[_,_,H,d,b,R.ν,a,λp i s j=>k _ _ (vw.refl _) (R.unbor j)]
def yI(g h:D->D->Option D)(d e f:FE):FE:=λi=>match d i with
 |some (x,b)=>match e b with
  |some (y,a)=>match g x y with
   |some (.bl γ)=>match f a with
    |some (z,c)=>match h y z with
     |some w=>U (w,c)
     |none=>Z
    |none=>Z
   |some (.bl δ)=>U (.bl δ,a)
   |_=>Z
  |none=>Z
 |none=>Z
#print h
def Lx(Y:ki G r g)(I:ki G r' X):∀N H Q,tF G (yI g X S T W) N H Q->ML r r' (tF G S) (tF G T) (tF G W) N H Q:=λN H Q hh=>by
 let#v[F,m,H0,d,ρ',R,e,k]:=hh;delta yI at e;rcases vT (f:=S) (ρ:=m)with p|⟨x,b,p⟩<;>erw[p]at e
 .ext e
 rcases vT (f:=T) (ρ:=b)with A|⟨y,c,A⟩<;>erw[A]at e
 .ext e
 calc#v[F,m,H0,x,b,R,p,λv H1 H1' s1 R1 r1=>#v[F,b,H1,y,c,R1,A,λu h i o R2 M=>?_]];split at e
 .rename_i B;calc Y x y _ h i v u _ B R2.sub (c3.mono o _ _ r1) M λw l=>?_;have a:=l h (vw.refl _);calc#v[γ,a,Iw ?_];rcases vT (f:=W) (ρ:=c)with C|⟨z,ρ3,C⟩<;>erw[C]at e
  .ext e
  cases E:X y z with
  |none=>erw[E]at e;cases e
  |some q=>erw[E]at e;ext e;calc#v[F,c,h,z,_,R2,C,λt O j s3 P r3=>?_];show I y z _ O j u t Q E P.sub (c3.mono s3 _ _ M) r3 λw l=>k w O j (s1.t (o.t s3)) P (l _ (vw.refl _))
 .rename_i B;ext e;calc Y x y _ h i v u _ B R2.sub (c3.mono o _ _ r1) M λw l=>?_;have a:=l h (vw.refl _);show#v[δ,a,Iv (k _ _ _ (s1.t o) R2 (ya δ))]
 .ext e
#print f
def Sf(u:iE X (bD op) r)(f:iE X (bD d) w)(t:ki G r g)(e:ki G w l)(m:PE X a (tF G h))(o:PE X b (tF G i))(p:PE X c (tF G j))
  (q:lastMarks [op,d] [b,c]=δ:=by with_unfolding_all rfl):PE X (.Compare a [op,d] [b,c] pos) (tF G (yI g l h i j)):=PE.cx (Q5 u f m o p q) (Lx t e)
def Ql(B:iE X (bD op) r)(i:iE X (bD f) C)(A:ki G r g)(h:ki G C t)(u:PE X a (tF G o))(w:PE X b (tF G p))(x:PE X c (tF G q))
  (z:lastMarks [op,f] [b,c]=δ:=by with_unfolding_all rfl):PT X (.Compare a [op,f] [b,c] pos) (m? G (cT (yI g t o p q))):=PT.cx (Q6 B i u w x z) λl H Q y=>by
 let#v[F,E,m,d,j,R,e,k]:=Oy l H Q y;show Lx A h l H _ #v[F,E,m,d,j,R,e,k]
end
def Bf(P:bj)(w:aR)(K:ay)(b:Str->Option aa)(a7:Heap)(k:Nat)(x:Str)(c:aD)(d:Sp):Prop:=
 ∃(f:Addr) (a:cy),b x=U (.ref f)/\eM K (.ref f)=γ/\km K a c []/\yS P w K b a7 yy k f a c d
def J0(G:Bg)(P:bj)(w:aR)(d:Str->Option aa)(a7:Heap)(k:Nat)(x:Str)(c:Nat)(e:aD)(dvs:bC)(g:aV->Option (aD×aV)):Prop:=
 ∃(f:Addr) (b:cy) (a:List aa),Mk G.K (G.ca c) f/\d x=U (.ref (G.ca c))/\km G.K b e a/\df dvs a/\yS P w G.K d a7 yy k f b e (spI G c g)
def BD(G:Bg)(P:bj)(w:aR)(d:Str->Option aa)(a7:Heap)(k:Nat)(m:Str)(c:Nat)(h:aV->Option D):Prop:=
 ∃(f:Addr) (a:cy) (b:aD),P2 G.K (G.ca c)/\Meth G.K (G.ca c) m f/\km G.K a b []/\yS P w G.K d a7 yy k f a b (gj G h)
section
def FP{b:Type}(g:aV->b):(λa=>g (a++[]))=g:=funext λa=>by rw[bF]
#print "aao gj tF vo V5;Wi tp y0 wb RQ" in def ϑ0(D:Bf X.prog X.w X.K X.mg X.a7 k x u (ϑ1 G g))(r:xg k X.A)(l:PA X (e::b) (sh G a))(o:Gl X x:=by rfl)(c:(x==("__debug__" : Str))=δ:=by decide)(m:aE (e::b) X.a8=(δ,eval e X.a8)::aE b X.a8:=by rfl)(hpl:(bM pos (aE b X.a8)).any (·.1)=δ:=by rfl):
  PE X (.Call (.Name x p) (e::b) [] pos) (ϑ2 G (ϑ3 g a)):=by
 let#v[f,t,d,h,i,j]:=D;have q:=ϑ4 (λz=>vO) (Eg (p:=p) j r o d h i .nil FK l c m hpl);rw[FP]at q;show q
def Sg(D:Bf X.prog X.w X.K X.mg X.a7 k x l (tp G g))(i:xg k X.A)(h:Gl X x:=by rfl)(a:(x==("__debug__" : Str))=δ:=by decide):PE X (.Call (.Name x p) [] [] pos) (y0 G (wb g vG)):=by let#v[f,j,b,c,d,e]:=D;show P9 (Re e i h b c d .nil FK a)
def Wj(D:Bf X.prog X.w X.K X.mg X.a7 k x y (π G g))(r:xg k X.A)(t:PE X e (Aa i))(o:PA X b (sh G a))(q:Gl X x:=by rfl)(c:(x==("__debug__" : Str))=δ:=by decide)(d:aE (e::b) X.a8=(δ,eval e X.a8)::aE b X.a8:=by rfl)(hpl:(bM pos (aE b X.a8)).any (·.1)=δ:=by rfl):
  PE X (.Call (.Name x p) (e::b) [] pos) (tF G (v9 g i a)):=by
 let#v[f,u,h,j,l,m]:=D;show Z5 (Eg m r q h j l .nil FK (wQ t o d) c d hpl)
def Wk(M:J0 G X.prog X.w X.mg X.a7 k x c z dvs g)(hd:∀H,a9 G H dds dvs)(u:xg (k+1) X.A)(q:PA X (e::b) (sh G a))(hK:X.K=G.K:=by rfl)(t:Gl X x:=by rfl)(d:(x==("__debug__" : Str))=δ:=by decide)
  (r:aE (e::b) X.a8=(δ,eval e X.a8)::aE b X.a8:=by rfl) (hpl:(bM pos (aE b X.a8)).any (·.1)=δ:=by rfl):
  PE X (.Call (.Name x p) (e::b) [] pos) (tF G (v7 c (λh=>g (h++dds)) a)):=by
 let#v[f,y,h,i,m,j,o,l]:=M;rw[<-hK]at i j l;show V7 hd (Vn i l u t m j o FK q d r hpl)
def Ym(M:∀c h,g c=U h->BD G X.prog X.w X.mg X.a7 k m c h)(o:xg k X.A)(hK:X.K=G.K):∀C a,MT G g C a->MOk X C m a [] E0:=λC a h=>by let#v[c,h,e,rfl,rfl]:=h;let#v[f,l,p,b,d,i,j]:=M c h e;rw[<-hK]at b d i j;show#v[k,f,l,p,[],b,d,j,o,i,.nil,FK]
def Qm(M:∀c h,g c=U h->BD G X.prog X.w X.mg X.a7 k m c h)(l:xg k X.A)(j:PE X o (tF G f))(i:PA X (e::b) (sh G a))(hK:X.K=G.K:=by rfl)
  (hst:aE (e::b) X.a8=(δ,eval e X.a8)::aE b X.a8:=by rfl) (hpl:(bM pos (aE b X.a8)).any (·.1)=δ:=by rfl)
  (p:eval (.Call (.Attribute o m apos) (e::b) [] pos) X.a8=(do
   let d<-eval o X.a8
   standAt apos.atName
   let (f,first)<-holding [d] (getMethod d m pl)
   callWith pos f first (bM pos (aE (e::b) X.a8)) (backToKw pos (eI [] X.a8))):=by rfl):
  PE X (.Call (.Attribute o m apos) (e::b) [] pos) (tF G (vZ g m f a)):=V6 (RS (MT G g) (Ym M l hK) j i hst hpl p)
def M8(M:∀c h,g c=U h->BD G X.prog X.w X.mg X.a7 k m c h)(d:xg k X.A)(b:PE X o (tF G f))(hK:X.K=G.K:=by rfl)
  (e:eval (.Call (.Attribute o m apos) [] [] pos) X.a8=(do
   let a<-eval o X.a8
   standAt apos.atName
   let (f,first)<-holding [a] (getMethod a m pl)
   callWith pos f first (bM pos (aE [] X.a8)) (backToKw pos (eI [] X.a8))):=by rfl):
  PE X (.Call (.Attribute o m apos) [] [] pos) (tF G (vZ g m f vG)):=RT (Qb (MT G g) (Ym M d hK) b e)
end
section
variable{K:ay}{st:Stmt}
abbrev DJ(P:bj)(w:aR)(K:ay)(a:Str->Option aa)(a7:Heap)(N:aD)(qual:Str)(st:Stmt)(f:Addr)(cdv:aa)(A:bp)(b8:List Env)(s:aq)(H:Hp)(E:XK):Cx:=(K2 yy P w K a a7 N qual (vH st) f cdv A b8 s H E).nox
theorem Sh(c:g=e? np n b)(d:ps.length=np)(hN:N.length=n)(F:S2 K x qual st f a)(S:xc N ps (vH st))(body:∀(cdv:aa) (A:bp) (b8:List Env) (s:aq) (H:Hp) (E:XK),xg k (A.deeper (envOfC qual (vH st) (~~~s) f cdv))->kv (DJ P w K i a7 N qual st f cdv A b8 s H E) (wa st) (kb G b)):
  yS P w K i a7 yy (k+1) f a ps (gj G g):=by
 subst c d hN;show F.ok S (adK VX) λcdv A b8 s H j Q E e h=>#v[_,body cdv A b8 s H E e,VU (by have:=aW cD S.pre;rw[bJ]at this;omega) h]
theorem adZ(d:g=wh l n b)(e:a.length=l)(hN:N.length=n)(F:S2 K x qual st f c)(S:xc N a (vH st))(body:∀(cdv:aa) (A:bp) (b8:List Env) (s:aq) (H:Hp) (E:XK),xg k (A.deeper (envOfC qual (vH st) (~~~s) f cdv))->kv (DJ P w K j a7 N qual st f cdv A b8 s H E) (wa st) (kb G b)):
  yS P w K j a7 yy (k+1) f c a (tp G g):=by
 subst d e hN;show F.ok S (adL VY) λcdv A b8 s H m Q E i h=>#v[_,body cdv A b8 s H E i,VW (by have:=aW cD S.pre;rw[bJ]at this;omega) h]
theorem ad0{a:aD}(d:g=ZY l n b)(e:a.length=l)(hN:N.length=n)(F:S2 K x qual st f c)(S:xc N (p::a) (vH st))(body:∀(cdv:aa) (A:bp) (b8:List Env) (s:aq) (H:Hp) (E:XK),xg k (A.deeper (envOfC qual (vH st) (~~~s) f cdv))->kv (DJ P w K j a7 N qual st f cdv A b8 s H E) (wa st) (kb G b)):
  yS P w K j a7 yy (k+1) f c (p::a) (π G g):=by
 subst d e hN;show F.ok S (RU Wc) λcdv A b8 s H m Q E i h=>#v[_,body cdv A b8 s H E i,Wb (by have:=aW cD S.pre;rw[bJ,aL]at this;omega) h]
def Yn(d:∀a q,g a=U q->a.length=f):∀b H Q E,spI G c g b H Q E->b.length=f+1:=λb H Q E h=>by let#v[p,j,o,i,a,m,l,rfl,_,_,_,r,e,_]:=h;rw[aL,<- vv r,d _ _ e]
theorem ad1{a:aD}(e:g=vf c m n b)(i:a.length=m)(hN:N.length=n)(F:S2 K x qual st f d)(S:xc N (p::a) (vH st))(body:∀(cdv:aa) (A:bp) (b8:List Env) (s:aq) (H:Hp) (E:XK),xg k (A.deeper (envOfC qual (vH st) (~~~s) f cdv))->kv (DJ P w K l a7 N qual st f cdv A b8 s H E) (wa st) (kb G b)):
  yS P w K l a7 yy (k+1) f d (p::a) (spI G c g):=by
 subst e i hN;show F.ok S (Yn λo q h=>(Hf h).1) λcdv A b8 s H r Q E j h=>#v[_,body cdv A b8 s H E j,OB (by have:=aW cD S.pre;rw[bJ,aL]at this;omega) h]
theorem aap{a:aD}(e:g=vf c m n b)(i:a.length=m)(hN:N.length=n)(F:P7 K x qual st f d T)(S:xc N (p::a) (vH st))(body:∀(cdv:aa) (A:bp) (b8:List Env) (s:aq) (H:Hp) (E:XK),xg k (A.deeper (envOfC qual (vH st) (~~~s) f cdv))->kv (DJ P w K l a7 N qual st f cdv A b8 s H E) (wa st) (kb G b)):
  yS P w K l a7 yy (k+1) f d (p::a) (spI G c g):=by
 subst e i hN;show F.ok S (Yn λo q h=>(Hf h).1) λcdv A b8 s H r Q E j h=>#v[_,body cdv A b8 s H E j,OB (by have:=aW cD S.pre;rw[bJ,aL]at this;omega) h]
end
section
variable{X:Cx}{G:Bg}
def Dk(G:Bg)(a:Str->Option aa)(x:Str)(d:D):Prop:=∃(v:V) (u:aa),a x=U u/\d? v u/\∀H,c3 G H d v
def Si(h:Dk G X.mg x d)(e:Gl X x:=by rfl)(hd:(x==("__debug__" : Str))=δ:=by decide):PE X (.Name x pos) (tF G (cC d)):=by let#v[v,u,a,b,c]:=h;show VF (N8 e a b hd) c
def Wl:FS:=λz=>Z
def yC(T:String):Ty->Option Bool
 |.b n=>if n="NoneType" then U δ else if n="bool" then U (T=="bool" ||T=="int")else if n="int" then U (T=="int")else if n="str" then U (T=="str")else if n="tuple" then U (T=="tuple")else if n="list" then U (T=="list")else if n="dict" then U (T=="dict")else Z
 |.c _=>Z
def Sj:∀k b,yC T (.c k)=U b->M6 X.K (G.ca k):=λk b h=>by ext h
def M9:List String:=["NoneType", "bool", "int", "str", "tuple", "list", "dict"]
def Hn{T:String}(h:(M9.all λn=>decide (de X.K ((Ty.b n).val G) (.type T)=yC T (.b n)))=γ):∀y b,yC T y=U b->de X.K (y.val G) (.type T)=U b:=λy b e=>by
 cases y with
 |c k=>cases e
 |b n=>
  by_cases a:n∈M9
  .rw[ba (bH.1 h n a)];show e
  .erw[M9,aJ,b0,or_false,not_or]at a;simp[yC,a]at e
#print "Sk list;Wm str" in def ϑ0:∀y b,yC "ϑ1" y=U b->de X.K (y.val G) (.type "ϑ1")=U b:=Hn (by kernel_rfl)
end
end L4
namespace L3
open PySem PySem.Spec PyProof.Rows L2
def Wn{X:Cx}{spos:Pos}{eh:List Nat}
  (O:X.k3=γ) (hN:X.N.Nodup) (T:X.N[i]?=U y) (hyl:Loc X.a8.scope y) (P:PI X r iter wi)
  (body:∀(l:List (Str×Addr)) (C:Addr) (p:List Addr) (s:aq) (H:Hp),PG (xh X c scope l C p s H) r g/\PIf (xh X c scope l C p s H) ifs tt/\PE (xh X c scope l C p s H) elt te)
  (hkind:scope.kind=.function:=by rfl) (hcell:(scope.names.all λy=>y.2 != .cell)=γ:=by rfl)
  (hloc:(scope.names.all λy=>y.2 != .local||scope.names.lookup y.1==U .local)=γ:=by rfl)
  (hfree:(scope.names.all λy=>y.2 != .free||(X.a8.kindOf y.1==U .cell||X.a8.kindOf y.1==U .free))=γ:=by rfl)
  (f:c.length=k+eh.length:=by rfl) (hcap:(c.drop k).map U=eh.map λj=>X.N[j]?:=by rfl)
  (hcf:((c.drop k).all λx=>scope.names.lookup x==U .free)=γ:=by rfl)
  (S:∀x,jd iter X.a8 x=pure x:=by intro _;rfl)
  (hsw:eL (.ListComp elt [#v[r,iter,ifs,0]] scope pos) (U (.Name y py)) spos.line X.a8=pure γ:=by rfl)
  (hfy:X.fn y=γ\/X.a8.scope.names.lookup y=U .local:=by first|show .inl J|show .inr J|assumption):
  PS X (.Assign [.Name y py] (.ListComp elt [#v[r,iter,ifs,0]] scope pos) spos) (Ee (G5 wi g tt te k eh) (Ab i)):=by
 intro B s σ H D I h;rw[exec_Assign_Name_used _ _ _ _ hsw];calc ar (rj (ar ?_));calc ar (cE (I0 O P body hkind hcell hloc hfree f hcap hcf S I h λa C m u s4 F Q mu fpC qn=>?_) (λn s' R=>aC (aC R)) λn n e=>e);let#v[oC,esC,nC,gC,dC,rC]:=id Q;have M:=mu.Rn (λb d=>aN.1 d▸fpC) (λb d=>aN.1 d▸#v[oC,gC,λv z=>by rw[dC]at z;ext z]);calc fb (Ob hN T hyl hfy _ s4 σ F (.ref a) (.ref a) (λt E=>D.nx t E) M J qn) λn s6 zz=>?_;let#v[w,G,A,q6]:=zz;let#v[W,Y,_]:=A.x4 (C,oC) (bG _ (bG _ (Ac (by simp) gC)));show#v[m,#v[oC,esC,nC,W,dC,rC],λh' q=>#v[w,G,A.nr.ia (λb o d e=>(q.2 b d).t e) Y fpC.2.1 fpC.2.2.2.1 fpC.2.2.2.2.1 fpC.2.2.2.2.2,q6]]
end L3
namespace L4
open PySem PySem.Spec PyProof.Rows L2 L3
section
def Ly{st:Stmt}(h:PS X st (Ee d g))(w:∀b H Q,a b H Q->d b H Q):PS X st (Ee a g):=PS.cx h λE b H c=>w _ _ _ c
def Sm{st:Stmt}{eh:List Nat}(c:eh.Nodup)(h:PS X st (Ee (G5 (S? G s) (tFG G k g) (m? G b) (tF G a) k eh) (Ab i))):PS X st (kb G (vR i (cL (vS k eh s g b a)))):=OA (Ly (Ly h (OD c)) tN_F)
end
section
def ve(h:f ρ=U (.nx ρ')):a0 f g ρ=g ρ':=by delta a0;rw[h]
def vW(h:f ρ=U (.rt d ρ')):a0 f g ρ=U (.rt d ρ'):=by delta a0;rw[h]
#print "5 γ f;Q δ g" in def vϑ0(h:c ρ=U (ϑ1,ρ')):fx c f g ρ=ϑ2 ρ':=by delta fx;rw[h]
#print "vK e d vR q;BE a ds yc J" in def ϑ0(h:ϑ1 ρ=U (ϑ2,ρ')):ϑ3 i ϑ1 ρ=U (.nx (ρ'.set i (.ϑ4 ϑ2))):=by delta ϑ3;rw[h]
#print "vF e d vz t;AD a ds xC n" in def ϑ0(h:ϑ1 ρ=U (ϑ2,ρ')):ϑ3 ϑ1 ρ=U (.rϑ4 ϑ2 ρ'):=by delta ϑ3;rw[h]
def wU(h:e ρ=U (d,ρ')):vY e ρ=U (.nx ρ'):=by delta vY;rw[h]
def vq{g:D->D->Option D}(a:e ρ=U (x,ρ1))(b:e' ρ1=U (y,ρ2))(c:g x y=U z):c2 g e e' ρ=U (z,ρ2):=by delta c2;rw[a];erw[b,c]
def wg{g:D->Option D}(b:e ρ=U (x,a))(c:g x=U z):c1 g e ρ=U (z,a):=by delta c1;rw[b];erw[c]
def Sn(a:e (ρ.map Sl.ν)=U (d,c))(b:yd d=γ):Et e ρ=U (d,ρ):=by delta Et;rw[a];erw[b,if_true]
def J1(a:c (ρ.map Sl.ν)=U (b,ρ1)):DI c ρ=U (b,ρ):=by delta DI;rw[a]
def wz(a:e ρ=U (.bl b,ρ1)):cT e ρ=U (b,ρ1):=by delta cT;rw[a]
def J2(d:c ρ=U (b,a)):zK c ρ=U (!b,a):=by delta zK;rw[d]
def CC(f:c ρ=U (δ,a))(h:e a=U (b,d)):Ah c e ρ=U (b,d):=by delta Ah;rw[f];show h
def vm(c:e ρ=U (d,ρ1))(f:a ρ1=U (ds,b)):ab e a ρ=U (d::ds,b):=by delta ab;rw[c];erw[f]
def vn{b:Type}{g:aV->Option b}{r:b}(c:a ρ=U (ds,ρ1))(d:g ds=U r):Fc g a ρ=U (r,ρ1):=by delta Fc;rw[c];erw[d]
def wq(b:a ρ=U (ds,ρ1)):cL a ρ=U (.ax ds,ρ1):=by delta cL;rw[b]
def BF(b:a ρ=U (ds,ρ1))(c:ds.length<=1000):vL a ρ=U (ds,ρ1):=by delta vL;rw[b];erw[c,if_true]
def xV(b:a ρ=U (ds,ρ1))(c:ds.length<=1000):v8 a ρ=U (.bx ds,ρ1):=by delta v8;rw[b];erw[c,if_true]
def xM(b:e ρ=U (.ax xs,ρ1))(c:a ρ1=U (.ax ys,ρ2))(d:xs.length+ys.length<=1000):xi e a ρ=U (xs++ys,ρ2):=by delta xi;rw[b];erw[c,d,if_true]
def yf{g:aV->aV->Option (D×aV)}{i:Nat}{e c b:aV}(f:xb ρ i=U c)(h:a ρ=U (ds,ρ1))(j:xb ρ1 i=U e)(l:g e ds=U (d,b)):v9 g i a ρ=U (d,putAt ρ1 i b):=by delta v9;rw[f];erw[h,j,l]
def CD(c:xb ρ i=U b)(f:e ρ=U (d,ρ1))(h:xb ρ1 i=U a)(j:a.length<1000):zF i e ρ=U (.I,putAt ρ1 i (a++[d])):=by delta zF;rw[c];erw[f,h,j,if_true]
def wZ{s:FA}{g:FG}(a:s ρ=U (ds,ρ1)):yA s g f ρ=fl g f ds ρ1:=by delta yA;rw[a]
def BG{k:Nat}{eh:List Nat}{s:FA}{g:FG}{b:FT}{a:FE}(c:s ρ=U (ds,ρ1))(d:ds.length<=1000):vS k eh s g b a ρ=zv k eh g b a ds ρ1:=by delta vS;rw[c];erw[d,if_true]
def aaq(i:c.length=j)(h:b (L4.stM n e c)=U (.rt d ρ))(f:FL ρ=U a):ZY j n b e c=U (d,a):=by delta ZY;rw[af i,h];erw[f]
def aar(e:ds.length=f)(h:b (L4.stM n c ds)=U (.rn i ρ))(d:FL ρ=U a):ZY f n b c ds=U (.ax i,a):=by delta ZY;rw[af e,h];erw[d]
#print "DX c a d n e wh;vA a ds c t d e?" in def ϑ0(ϑ1:ϑ2.length=ϑ3)(h:b (L4.GX n ϑ2)=U (.rϑ4 ϑ5 ρ)):ϑ6 ϑ3 n b ϑ2=U ϑ5:=by delta ϑ6;rw[af ϑ1,h]
end
def zZ(h:DW a=γ\/DW b=γ):zx (.int a) (.int b)=U (.int (a * b)):=by delta zx dI;simp only;rw[af (by exists h)]
def zO(h:0<b):ye (.int a) (.int b)=U (.int (a % b)):=by delta ye dI;simp only;rw[af (by exists h)]
def F2(h:0<b)(c:b<1073741824):DH (.int a) (.int b)=U (.int (a / b)):=by delta DH dI;simp only;rw[af (by simp[h,c])]
def LA(h:0<=a)(b:a<2147483647):DW a=γ:=by delta DW;erw[bA,bU];omega
def DB:D->Option ef
 |.int i=>U (.inl i)
 |.str x=>U (.inr x)
 |_=>Z
def xX:List ef->aV->ef->Option D
 |k::b,d::a,j=>if k=j then U d else xX b a j
 |_,_,_=>Z
def Na(e:List ef)(b:aV)(k:ef)(d:D):aV:=dP (λc a=>if c=k then d else a) e b
def Eu(b:List ef)(k:ef):Bool:=b.any λa=>decide (a=k)
section
variable{G:Bg}
def BH(h:c3 G H d v)(e:DB d=U k):v=kV k:=by
 ext d<;>first|cases e|skip
 all_goals (delta c3 at h;show h)
theorem Ew:∀{a:List ef} {c:aV} {b:bC} (j:ef),a9 G H c b->a.length=b.length->match xX a c j with
  |some d=>∃v,zc (a.zip b) j=U v/\c3 G H d v
  |none=>zc (a.zip b) j=Z
 |[],c,b,j,r,l=>by ext c<;>rfl
 |k::a,c,[],j,r,l=>by cases l
 |k::a,[],x::b,j,r,l=>by delta a9 at r;cases r
 |k::a,d::c,x::b,j,r,l=>by
  let#v[v,q,e,i,m]:=r;ext e;delta xX;by_cases f:k=j
  .rw[af f];show#v[x,Ej f,i]
  .rw[ai f];have o:=Ew j m (by exists l);have h:zc ((k::a).zip (x::b)) j=zc (a.zip b) j:=Ek f;rw[h];show o
theorem GK:∀{a:List ef} {b:bC},a.length=b.length->((a.zip b).any λd=>decide (d.1=k))=Eu a k
 |[],b,_=>by ext b<;>rfl
 |c::a,[],l=>by cases l
 |c::a,x::b,l=>by delta Eu;rw[eY,fw,fw,GK (by exists l)];rfl
theorem J3:∀{a:List ef} {b:bC},a.length=b.length->(a.zip b).map (λe=>if e.1=k then (e.1,v)else e)=a.zip (dP (λd x=>if d=k then v else x) a b)
 |[],b,_=>by ext b<;>rfl
 |d::a,[],l=>by cases l
 |d::a,x::b,l=>by
  rw[eY,aA,J3 (by exists l),fK,eY];congr 1;by_cases c:d=k
  .rw[af c,af c]
  .rw[ai c,ai c]
theorem Ho(hd:c3 G H d v):∀{c:List ef} {b:aV} {a:bC},a9 G H b a->c.length=a.length->a9 G H (Na c b k d) (dP (λf x=>if f=k then v else x) c a)
 |[],b,a,r,l=>by delta Na;ext b<;>ext a<;>show vO
 |f::c,b,[],r,l=>by cases l
 |f::c,[],x::a,r,l=>by delta a9 at r;cases r
 |f::c,m::b,x::a,r,l=>by
  let#v[w,q,e,i,j]:=r;ext e;delta Na;rw[fK,fK];calc vM ?_ (Ho hd j (by exists l));by_cases h:f=k
  .rw[af h,af h];show hd
  .rw[ai h,ai h];show i
def _root_.L2.x3.kf(e:H a=U (.k4 o (.dK kvs))):x3 H a (kV k) (zc kvs k):=.inl #v[kvs,k,.inr #v[o,e],J,J]
def wX:D->D->Option D:=λx y=>match x,DB y with
 |.M b a,U k=>xX b a k
 |_,_=>Z
def Wo(hu:X.A.units+1<cLine)(S:PE X a (tF G f))(T:PE X b (tF G M))(Y:Zs b:=by show λs s=>J):PE X (.Subscript a b pos) (tF G (c2 wX f M)):=PE.cx (Vu hu S T Y) λσ H Q W=>by
 let#v[F,ρ,r,d,o,R,e,k]:=W;let#v[x,y,h,E,I,c]:=GE e;calc#v[F,ρ,r,x,h,R,E,λv t z s1 C r1=>#v[F,h,t,y,o,C,I,λu B i q R2 r2=>?_]];have m:=c3.mono q _ _ r1;cases x with
 |M ks ds=>
  delta wX at c;cases l:DB y with
  |none=>erw[l]at c;cases c
  |some j=>erw[l]at c;let#v[p,ob,xs,rfl,N,O,P]:=m;have lv:=Ew j P O;rw[c]at lv;let#v[w,w1,w2]:=lv;calc#v[p,w,J,?_,k w B i (s1.t q) R2 w2];rw[BH r2 l,<- w1];show x3.kf (R2.sub _ _ N)
 |_=>delta wX at c;ext c
def Ex:D->D->Option D:=λx y=>match x,DB y with
 |.M b a,U k=>U ((xX b a k).getD .I)
 |_,_=>Z
def So(hu:X.A.units+1<cLine)(ha:PE X a (tF G f))(hb:PE X b (tF G Y))(m:M1 X a "get" apos b cpos):PE X (.Call (.Attribute a "get" apos) [b] [] cpos) (tF G (c2 Ex f Y)):=PE.cx (Rv hu ha hb m) λσ H Q hh=>by
 let#v[F,ρ,N,d,r,R,e,k]:=hh;let#v[x,y,i,T,W,c]:=GE e;cases x with
 |M I S=>
  calc#v[F,ρ,N,_,i,R,T,λv O P M B r1=>?_];have q:=r1;let#v[p,ob,xs,rfl,E,h2,h3]:=q;calc#v[p,J,.inl #v[_,.inr #v[_,B.sub _ _ E]],F,i,O,y,r,B,W,λu t h l R2 r2=>?_];delta Ex at c;cases o:DB y with
  |none=>erw[o]at c;cases c
  |some j=>
   erw[o]at c;ext c;have lv:=Ew j (a9.mono l _ _ h3) h2;refine#v[zc (I.zip xs) j,?_,?_]
   .rw[BH r2 o];show x3.kf (R2.sub _ _ (l _ _ E))
   .cases C:xX I S j with
    |none=>rw[C]at lv k;rw[lv];show k _ t h (M.t l) R2 BA
    |some z=>rw[C]at lv k;let#v[w,w1,w2]:=lv;rw[w1];show k _ t h (M.t l) R2 w2
 |_=>delta Ex at c;ext c
def Ey(i:Nat):FS:=λa=>U (.nx (a.set i (.dk [] [])))
def Sq{st:Stmt}(h:PS X st (Ee G1 (Ab i))):PS X st (kb G (Ey i)):=PS.cx h λE u H l=>by let#v[F,r,m,o,R,e,k,q]:=l;ext e;intro p b;have c:=R.gi b (.dK []);calc k _ _ _ (vw.refl _) (c.set #v[p,[],J,vp,R.ey b,R.gr b,J,vO] λz a d j t z f to=>?_);ext d;show R.apart b j t f to
def wK(i:Nat)(fk fv:FE):FS:=λf=>match fv f with
 |some (d,b)=>match b[i]? with
  |some (.dk _ _)=>match fk b with
   |some (y,c)=>match DB y with
    |some k=>match c[i]? with
     |some (.dk a e)=>if a.length<1000 then if e.length=a.length then U (.nx (c.set i (if Eu a k=γ then .dk a (Na a e k d)else .dk (a++[k]) (e++[d]))))else Z else Z
     |_=>Z
    |none=>Z
   |none=>Z
  |_=>Z
 |none=>Z
#print h
def Sr{st:Stmt}(h:PS X st (Ou (Aa i) (tF G Q) (tF G S))):PS X st (kb G (wK i Q S)):=PS.cx h λE σ H hh=>by
 let#v[F,q,Y,o,R,e,k,k2]:=hh;delta wK at e;rcases vT (f:=S) (ρ:=q)with t|⟨d,c,t⟩<;>erw[t]at e
 .ext e
 split at e
 .rename_i ks0 ds0 ei;rcases vT (f:=Q) (ρ:=c)with w|⟨y,C,w⟩<;>erw[w]at e
  .ext e
  cases z:DB y with
  |none=>erw[z]at e;cases e
  |some j=>
   erw[z]at e;split at e
   .rename_i A ds l;split at e
    .rename_i hl;split at e
     .rename_i hl2;ext e;calc#v[F,q,Y,d,c,R,t,λv H1 H1' s1 I r1=>?_];let#v[m,xs0,a1,_]:=I.sl i _ ei;calc#v[_,yb a1,F,c,H1,y,C,I,w,λu H2 r W R2 r2=>?_];let#v[a,B,M,b2,N,O,b,P]:=R2.sl i _ l;rw[a1]at M;ext M;refine#v[m,el r m (.dK (g? (A.zip B) j v)),J,?_,?_]
      .rw[BH r2 z];show Lb.k b2 (by rw[fQ];show jb (qG _ _) (Bb ()))
      .have T:=c3.mono W _ _ r1;refine k _ _ _ (s1.t W) (R2.mut l J a1 (λH' hH=>?_) ?_)
       .by_cases p:Eu A j=γ
        .rw[af p];calc#v[m,dP (λk' x=>if k'=j then v else x) A B,J,?_,N,O,by rw[kl,b,fA],Ho T P b];rw[hH];delta g?;rw[GK b,af p,J3 b]
        .rw[ai p];calc#v[m,B++[v],J,?_,N,O,by rw[aH,aH,b];rfl,xl P (vM T vO)];rw[hH];delta g?;rw[GK b,ai p,mG b];rfl
       .split<;>rfl
     .ext e
    .ext e
   .ext e
 .ext e
#print f
def Gr:D->Option D
 |.ax a=>(IE a).map λbs=>.bl (bs.any id)
 |_=>Z
def Qn(x:X.k3=γ)(hK:X.K=G.K:=by rfl):xA X (.builtin "any") (λw H Q=>∃(p:Addr) (bs:List Bool),w=[.ref p]/\f? G.K H p (bs.map V.bl)/\Q (.bl (bs.any id)) H):=by
 rw[<-hK];intro m s S H w R Q I r h;let#v[p,bs,rfl,C,q]:=h;let#v[u,rfl,j]:=lq r;ext j;let#v[f,t,pl,O]:=I.list C;have hlt:p< ~~~s:=by let#v[o,B,_]:=pl.isList;show aQ B
 have z:=by have:=t.length;rw[ah]at this;show this
 refine call_any_walk (jc pl.isList #v[~~~s,_,_,_,_,_,λi=>(bs[i]?).getD δ,J,kU (show X.A.in1.handled=Z from I.ok.hd x) _ p (bf hlt) f.toArray,#v[#v[_,bz _ J,J,J],?_],?_,λN tk y=>?_])
 .show pl.isList.at λo e=>aK _ e
 .intro i v P M F E hQ';have c:=by exists E
  have a:=(bZ.1 c).1;have d:(bs.map V.bl)[i]?=U (.bl (bs[i]'())):=by simp[show i<bs.length by omega]
  let#v[u,l,j]:=t.get d;rw[c]at l;ext l;ext j;calc dH ?_;have e:(bs[i]?).getD δ=bs[i]'():=by simp[show i<bs.length by omega]
  rw[<-e];show hQ'
 .refine#v[.bl (bs.any id),H,?_,?_,q]
  .show I.gp λb o e=>y b o (by simp;show bf (aQ e)) (aK _ e)
  .change Value.bool _=Value.bool _;congr 1;rw[bI,<- z];rw[dj];erw[eA,bY,id];constructor
   .rintro⟨i,a,h⟩;show#v[bs[i],cG a,by simpa [a]using h]
   .rintro⟨b,d,h⟩;let#v[i,a,rfl]:=dY.1 d;show#v[i,a,by simpa [a]using h]
def aas:Jg G (λd H Q=>∃(p:Addr) (bs:List Bool),d=[.ref p]/\f? G.K H p (bs.map V.bl)/\Q (.bl (bs.any id)) H) Gr:=λx z j H v Q e s i k=>by
 cases x with
 |ax f=>
  delta Gr at e;simp only at e;cases b:IE f with
  |none=>rw[b]at e;cases e
  |some bs=>rw[b]at e;ext e;let#v[a,d,rfl,c,h]:=i;rw[Hm h b]at c;show#v[a,bs,J,s.seq (f?.of c),k _ λw w=>ya _]
 |_=>ext e
def iS(f:FE):FA:=λb=>match f b with
 |some (.str x,a)=>U (x.cps.toList.map λc=>D.str #v[#[c]],a)
 |_=>Z
#print h
def Wp(h:PI X N e (iStr (tF G f))):PI X N e (S? G (iS f)):=PI.cx h λσ H R E=>by
 let#v[F,O,p,Y,P,R,e,k]:=E;delta iS at e;split at e
 .rename_i x Q B;ext e;calc#v[F,O,p,_,_,R,B,λv S q s A r=>?_];refine#v[x,r,k _ _ _ s A λi u w t M=>#v[λd j=>?_,λI=>?_]]
  .rw[br]at j;cases m:x.cps.toList[i]? with
   |none=>rw[m]at j;cases j
   |some c=>
    rw[m]at j;ext j;have a:=by exists m
    calc#v[(jY.1 a).1,λz T y=>?_];let#v[C,W,l,rfl]:=y;rw[a]at l;ext l;subst C;show#v[u,vw.refl _,M,vw.refl _,λb o e=>.inl e,zN _]
  .change i=x.cps.size;rw[I,ah];simp
 .ext e
#print f
def FQ(f g:FE):FE:=λe=>match f e with
 |some (.bx (x::c),a)=>match g a with
  |some (.bx d,b)=>if c.length+d.length<=900 then U (.bx (x::c++d),b)else Z
  |_=>Z
 |_=>Z
#print h
def Wq(T:PE X a (tF G f))(W:PE X b (tF G g))(hK:X.K=G.K:=by rfl):PE X (.BinOp a .Add b pos) (tF G (FQ f g)):=PE.cx (Of Om T W) λσ H Q Y=>by
 rw[hK];let#v[F,ρ,y,d,ρ',R,e,k]:=Y;delta FQ at e;split at e
 .rename_i x xs c M;split at e
  .rename_i ys ρ2 N;split at e
   .rename_i hl;ext e;calc#v[F,ρ,y,_,c,R,M,λv A B s E r=>#v[F,c,A,_,_,E,N,λu H2 C l R2 r2=>?_]];have w:=c3.mono l _ _ r;have r0:=w;let#v[a1,m,rfl,P,q]:=w;let#v[I,o,rfl,S,t]:=r2;have h:=vv q;have j:=vv t;rw[aL]at h;refine#v[a1,I,m,o,J,J,fh.mono R2.sub P,fh.mono R2.sub S,(λz=>by rw[z]at h;ext h),by rw[<-h,<- j];show ze (),λz=>?_,λn p i=>?_]
    .have O:=by rw[z]at j;show ib.1 j
     subst O;rw[bF]at k;show k _ _ _ (s.t l) R2 r0
    .show k _ _ _ ((s.t l).t (vE (R2.ey i) _)) (R2.J? i _) (zM (fh.of vp) (a9.mono (vE (R2.ey i) _) _ _ (xl q t)))
   .ext e
  .ext e
 .ext e
end
#print f
section
abbrev FO:=aU->Option (Option Int×aU)
inductive ItFO(G:Bg) (f:FO) (σ:St) (H:Hp) (Q:(Option Int->Hp->Prop)):Prop
 |i (F ρ H0 d ρ') (h0:bc G F σ ρ H0 H) (h1:f ρ=U (d,ρ')) (h2:∀H0' H',vw H0 H0'->bc G F σ ρ' H0' H'->Q d H'):ItFO G f σ H Q
def tFO(G:Bg)(f:FO):TO:=λa H Q=>ItFO G f a H Q
def θ:FO:=λa=>U (Z,a)
def vu(f:FE):FO:=λb=>match f b with
 |some (.int i,a)=>U (U i,a)
 |_=>Z
def PO.cx(h:PO X e t)(w:∀b H Q,d b H Q->t b H Q):PO X e d:=λa s b H Q I c=>h a s b H Q I (w _ _ _ c)
def aat:PO X Z (tFO G θ):=PO.cx Oj λh H Q a=>by let#v[F,f,c,d,b,R,e,k]:=a;ext e;show k _ _ (vw.refl _) R
#print h
def aau(h:PE X e (tF G f)):PO X (U e) (tFO G (vu f)):=PO.cx (Ol h) λt H Q l=>by
 let#v[F,m,a,d,o,R,e,k]:=l;delta vu at e;split at e
 .rename_i i p j;ext e;calc#v[F,m,a,_,_,R,j,λv q b s c r=>?_];delta c3 at r;show#v[i,r,k _ _ s c]
 .ext e
#print f
def BI(f:FE)(lo i:FO):FA:=λj=>match f j with
 |some (d,c)=>match d with
  |.ax e=>match lo c with
   |some (l,a)=>match i a with
    |some (h,b)=>U (gs e l h,b)
    |none=>Z
   |none=>Z
  |.O e=>match lo c with
   |some (l,a)=>match i a with
    |some (h,b)=>U (gs e l h,b)
    |none=>Z
   |none=>Z
  |_=>Z
 |none=>Z
def Nc{lo:FO}(h:PE X e (tSl (PV G.K) (tF G f) (tFO G lo) (tFO G w))):PE X e (y0 G (BI f lo w)):=PE.cx h λσ H Q hh=>by
 let#v[F,q,N,Y,E,R,e,k]:=hh;delta BI at e;rcases vT (f:=f) (ρ:=q)with y|⟨d,c,y⟩<;>erw[y]at e
 .ext e
 have ma:∀(i:aV),(∀{m:Hp} {v:V},c3 G m d v->∃a j,v=.ref a/\f? G.K m a j/\a9 G m i j)->(match lo c with
   |some (l,b)=>match w b with
    |some (h,t)=>U (gs i l h,t)
    |none=>Z
   |none=>Z)=U (Y,E)->tSl (PV G.K) (tF G f) (tFO G lo) (tFO G w) σ H Q:=λi rd e=>by
  rcases vT (f:=lo) (ρ:=c)with z|⟨l,b,z⟩<;>erw[z]at e
  .ext e
  rcases vT (f:=w) (ρ:=b)with A|⟨u,t,A⟩<;>erw[A]at e
  .ext e
  ext e;calc#v[F,q,N,d,c,R,y,λv m O s1 W r1=>#v[F,c,m,l,b,W,z,λP S I R2=>#v[F,b,P,u,_,R2,A,λH3 T M o=>?_]]];let#v[a,j,rfl,B,C]:=rd (c3.mono (I.t M) _ _ r1);show#v[a,j,J,o.sub.seq B,λp x=>k p _ _ _ (s1.t (I.t M)) (o.gi x _) vp (o.ey x) (o.gr x) (o.apart x) (Lv C)]
 cases d with
 |ax i=>show ma i (λr=>by delta c3 at r;let#v[a,j,rfl,B,C]:=r;show#v[a,j,J,f?.of B,C]) e
 |O i=>show ma i (λr=>by delta c3 at r;show r) e
 |_=>ext e
def LB:D->D->Option D
 |.str x,.int n=>if 0<=n/\n<=1000/\x.length<=100 then U (.str (jD x n))else Z
 |_,_=>Z
end
section
def Hr:FE:=λz=>Z
def Ss:PE X e (tF G Hr):=λa s i H Q I h=>by let#v[F,f,c,d,b,R,e,_]:=h;ext e
def Nd(G:Bg)(c:Nat)(t:Ty->Option Bool):Prop:=(∀y b,t y=U b->de G.K (y.val G) (.ref (G.ca c))=U b)/\∀j b,t (.c j)=U b->M6 G.K (G.ca j)
def Nf(h:Nd G c t)(hK:X.K=G.K:=by rfl):xA X (.builtin "isinstance") (λa H Q=>∃d x b,a=[x,(Ty.c c).v G]/\c3 G H d x/\t (tyD d)=U b/\Q (.bl b) H):=
 Jh (X:=X) (.c c) (by rw[hK];show h.1) (by rw[hK];show h.2) hK
end
def ι(acc:List ef)(k:ef):List ef:=if acc.any (λz=>decide (z=k))then acc else acc++[k]
def AA(a:List ef):List ef:=a.foldl ι []
def Wr(acc:List ef)(k j:ef):(ι acc k).any (λz=>decide (z=j))=(acc.any (λz=>decide (z=j))||decide (j=k)):=by
 delta ι;by_cases h:acc.any (λz=>decide (z=k))=γ
 .rw[af h];by_cases e:j=k
  .subst e;rw[h];simp
  .simp[e]
 .rw[ai h,List.any_append];by_cases e:j=k
  .subst e;simp
  .have a:¬k=j:=λz=>e z.symm;simp[a,e]
def OJ(acc:List ef)(k:ef):(ι acc k).length=if acc.any (λz=>decide (z=k))=γ then acc.length else acc.length+1:=by delta ι;split<;>simp
def Ji(a:List ef)(i:Nat)(h:i<a.length):AA (a.take (i+1))=ι (AA (a.take i)) a[i]:=by delta AA;rw[qc,aI h,mf];rfl
def Su(a:List ef):(AA a).length<=a.length:=by
 have ma:∀(l:List ef) (acc:List ef),(l.foldl ι acc).length<=acc.length+l.length:=by
  intro l
  induction l with
  |nil=>intro acc;simp
  |cons k l b=>
   intro acc;rw[c4,aL];have c:=b (ι acc k);have d:(ι acc k).length<=acc.length+1:=by rw[OJ];split<;>omega
   omega
 have:=ma a [];simpa [AA]using this
def set_same{h:Heap}(hS:h.SetOf (vB prog w) a S n)(e:∀k,S k=b k)(c:n=d):h.SetOf (vB prog w) a b d:=by obtain rfl:S=b:=funext e;subst c;show hS
section
def Sw(W:WalksS prog w A.in1 I B r GG n PP SS)(S:Addr)(hSf:S∉B)(a:List ef)(N:a.length=n)
  (hval:∀i v (h:i<a.length),PP i v->(vB prog w).is a[i] v=γ/\v.scannable=γ) (M:n+1<scanBound):∀(k i:Nat) (s:aq),n - i=k->i<=n->SS i s->
   s.heap.SetOf (vB prog w) S (λj=>(AA (a.take i)).any (λz=>decide (z=j))) (AA (a.take i)).length->
   (∀c,Moved (S::r) GG s c->c.heap.SetOf (vB prog w) S (λj=>(AA a).any (λz=>decide (z=j))) (AA a).length->R (.ok (.ret .none)) c)->
   cK (model prog w) A (.builtin "set.update.loop" #v[[.ref S,.ref I],[]]) R s:=by
 have hSw:=λz=>hSf ((W).sub _ z);have x:∀b∈r,b∈S::r:=λb z=>bg _ z;intro k
 induction k with
 |zero=>
  intro i s F E hst hS hR;obtain rfl:i=n:=by omega
  calc eD j6 ?_;rw[eV gb _];change av _ A.in1 (pyNext (.ref I)>>=_) _ _ s;calc ar (W.done s _ _ hst λc d=>?_);rw[j8 ()]at hS;calc aC (hR c (d.mono x) ?_);let#v[o,m,l,t,p,more]:=hS;show#v[o,m,l,t,d.heap S _ hSw p,more]
 |succ k G=>
  intro i s F E hst hS hR;have hlt:i<n:=by omega
  have hlk:i<a.length:=by omega
  calc eD j6 ?_;rw[eV gb _];change av _ A.in1 (pyNext (.ref I)>>=_) _ _ s;calc ar (W.item i s _ _ hlt hst λv c hP hst' d=>?_);let#v[u,H]:=hval i v hlk hP;have hS':c.heap.SetOf (vB prog w) S (λj=>(AA (a.take i)).any (λz=>decide (z=j))) (AA (a.take i)).length:=by let#v[o,m,l,t,p,more]:=hS;show#v[o,m,l,t,d.heap S _ hSw p,more]
  calc ar (dt ?_);delta setAdd;calc dt ?_;calc ar ((vB prog w).pyHash u ?_);have room:(AA (a.take i)).length+1<scanBound:=by have:=Su (a.take i);rw[bJ]at this;omega
  calc wpAny_setAddHashed_of u H hS' room λC hsb hS2=>?_;have hSi:C.SetOf (vB prog w) S (λj=>(AA (a.take (i+1))).any (λz=>decide (z=j))) (AA (a.take (i+1))).length:=
   set_same hS2 (λj=>by rw[Ji a i hlk,Wr]) (by rw[Ji a i hlk,OJ])
  refine aC #v[fS gb _,G (i+1) _ () hlt (W.frame _ c _ _ hst' (gK _) λb z o e=>?_) hSi λq f hS''=>?_]
  .rw[hsb.2 b (λy:b=S=>hSf (by rw[<-y];show z))];show e
  .calc hR q (nJ W.gtrans ((d.mono x).then_heap (gK _) λb o z e=>?_) f) hS'';rw[hsb.2 b (λy:b=S=>z (by rw[y];show aX))];show e
end
def Ws(l:Addr)(us:Array aa)(m:Nat)(b:Addr)(o:Obj)(a:Array aa)(j:Nat)(i:o.cls=.type "tuple")(hd:o.data=.seq a j)(F:¬(!us.isEmpty&&j4 (us.size+a.size))=γ)(p:us.size<=aS)(q:us.size+a.size<=aS+1):
  Meets (dA.«list.extend» #v[[.ref l,.ref b],[]]) (λv R s=>s.heap.get? l=U { cls:=.type "list", data:=.seq us m }/\s.heap.get? b=U o/\R (.ok (.ret Value.none)) { s with heap:=s.heap.update l (c7 λx=>x++a),toks:=s.toks }):=by
 let#v[c,dd,data,sl]:=o;ext i;ext hd;calc .of_wp λprog w A R s h=>?_;let#v[B,g,d,tk,os]:=s;let#v[e,f,h]:=h;have t:=oW;have u:=AutoSeq1.sub_list_list;have y:=AutoSeq1.sub_tuple_list;have z:=AutoSeq1.sub_list_tuple;have r:(us++a).size<=aS+1:=Array.size_append (xs:=us) (ys:=a)▸q
 wp_walk using (jo e J (hz:=p) (_hz':=r)),oX e,oX f
 show#v[_,J,h]
section
inductive Jj(K:ay) (x:V) (vs:bC) (H:Hp) (Q:VK):Prop
 |i (l b xs zs) (h0:x=.ref l) (h1:vs=[.ref b]) (h2:H l=U (.ax xs)) (h3:fh K H b zs) (h4:xs.length+zs.length<=aS) (h5:Q .I (el H l (.ax (xs++zs)))):Jj K x vs H Q
def LC(K:ay):V->bC->Hp->VK->Prop:=λx a H Q=>Jj K x a H Q
theorem Ng:MtM X "list.extend" (LC X.K):=by
 intro i s R H x N v M Q I C B h;let#v[l,b,O,P,rfl,rfl,hH,hB,G,q]:=h;ext C;let#v[u,rfl,A]:=B.one;ext A;let#v[z,c,n,r,E,e]:=I.lstM hH;let#v[a,j,#v[o,m,p,y,hd],w]:=I.tuple hB;have t:=j.length;have d:c.toArray.size+a.toArray.size<=aS:=by rw[bI,bI];omega
 have hlong:¬(!c.toArray.isEmpty&&j4 (c.toArray.size+a.toArray.size))=γ:=by rw[Ro d,Bool.and_false];show bB
 refine nU pY #v[_,e,J] F.entry_list_extend (F.args_list_extend_2 _ _)
  (Ws l c.toArray n b o a.toArray y p hd hlong (by rw[bI];omega) ()) #v[e,m,?_]
 calc#v[.I,_,I.lset (its':=c++a) hH e (by simp) (r.append j) ?_,J,q];rw[aH];omega
def Ht(i:Nat)(f:FE):FE:=λd=>match xb d i with
 |some _=>match f d with
  |some (.bx c,a)=>match xb a i with
   |some b=>if b.length+c.length<=1000 then U (.I,putAt a i (b++c))else Z
   |none=>Z
  |_=>Z
 |none=>Z
#print h
def Nh(h:PE X e (tBM G.K "list" (LC G.K) (Aa i) (Ef (tF G f) JM))):PE X e (tF G (Ht i f)):=PE.cx h λσ H Q A=>by
 let#v[F,c,w,d,P,R,e,k]:=A;delta Ht at e;cases j:xb c i with
 |none=>erw[j]at e;cases e
 |some z=>
  erw[j]at e;rcases vT (f:=f) (ρ:=c)with l|⟨x,b,l⟩<;>erw[l]at e
  .ext e
  .cases x with
   |bx Y=>
    cases m:xb b i with
    |none=>erw[m]at e;cases e
    |some W=>
     erw[m]at e;split at e
     .rename_i B;ext e;let#v[a,N,r,E,s3,_]:=xD R j;calc#v[.ref a,r,.inl #v[J,N,f?.of E],F,c,w,_,b,R,l,λv S y s q rs=>?_];delta c3 at rs;let#v[p,O,rfl,C,rs]:=rs;let#v[T,o,t,I,u,M]:=xD q m;rw[r]at t;ext t;calc#v[a,p,o,O,J,J,I,fh.mono q.sub C,?_,k _ _ _ s (M _ _ (xl u rs)) BA];rw[<-vv u,<- vv rs];show ze B
     .cases e
   |_=>ext e
end
#print f
abbrev one(j:Nat)(led pl:Bool):cH:=#v[7,#[j],[].toArray,0,led,0,pl]
section
abbrev TK(prog:bj)(w:aR):=IsTupleKey (vB prog w)
def cls_val(n:Nat)(h:mK v=γ):jf n v=pure δ:=by
 cases v with
 |ref a=>simp[mK]at h
 |_=>first|rfl|simp[jf]|(delta jf;rfl)
def OK(e:TK prog w s.heap j a)(h:Q δ s):av (model prog w) A (jf 8 (.ref a)) Q E s:=by
 have hT:=e.typeIs;let#v[o,items,n,i,_,hd,f]:=e;delta jf;calc ar (jx hT ?_);change av _ _ (pure γ>>=_) _ _ s;calc ar (aC ?_);erw[Bool.not_true,gm,if_false];calc ar (mL i hd ?_);calc ar ?_;change av _ _ (forIn items _ _) _ _ s;rw[<-pZ];refine ky _ (λeu r d=>r.1=Z/\d=s/\∀v∈eu,mK v=γ) _ ?_ ?_ _ _ #v[J,J,f.byValue]
 .rintro v eu r d ⟨b,rfl,hall⟩;rw[cls_val _ (hall v aX)];calc ar (aC ?_);erw[gm,if_false];show aC #v[J,J,λu c=>hall u (bg _ c)]
 .rintro⟨l,m⟩ d ⟨b,rfl,_⟩;simp only at b;subst b;show aC h
end
section
def Sx{a:Heap}(b:a.get? S=U o)(hd:o.data=.set es ep t):(a.update S (nW es' t')).get? S=U { o with data:=.set es' (ep+1) t' }:=by have:=eU (nW es' t') b (by rw[putSet_of es' t' hd];rfl);rw[putSet_of es' t' hd]at this;show this
end
section
def TK.gp{c:Heap}(t:TK prog w h ks a)(e:∀o,h.get? a=U o->c.get? a=U o):TK prog w c ks a:=by let#v[o,b,n,d,m]:=t;show#v[o,b,n,e o d,m]
def Set2(h:Heap)(S:Addr)(n:Nat):Prop:=∃o a b t,h.get? S=U o/\o.ExactSet/\o.data=.set a b t/\a.size<scanBound/\t.fits a.size=γ/\a.size=n
end
#print "oy set;js frozenset" in def ϑ0:isSubtype (.type "tuple") (.type "ϑ1")=pure δ:=by rw[jr];kernel_rfl
section
variable{s:aq}
abbrev AV(led:Bool):Obj:={ cls:=.type "set", dict:=Z,data:=.set [].toArray 0 (.fresh 0 0 led) }
abbrev inK(a:List ef):ef->Bool:=λj=>(AA a).any (λz=>decide (z=j))
structure SrcK(prog:bj)(w:aR)(h:Heap)(a:Addr)(items:Array aa)(ks:List ef):Prop where
 len:ks.length=items.size
 key:∀i v (hi:i<ks.length),items[i]?=U v->(vB prog w).is ks[i] v=γ/\v.scannable=γ
 bnd:items.size+1<scanBound
def Wt(s:aq)(PS:Heap->Prop)(E:aa->aq->Prop):k6->aq->Prop:=
 wants (λr s2=>r=.none/\∃h2 a,s2={ s with heap:=h2,toks:=a }/\PS h2/\∀b o,b< ~~~s->s.heap.get? b=U o->h2.get? b=U o) E
def LD(K:SrcK prog w s.heap a items ks)(hlt:a< ~~~s)
  (W:Walks prog w A.in1 (~~~s+1) [~~~s+1,a] [~~~s+1] items.size (λi v=>items[i]?=U v) SS) (st:SS 0 ((s.heap.push (AV led)).push itO))
  (hR:∀h2 c,h2.SetOf (vB prog w) (~~~s) (inK ks) (AA ks).length->(∀b o,b< ~~~s->s.heap.get? b=U o->h2.get? b=U o)->R (.ok (.ret .none)) { s with heap:=h2,toks:=c }) (tk:Nat):
  cK (model prog w) A (.builtin "set.update.loop" #v[[.ref (~~~s),.ref (~~~s+1)],[]]) R { s with heap:=(s.heap.push (AV led)).push itO,toks:=tk }:=by
 have notin: ~~~s∉[~~~s+1,a]:=by
  intro z;rcases aJ.1 z with z|z
  .show au z (bf (cY _))
  .show au (aN.1 z) (fz hlt)
 have h:((s.heap.push (AV led)).push itO).get? (~~~s)=U (AV led):=aK _ (bz _ J);refine Sw W.toS (~~~s) notin ks K.len (λi v hi hv=>K.key i v hi hv) K.bnd (items.size - 0) 0 _ () (bP _) st ?_ λs2 mv f=>?_
 .show#v[_,[].toArray,0,_,h,#v[J,J,J],J,λe p=>by simp at p,λk=>by simp[AA],by delta scanBound;decide,by rfl,J]
 .let#v[h2,g2,d2,c,q]:=s2;have l:g2=s.gens:=mv.gens;have j:d2=s.drawn:=mv.drawn;have m:q=s.os:=mv.os;subst l j m;calc hR h2 c f λb o d e=>mv.heap b o (λz=>?_) (aK _ (aK _ e));rcases aJ.1 z with z|z
  .show au z (bf d)
  .show au (aN.1 z) (bf (dJ d))
theorem Ni(a:aa)(h:Q₁ (.ref (~~~s)) { s with heap:=s.heap.push (AV (!w.params.followText "set-order")) }):
  cK (model prog w) A (.call (.builtin "set.__new__") #v[[.type "set", a],[]]) (wants Q₁ E) s:=by
 calc qH ?_;change av _ A.in1 (do checkBuiltinCall "set.__new__" #v[[.type "set", a],[]];again (.builtin "set.__new__" #v[[.type "set", a],[]])) _ _ s;calc ar (wpAny_of_eq (F.newCall_set_1 a) (aC #v[fS qI _,eD F.entry_set_new ?_]));rw[eV qI _];delta dA.«set.__new__» tK;have hsub:=sub_set_self;let#v[b,g,d,tk,os]:=s;dsimp only
 wp_walk
 calc mB (aC ?_);dsimp only;erw[newObj];calc ar (wpAny_alloc (aC ?_));show aC h
theorem EA{PS:Heap->Prop}(t:s.heap.get? a=U o)(B:o.cls=.type T)
  (P:isSubtype (.type T) (.type "set")=pure δ) (S:isSubtype (.type T) (.type "frozenset")=pure δ) (W:(Value.type T==Value.type "dict")=δ)
  (sq:∀(A:bp) (Q:aa->aq->Prop) (E:aa->aq->Prop) (d:aq),d.heap.get? a=U o->Q (.ref (~~~d)) { d with heap:=d.heap.push itO }->av (model prog w) A (pyIter (.ref a)) Q E d)
  (fil:∀tk (R:k6->aq->Prop),(∀h2 i,PS h2->(∀b o,b< ~~~s->s.heap.get? b=U o->h2.get? b=U o)->R (.ok (.ret .none)) { s with heap:=h2,toks:=i })->
   cK (model prog w) A.in1.in1 (.builtin "set.update.loop" #v[[.ref (~~~s),.ref (~~~s+1)],[]]) R { s with heap:=(s.heap.push (AV (!w.params.followText "set-order"))).push itO,toks:=tk })
  (h:∀h2 i,PS h2->(∀b o,b< ~~~s->s.heap.get? b=U o->h2.get? b=U o)->Q (.ref (~~~s)) { s with heap:=h2,toks:=i }):
  av (model prog w) A (call (.type "set") [.ref a]) Q E s:=by
 have hlt:a< ~~~s:=aQ t;let#v[c,O,hmro]:=fT.mro;have made:=fT.made;have subs:=fT.sub;calc kR (qH ?_);change av _ _ (callAny (.type "set") _) _ _ _;calc aC #v[Code.quiet_builtin _ (by decide +kernel),eD F.entry_type_call ?_];rw[Around.under_plain (weight_type_call_type "set" [.ref a] []) J];have I:=fT.notType;have M:=fT.canCreate;have N:=F.typeCall_set_1 (.ref a)
 repeat (any_goals (first|assumption|wp_step))
 let led:Bool:=!w.params.followText "set-order";calc iz (Ni (.ref a) (E:=E) (Q₁:=λv d=>v=.ref (~~~s)/\d={ s with heap:=s.heap.push (AV led) }) #v[J,J]) λr d hr=>?_;cases r with
 |error e=>show hr
 |ok z=>
  cases z with
  |ret v=>
   let#v[rfl,rfl]:=hr;have u:(s.heap.push (AV led)).get? (~~~s)=U (AV led):=bz _ J;have p:ju { s with heap:=s.heap.push (AV led) } (.ref (~~~s)) "set" := #v[_,u,J];have G:=fT.init.lookup;have H:=fT.init.bind (.ref (~~~s))
   repeat (any_goals (first|assumption|wp_step))
   refine iz (pF (R:=Wt s PS E) fT.init.plain F.entry_set_init (check_set_init_1 p ?_)) λC s2 f=>?_
   .let#v[oc,od,oda,osl]:=o;ext B;have x:(s.heap.push (AV led)).get? a=U { cls:=.type T,dict:=od,data:=oda,slots:=osl }:=aK _ t;delta dA.«set.__init__» noKeywords tI;generalize gP:pyIter=PP
    wp_walk
    subst gP;calc sq _ _ _ _ x ?_;calc ar (mM ?_);have y:(s.heap.push (AV led)).objs.size= ~~~s+1:=c5 _ _;change cK _ _ (.builtin "set.update.loop" #v[[.ref (~~~s),.ref (s.heap.push (AV led)).objs.size],[]]) _ _;rw[y];calc fil _ _ λh2 i j m=>?_;change av _ _ _ _ _ _;calc aC ?_;change av _ _ (ret Value.none) _ _ _;show aC #v[J,h2,i,J,j,m]
   .cases C with
    |error e=>show f
    |ok l=>
     cases l with
     |ret r=>
      let#v[rfl,h2,i,rfl,j,m]:=f
      repeat (any_goals (first|assumption|wp_step))
      show h _ _ j m
     |_=>show f.elim
  |_=>show hr.elim
end
section
variable{X:Cx}{s:aq}
def Sy(h:(vB P w).is k v=γ):v.scannable=γ:=by rcases wC h with ⟨i,t,_,rfl⟩|⟨x,t,_,rfl⟩<;>rfl
def SA{b:List ef}(r:df (b.map kV) c)(o:b.length+1<scanBound):SrcK X.prog X.w s.heap a c.toArray b:=by
 have l:=by have:=r.length;rw[ah]at this;show this
 calc#v[by rw[bI];show l,λi v j f=>?_,by rw[bI];omega];have e:(b.map kV)[i]?=U (kV b[i]):=by rw[br,aI j];rfl
 let#v[u,d,m]:=r.get e;have h:=by rw[j9]at f;rw[f]at d;show cZ d
 subst h;have:=FJ (P:=X.prog) (w:=X.w) m;show#v[this,Sy this]
def Yo{ks:List ef}(I:b9 X c l H s)(h:fh X.K H a (ks.map kV)):TK X.prog X.w s.heap ks a:=by
 let#v[b,r,p,_]:=I.tuple h;let#v[o,i,f,n,hd]:=p;calc#v[o,_,n,i,f,hd,?_];have ma:∀(ks:List ef) (b:List aa),df (ks.map kV) b->PySem.ItemsAre (vB X.prog X.w) ks b:=λks=>by
  induction ks with
  |nil=>intro b r;ext r;show .nil
  |cons k ks j=>intro b r;cases r with|cons d e=>show .cons (FJ d) (j _ e)
 show ma ks b r
def SrcO(K:ay)(H:Hp)(a:Addr)(n:Nat):Prop:=∃b,(f? K H a (b.map kV)\/fh K H a (b.map kV))/\b.length+1<scanBound/\n=(AA b).length
def SetV(X:Cx)(S:ay->Hp->Addr->Nat->Prop):Prop:=∀{pins:dh} {σ:St} {H:Hp} {s:aq} {A:bp} {E:aa->aq->Prop} {Q:aa->aq->Prop} {a:Addr} {n:Nat},b9 X pins σ H s->A.handled=Z->A.units+8<cLine->S X.K H a n->
 (∀h2 c,Set2 h2 (~~~s) n->(∀b o,b< ~~~s->s.heap.get? b=U o->h2.get? b=U o)->Q (.ref (~~~s)) { s with heap:=h2,toks:=c })->av (model X.prog X.w) A (call (.type "set") [.ref a]) Q E s
def ad5:SetV X (SrcO):=by
 intro y T H s A E Q a n I G P i h;have q:A.in1.in1.in1.handled=Z:=by simp[G]
 have m:∀{f:Heap} {j:List ef},f.SetOf (vB X.prog X.w) (~~~s) (inK j) (AA j).length->Set2 f (~~~s) (AA j).length:=λS=>by let#v[o,C,B,t,b,hex,hd,_,_,N,F,M]:=S;show#v[o,C,B,t,b,hex,hd,N,F,M]
 have x:∀{o:Obj} {led:Bool},o.isFreed=δ->((s.heap.push (AV led)).push o).get? (~~~s+1)=U o:=λ{o led} z=>by rw[show ~~~s+1=(s.heap.push (AV led)).objs.size from(c5 _ _).symm];show bz _ z
 obtain⟨j,i|i,u,rfl⟩:=i
 .let#v[d,r,p,_]:=I.list i;let#v[o,b,c,n,hd]:=p.isList;have hne:=bf (dJ (aQ b));refine EA b c qU pG #[]
   (λA Q E O e k=>jc #v[o,e,c,n,hd] k) (λtk R hR=>LD (SA r u) (aQ b) (kU q _ a hne d.toArray) #v[#v[_,x J,J,J],#v[o,aK _ (aK _ b),c,n,hd]] (λf l S=>hR f l (m S)) tk) h
 .let#v[d,r,p,_]:=I.tuple i;let#v[o,b,c,n,hd]:=p;have hne:=bf (dJ (aQ b));refine EA b c oy js #[]
   (λA Q E O e k=>lV #v[o,e,c,n,hd] k) (λtk R hR=>LD (SA r u) (aQ b) (se q _ a hne d.toArray) #v[#v[_,x J,J,J],#v[o,aK _ (aK _ b),c,n,hd]] (λf l S=>hR f l (m S)) tk) h
def OL(S:ay->Hp->Addr->Nat->Prop)(K:ay)(c:TE):TE:=λd H Q=>c d H λx b=>∃a n,x=.ref a/\S K b a n/\Q (.int n) b
def Qo{f c:Pos}(hV:SetV X S)(R:X.A.units+64<cLine)(r:X.k3=γ)(g1:Gl X "len")(G:X.mg "len" = Z)(g2:Gl X "set")(M:X.mg "set" = Z)(w:PE X e P)
  (i:aE [Expr.Call (.Name "set" f) [e] [] c] X.a8=[(δ,eval (.Call (.Name "set" f) [e] [] c) X.a8)]:=by rfl) (j:aE [e] X.a8=[(δ,eval e X.a8)]:=by rfl):PE X (.Call (.Name "len" T) [.Call (.Name "set" f) [e] [] c] [] W) (OL S X.K P):=by
 intro pins s σ H Q I h;calc dZ (Bs I g1 G qV ?_ #[] #[]);calc callWith_builtin1 ?_ i J;rw[i];calc gh ?_;calc dZ (Bs I g2 M sf ?_ #[] #[]);refine callWith_type1 (fb (wQ w zd j c pins s σ H (λvs H1=>match vs with
  |[x]=>∃a n,x=.ref a/\S X.K H1 a n/\Q (.int n) H1
  |_=>False) I h) λus O #v[vs,H1,d,r1,q1]=>?_) j J
 match vs,r1,q1 with
 |[x],r1,q1=>
 let#v[a,n,p,B,q]:=q1;subst p;let#v[u,rfl,N]:=lq r1;ext N;calc hV d (d.ok.hd r) () B λh2 E m F=>?_;calc ie ?_;let#v[o,es,ep,t,z,hex,hd,C,y,hn]:=m;have l:b9 X pins σ H1 { O with heap:=h2,toks:=E }:=d.gp λb o e=>F b o (aQ e) e;calc call_len_set z hex hd y (by delta scanBound at C;omega) #v[.int n,H1,l.w? _,#v[_,by rw[hn]],q]
def FR:aV->Option (List ef)
 |[]=>U []
 |d::a=>match DB d,FR a with
  |some k,U b=>U (k::b)
  |_,_=>Z
theorem Jk:∀{a:aV} {f:bC} {c:List ef},a9 G H a f->FR a=U c->f=c.map kV
 |[],f,c,r,e=>by ext e;delta a9 at r;show r
 |d::a,f,c,r,e=>by
  delta FR at e;cases b:DB d with
  |none=>rw[b]at e;cases e
  |some k=>
   cases h:FR a with
   |none=>rw[b,h]at e;cases e
   |some l=>rw[b,h]at e;ext e;let#v[v,m,rfl,i,j]:=r;rw[BH i b,Jk j h];rfl
def yV(b:aV):Option D:=match FR b with
 |some a=>if a.length<=1000 then U (.int (AA a).length)else Z
 |none=>Z
def EB(g:aV->Option D):D->Option D
 |.ax a=>match yV a with
  |some r=>U r
  |none=>g a
 |.bx a=>yV a
 |.O a=>yV a
 |_=>Z
def Wu(h:yV a=U r):EB g (.ax a)=U r:=by change (match yV a with|some r=>U r|none=>g a)=U r;rw[h]
#print h
def Nj(hK:X.K=G.K)(hO:∀{H a n},SrcO X.K H a n->S X.K H a n)
  (E:∀{c d m b a i},g c=U d->f? X.K b a i->a9 G m c i->vw m b->∃n:Nat,S X.K b a n/\d=.int n)
  (h:PE X e (OL S X.K (tF G f))):PE X e (tF G (c1 (EB g) f)):=PE.cx h λO H Q I=>by
 let#v[F,N,z,d,u,R,e,k]:=I;let#v[x,B,l]:=GB e;have key:∀{c:aV} {i:bC} {a:Addr} {m b:Hp},yV c=U d->a9 G m c i->vw z m->bc G F O u m b->(f? X.K b a i\/fh X.K b a i)->
   ∃A n,V.ref a=.ref A/\S X.K b A n/\Q (.int n) b:=λ{c i a m b} o rs s j t=>by
  delta yV at o;cases y:FR c with
  |none=>rw[y]at o;cases o
  |some M=>
   rw[y]at o;simp only at o;split at o
   .rename_i P;ext o;rw[Jk rs y]at t;show#v[a,_,J,hO #v[M,t,by delta scanBound;omega,J],k _ _ _ s j (xW _)]
   .ext o
 calc#v[F,N,z,x,u,R,B,λv m b s j r=>?_];cases x with
 |ax c=>
  let#v[a,i,rfl,p,q]:=r;have t:f? X.K b a i:=f?.of (j.sub _ _ p);replace l:(match yV c with|some r=>U r|none=>g c)=U d:=l;cases w:yV c with
  |some r=>rw[w]at l;ext l;show key w q s j (.inl t)
  |none=>rw[w]at l;let#v[n,C,rfl]:=E l t q j.sub;show#v[a,n,J,C,k _ _ _ s j (xW _)]
 |bx c=>let#v[a,i,rfl,p,q]:=r;rw[<-hK]at p;show key l q s j (.inr (fh.mono j.sub p))
 |O c=>let#v[a,i,rfl,p,q]:=r;rw[<-hK]at p;show key l q s j (.inl (j.sub.seq p))
 |_=>ext l
end
#print f
def Dl(h:(vB P w).is k v=γ):d? (kV k) v:=by
 rcases wC h with ⟨i,t,rfl,rfl⟩|⟨x,t,rfl,rfl⟩
 .show#v[t,J]
 .show#v[t,J]
def Itd(a:Addr)(o:Obj)(kvs:List (ef×V)):It:=
 #v[λi H=>i<kvs.length/\H a=U (.k4 o (.dK kvs)),λi H x b=>b=H/\∃k z,kvs[i]?=U (k,z)/\x=kV k,λi H=>kvs.length<=i/\H a=U (.k4 o (.dK kvs))]
section
def AE(I:b9 X d u H s)(e:H a=U (.k4 o (.dK kvs)))(hd:o.data=.dict l i):
  (a==c6)=δ/\s.heap.get? a=U o/\∃b,KV kvs b/\s.heap.DictAt (vB X.prog X.w) a b i:=by
 let#v[c,_,y,b,r,t,m,j,f,p,h,q]:=(show er X.prog X.w H s.heap a (.k4 o (.dK kvs)) from I.e8 a _ e);rw[c]at f;ext f;rw[hd]at h;ext h;show#v[y,c,b,r,o,l,c,p,hd,q]
def aax{kvs:List (ef×V)}{a:List (ef×aa)}(r:KV kvs a){i:Nat}{k:ef}{x:aa}(e:a[i]?=U (k,x)):∃z,kvs[i]?=U (k,z):=by
 induction r generalizing i with
 |nil=>cases e
 |@cons p q l c h _ b=>
  cases i with
  |zero=>let#v[pk,pv]:=p;ext e;show#v[pv,by rw[show pk=k from h.1];rfl]
  |succ i=>show b e
end
def Qp{K:ay}(a it:Addr)(o:Obj)(kvs:List (ef×V)):J' P w K tg (Itd a o kvs) [it] it (λi h=>∃es ep,o.data=.dict es ep/\h.IsKeyIter it a i kvs.length ep) where
 mem:=by simp
 obj:=λi h st b f=>by
  have e:=by exists f
  subst e;let#v[es,ep,hd,ob,e,c,d]:=st;show#v[ob,e,λv z=>by rw[d]at z;ext z]
 keep:=λi h h' st k=>by let#v[es,ep,hd,x]:=st;show#v[es,ep,hd,x.at λo e=>k it (by simp) o e]
 item:=by
  intro X hP G hK C i pins s σ H E I t st F;subst hP G hK;let#v[hi,q]:=F;let#v[es,ep,hd,p]:=st;let#v[l,u,Q,y,A,B]:=t it (by simp);let#v[_,_,vs,r,da]:=AE I q hd;have m:=r.length;have hne:a≠it:=λz=>by subst z;rw[q]at l;ext l
  have W:=qW (knd:=vB X.prog X.w) (I.ok.hd C) it a hne vs ep;calc W.item i s _ _ () #v[by rw[<-m];show p,da] λv h' tk hv M Y=>?_;let#v[k,x,S,R]:=hv;let#v[z,T]:=aax r S;have N:b9 X pins σ H { s with heap:=h',toks:=tk }:=I.ia (λb o f e=>Y b o (by exists f) e) l u y A B;let#v[j,_]:=M;rw[<-m]at j;let#v[ob,e,c,d]:=id j;show#v[v,J,Oe e c d #[] #v[kV k,H,N,Dl R,#v[J,k,z,T,J],#v[es,ep,hd,j],λb f=>(t b f).1]]
 done:=by intro X hP G hK C i pins s σ H E I t st F;subst hP G hK;let#v[hi,q]:=F;let#v[es,ep,hd,p]:=st;let#v[l,u,Q,y,A,B]:=t it (by simp);let#v[_,_,vs,r,da]:=AE I q hd;have m:=r.length;show wpAny_pyNext_dict_end (I.ok.hd C) (by rw[<-m];show p) da (gf (by rw[<-m];show hi)) λh' O=>#v[J,I.ia (λb o f e=>O b o f e) l u y A B]
 self:=λn n n n n st h=>by let#v[es,ep,hd,p]:=st;show wpAny_pyIter_keyiter p h
section
def iDic(c:TE):TI:=λd H R=>c d H λx b=>∃a o kvs,x=.ref a/\b a=U (.k4 o (.dK kvs))/\R (Itd a o kvs) b
def Wv(f:PE X l M):PI X P l (iDic M):=by
 intro c s N H R I h;calc fb (f c s N H _ I h) λv i zz=>?_;let#v[x,j,d,G,F]:=zz;let#v[a,o,kvs,e,E,q]:=F;subst e;ext G;let#v[u,_,y,Q,r,O,t,B,m,z,p,A]:=(show er X.prog X.w j i.heap a (.k4 o (.dK kvs)) from d.e8 a _ E);rw[u]at m;ext m;have f:=r.length;calc qd y #v[o,t,u,z,p,A] ?_;calc#v[~~~i,[~~~i],_,_,j,J,d.gp λb o e=>aK _ e,Qp a _ o kvs,#v[t,B,p,#v[_,bz _ J,J,by rw[f];rfl]],λb C=>?_,q];have e:=by exists C
 subst e;show d.I' (aG _) (d.e8.fresh (aG _))
def Nk:ef->D
 |.inl i=>.int i
 |.inr x=>.str x
def OM(k:ef):c3 G H (Nk k) (kV k):=by
 cases k with
 |inl i=>show xW i
 |inr x=>show zN x
def iD(f:FE):FA:=λd=>match f d with
 |some (.M b c,a)=>if b.length=c.length then U (b.map Nk,a)else Z
 |_=>Z
#print h
def SC(h:PI X W e (iDic (tF G f))):PI X W e (S? G (iD f)):=PI.cx h λσ H R P=>by
 let#v[F,ρ,B,ds,ρ',R,e,k]:=P;delta iD at e;split at e
 .rename_i p M ρ1 N;split at e
  .rename_i x;ext e;calc#v[F,ρ,B,_,_,R,N,λv H1 C s w r=>?_];let#v[a,o,Y,rfl,q,T,r3]:=r;have A:(p.zip Y).length=p.length:=by rw[fQ,<- T,fA]
   refine#v[a,o,_,J,w.sub _ _ q,k _ _ _ s w λi E I t u=>#v[λd c=>?_,λS=>?_]]
   .rw[br]at c;cases m:p[i]? with
    |none=>rw[m]at c;cases c
    |some j=>
     rw[m]at c;ext c;have Q:=(bZ.1 m).1;calc#v[#v[by rw[A];show Q,u _ _ (t _ _ q)],λz H3 y=>?_];let#v[O,k',z',l,rfl]:=y;subst O;have:=by rw[oT]at l;have:=l.1;rw[m]at this;show(cZ this).symm
     subst this;show#v[E,vw.refl _,u,vw.refl _,λb o e=>.inl e,OM _]
   .refine#v[by rw[A,S,ah];show aG _,u _ _ (t _ _ q)]
  .ext e
 .ext e
end
#print f
section
def b9.xr{h':Heap}{T:Addr}{xs:bC}{t':Nat}{ch:List Addr}(I:b9 X pins σ H s)(f:∀b∈ch,Iq X pins H b)(k:∀b o,b∉ch->s.heap.get? b=U o->h'.get? b=U o)
  (hT: ~~~s<=T) (new:er X.prog X.w (el H T (.bx xs)) h' T (.bx xs)):b9 X pins σ (el H T (.bx xs)) { s with heap:=h',toks:=t' }:=by
 have nT:H T=Z:=I.e8.fresh hT;have ne:∀{b:Addr} {u:HO},H b=U u->b≠T:=λe z=>by subst z;rw[nT]at e;ext e
 have nch:∀{b:Addr} {u:HO},H b=U u->b∉ch:=λe z=>by have:=(f _ z).1;rw[e]at this;ext this
 have lt:∀{b:Addr} {o:Obj},s.heap.get? b=U o->b≠T:=λe z=>by subst z;show au (cF (aQ e) hT) (eE _)
 refine I.step (g':=s.gens) (d':=s.drawn) (ch:=ch) (λb d=>?_) (λb o _ _ a e _=>k b o a e) (λb o _ _ a e _=>#v[o.slots,k b o a e]) (λb o _ e n=>by rw[vt (lt e)];show n) (λb o a e=>#v[o,k b o a e])
  (λb p e=>by rw[vt (ne e)];show e) (λb o u e=>by rw[vt (ne e)];show e) (λb ps e=>#v[[].toArray,by rw[vt (ne e),e];simp]) (λm hm=>?_) (λb u e=>?_) I.jl
 .let#v[t,h,x,i,j,l]:=f b d;show#v[i,h,j,l]
 .show hm.at' λo e=>k _ o (λz=>(f _ z).2.1 J) e
 .by_cases d:b=T
  .subst d;rw[vp]at e;ext e;show new
  .rw[vt d]at e;refine(I.e8 b u e).v? (λc v a q=>k c v ?_ q) (λc q=>by rw[vt (ne q)];show q) λc p q=>by rw[vt (ne q)];show q
   rcases a with rfl|a
   .show nch e
   .show nch a
def Itz(c d:Addr):It:=
 #v[λi H=>∃a b x y,H c=U (.ax a)/\H d=U (.ax b)/\a[i]?=U x/\b[i]?=U y,
  λi H v e=>∃p x y,H p=Z/\v=.ref p/\e=el H p (.bx [x,y])/\(∀a,H c=U (.ax a)->a[i]?=U x)/\∀b,H d=U (.ax b)->b[i]?=U y,
  λi H=>∃a b,H c=U (.ax a)/\H d=U (.ax b)/\(a.length<=i\/b.length<=i)]
end
structure SD(z TI TO i1 i2:Addr):Prop where
 a:TI≠z
 b:TO≠z
 c:i1≠z
 d:i2≠z
 e:TI≠TO
 f:TI≠i1
 g:TI≠i2
 h:TO≠i1
 i:TO≠i2
 j:i1≠i2
def aay(n:Nat):SD (n+4) (n+2) (n+3) n (n+1) where
 a:=(by omega:(n+2:Nat)≠n+4)
 b:=(by omega:(n+3:Nat)≠n+4)
 c:=(by omega:(n:Nat)≠n+4)
 d:=(by omega:(n+1:Nat)≠n+4)
 e:=(by omega:(n+2:Nat)≠n+3)
 f:=(by omega:(n+2:Nat)≠n)
 g:=(by omega:(n+2:Nat)≠n+1)
 h:=(by omega:(n+3:Nat)≠n)
 i:=(by omega:(n+3:Nat)≠n+1)
 j:=(by omega:(n:Nat)≠n+1)
def zTn(z TI TO c d e f:Addr)(i:Nat)(h:Heap):Prop:=IsZip h z TI TO .none/\IsPair h TI (.ref c) (.ref d)/\(∃a b,IsPair h TO a b)/\h.IsListIter c e i/\h.IsListIter d f i
def SE{P:bj}{w:aR}{K:ay}{elts:List Expr}{x1}{pos:Pos}{z TI TO i1 i2 M N:Addr}(D:SD z TI TO i1 i2):J' P w K (.Tuple elts x1 pos) (Itz M N) [z,TI,TO,i1,i2] z (zTn z TI TO i1 i2 M N) where
 mem:=by simp
 obj:=λi h st b p=>by
  let#v[B,h1,#v[a,c,h2],#v[o3,h3,_,d3],#v[o4,h4,_,d4]]:=st;erw[aJ,b0,or_false]at p;rcases p with rfl|rfl|rfl|rfl|rfl
  .show#v[_,B,λv y=>nomatch y]
  .show#v[_,h1,λv y=>nomatch y]
  .show#v[_,h2,λv y=>nomatch y]
  .show#v[o3,h3,λv y=>by rw[d3]at y;ext y]
  .show#v[o4,h4,λv y=>by rw[d4]at y;ext y]
 keep:=λi h h' st k=>by let#v[B,h1,#v[a,c,h2],h3,h4]:=st;show#v[k z (by simp) _ B,k TI (by simp) _ h1,#v[a,c,k TO (by simp) _ h2],h3.at λo e=>k i1 (by simp) o e,h4.at λo e=>k i2 (by simp) o e]
 item:=by
  intro X hP S hK t i pins s σ H E I C st O;subst hP S hK;let#v[xs,ys,x,y,q1,q2,qx,qy]:=O;let#v[B,hTI,#v[a,b,hTO],h1,h2]:=st;let#v[its,r1,Y,_]:=I.list (f?.of q1);let#v[jts,r2,p2,_]:=I.list (f?.of q2);let#v[u1,Q,ru1]:=r1.get qx;let#v[u2,R,ru2]:=r2.get qy;have r:∀{l:Addr} {u:HO} {c:Addr},H l=U u->c∈[z,TI,TO,i1,i2]->l≠c:=λe hm w=>by subst w;have:=(C _ hm).1;rw[e]at this;ext this
  have DD:ZipApart z TI TO i1 i2 M N:=#v[D.a,D.b,D.c,D.d,D.e,D.f,D.g,D.h,D.i,D.j,r q1 (by simp),r q1 (by simp),r q1 (by simp),r q1 (by simp),r q2 (by simp),r q2 (by simp),r q2 (by simp),r q2 (by simp)];calc wpAny_pyNext_zip_item DD B hTI hTO h1 h2 Y.isList p2.isList (x:=u1) (y:=u2) (by exists Q) (by exists R) λh' a1 a2 a3 a4 a5 a6 G=>?_;calc#v[_,J,wpAny_letOwnedTupleGo_zip (s:={ s with heap:=h' }) a1 λF W sb=>?_];have lt:∀{c:Addr} {o:Obj},s.heap.get? c=U o-> ~~~s≠c:=λe w=>au (aQ e) (by rw[w];show eE _);have Tz: ~~~s≠z:=lt B;have hp:IsPair F (~~~s) u1 u2:=sb.extBut _ _ Tz a5;have A:∀b∈[z,TO,i1,i2],b∈[z,TI,TO,i1,i2]:=λb p=>by simp at p ⊢;rcases p with rfl|rfl|rfl|rfl<;>simp
  have ok:er X.prog X.w (el H (~~~s) (.bx [x,y])) F (~~~s) (.bx [x,y]):=#v[by rw[bS];change 2<=16777216;decide,[u1,u2],.cons ru1 (.cons ru2 .nil),#v[_,hp,J,_,J],λo e=>by rw[show _=U _ from hp]at e;ext e;rfl];have I1:=b9.xr (h':=F) (t':=s.toks) (T:= ~~~s) (xs:=[x,y]) (ch:=[z,TO,i1,i2]) I (λb p=>C b (A b p))
   (λb o p e=>sb.extBut _ _ (λw=>p (by simp[w])) (G b o (λw=>p (by simp[w])) (λw=>p (by simp[w])) (λw=>p (by simp[w])) (λw=>p (by simp[w])) e)) (aG _) ok
  refine#v[.ref (~~~s),_,I1,J,#v[_,x,y,I.e8.fresh (aG _),J,J,λxs' e=>?_,λys' e=>?_],#v[W,sb.extBut _ _ D.a (G _ _ D.a D.e D.f D.g hTI),#v[_,_,sb.extBut _ _ D.b a2],a3.extBut sb.extBut D.c,a4.extBut sb.extBut D.d],λb p=>?_]
  .rw[q1]at e;ext e;show qx
  .rw[q2]at e;ext e;show qy
  .rw[vt (λw=>?_)]
   .show(C b p).1
   .erw[aJ,b0,or_false]at p;rcases p with p|p|p|p|p
    .show lt B (w.symm.t p)
    .show lt hTI (w.symm.t p)
    .show lt hTO (w.symm.t p)
    .let#v[o,e,_]:=h1;show lt e (w.symm.t p)
    .let#v[o,e,_]:=h2;show lt e (w.symm.t p)
 done:=by
  intro X hP S hK t i pins s σ H E I C st O;subst hP S hK;let#v[xs,ys,q1,q2,hend]:=O;let#v[B,hTI,#v[a,b,hTO],h1,h2]:=st;let#v[its,r1,Y,_]:=I.list (f?.of q1);let#v[jts,r2,p2,_]:=I.list (f?.of q2);have r:∀{l:Addr} {u:HO} {c:Addr},H l=U u->c∈[z,TI,TO,i1,i2]->l≠c:=λe hm w=>by subst w;have:=(C _ hm).1;rw[e]at this;ext this
  have DD:ZipApart z TI TO i1 i2 M N:=#v[D.a,D.b,D.c,D.d,D.e,D.f,D.g,D.h,D.i,D.j,r q1 (by simp),r q1 (by simp),r q1 (by simp),r q1 (by simp),r q2 (by simp),r q2 (by simp),r q2 (by simp),r q2 (by simp)];have e1:=r1.length;have e2:=r2.length;refine wpAny_pyNext_zip_end (I.ok.hd t) DD B hTI hTO h1 h2 Y.isList p2.isList ?_ λh' G=>#v[J,?_]
  .rcases hend with w|w
   .show .inl (by simp;omega)
   .show .inr (by simp;omega)
  .have A:∀b∈[z,TO,i1,i2],b∈[z,TI,TO,i1,i2]:=λb p=>by simp at p ⊢;rcases p with rfl|rfl|rfl|rfl<;>simp
   have nch:∀{b:Addr} {u:HO},H b=U u->b∉[z,TO,i1,i2]:=λe w=>by have:=(C _ (A _ w)).1;rw[e]at this;ext this
   have k:∀b o,b∉[z,TO,i1,i2]->s.heap.get? b=U o->h'.get? b=U o:=λb o p e=>G b o (λw=>p (by simp[w])) (λw=>p (by simp[w])) (λw=>p (by simp[w])) (λw=>p (by simp[w])) e;refine I.step (g':=s.gens) (d':=s.drawn) (t':=s.toks) (ch:=[z,TO,i1,i2]) (λb p=>?_) (λb o _ _ t e _=>k b o t e) (λb o _ _ t e _=>#v[o.slots,k b o t e]) (λb o _ e n=>n) (λb o t e=>#v[o,k b o t e])
    (λb ys e=>e) (λb o u e=>e) (λb ps e=>#v[[].toArray,by rw[e];simp]) (λm hm=>?_) (λb u e=>?_) I.jl
   .let#v[f0,f1,f2,f3,f4,f5]:=C b (A b p);show#v[f3,f1,f4,f5]
   .show hm.at' λo e=>k _ o (λw=>(C _ (A _ w)).2.1 J) e
   .calc(I.e8 b u e).v? (λc v t q=>k c v ?_ q) (λc q=>q) λc ys q=>q;rcases t with rfl|t
    .show nch e
    .show nch t
 self:=λ_ _ _ _ _ st h=>qu st.1 h
section
def iZip(d:TA):TI:=λi H R=>d i H λe c=>∃a b f h,e=[.ref a,.ref b]/\c a=U (.ax f)/\c b=U (.ax h)/\R (Itz a b) c
def aaz{a b:Expr}{l:TA}{p pos:Pos}(w:Gl X "zip")(hm:X.mg "zip" = Z)(ha:PA X [a,b] l)(hs:aE [a,b] X.a8=[(δ,eval a X.a8),(δ,eval b X.a8)]:=by rfl)(f:aE [b] X.a8=[(δ,eval b X.a8)]:=by rfl):
  PI X (.Tuple elts P tpos) (.Call (.Name "zip" p) [a,b] [] pos) (iZip l):=by
 intro pins s σ H R I h;calc Call_ (Bs I w hm boot_zip (callWith_type1 (fb (ha pos pins s σ H _ I h) λus i zz=>?_) (by rw[hs,f]) (by rw[f];rfl)));let#v[vs,H1,d,r1,q1]:=zz;let#v[M,N,xs,Q,rfl,r,t,q]:=q1;let#v[u,v,rfl,A,B]:=vals2 r1;ext A;ext B;let#v[its,_,y,_]:=d.list (f?.of r);let#v[jts,_,z,_]:=d.list (f?.of t);calc call_zip_2 y.isList z.isList λh' m C E F G S x=>?_;calc qu m ?_;have o:b9 X pins σ H1 { i with heap:=h' }:=d.gp (t':=i.toks) x;have D:=aay (~~~i);calc#v[_,_,_,_,H1,J,o,SE D,#v[m,C,#v[_,_,E],F,G],λc j=>?_,q];have e: ~~~i<=c:=by erw[aJ,b0,or_false]at j;rcases j with rfl|rfl|rfl|rfl|rfl<;>first|show jj _ _|show aG _
 show d.I' e (d.e8.fresh e)
def EC(a b:aV):aV:=dP (λd e=>D.bx [d,e]) a b
def iZ(f:FA):FA:=λd=>match f d with
 |some ([.ax b,.ax c],a)=>U (EC b c,a)
 |_=>Z
def LF(a b:aV):(EC a b).length=min a.length b.length:=by delta EC;rw[kl]
#print h
def Ww{tg e:Expr}{f:FA}(h:PI X tg e (iZip (sh G f))):PI X tg e (S? G (iZ f)):=PI.cx h λσ H R hh=>by
 let#v[F,ρ,H0,ds,ρ',R,e,k]:=hh;delta iZ at e;split at e
 .rename_i N O ρ1 e1;ext e;calc#v[F,ρ,H0,_,_,R,e1,λvs H1 H1' s M rs=>?_];replace rs:=Ae rs;let#v[v1,r1,rfl,h1,rs]:=rs;replace rs:=Ae rs;let#v[v2,r2,rfl,h2,rs]:=rs;cases By rs;delta c3 at h1 h2;let#v[a,z,rfl,a1,a2]:=h1;let#v[b,B,rfl,b1,b2]:=h2;calc#v[a,b,z,B,J,M.sub _ _ a1,M.sub _ _ b1,k _ _ _ s M λi I j t E=>?_];have Q:j a=U (.ax z):=E _ _ (t _ _ a1);have S:j b=U (.ax B):=E _ _ (t _ _ b1);refine#v[λd c=>?_,λhl=>#v[z,B,Q,S,?_]]
  .delta EC at c;rw[lK]at c;cases C:N[i]? with
   |none=>rw[C]at c;cases c
   |some dx=>
    cases P:O[i]? with
    |none=>rw[C,P]at c;cases c
    |some dy=>
     rw[C,P]at c;ext c;let#v[W,w,x2]:=xm a2 C;let#v[Y,A,y2]:=xm b2 P;calc#v[#v[z,B,W,Y,Q,S,w,A],λx H3 y=>?_];let#v[p,x',y',T,rfl,rfl,w1,w2]:=y;have l:=w1 z Q;have r:=w2 B S;rw[w]at l;rw[A]at r;ext l;ext r;have p0:I p=Z:=by
      cases q:I p with
      |none=>rfl
      |some o=>have:=E _ _ q;rw[T]at this;ext this
     refine#v[el I p (.bx [W,Y]),vE p0 _,λb o e=>?_,vE T _,λb o e=>?_,zM (fh.of vp) ?_]
     .by_cases u:b=p
      .subst u;rw[vp]at e ⊢;show e
      .rw[vt u]at e ⊢;show E _ _ e
     .by_cases u:b=p
      .subst u;show .inr T
      .rw[vt u]at e;show .inl e
     .have m:=t.t (vE p0 (.bx [W,Y]));show vM (c3.mono m _ _ x2) (vM (c3.mono m _ _ y2) vO)
  .rw[LF]at hl;rw[<-vv a2,<- vv b2];omega
 .ext e
end
#print f
mutual
def noC(N c:Nat):D->Bool
 |.I=>γ
 |.bl _=>γ
 |.int _=>γ
 |.str _=>γ
 |.bx a=>J4 N c a
 |.ax a=>J4 N c a
 |.O a=>J4 N c a
 |.obj k _ a=>decide (k<N)&&decide (k≠c)&&J4 N c a
 |.M _ a=>J4 N c a
 |.dit _ a=>J4 N c a
def J4(N c:Nat):aV->Bool
 |[]=>γ
 |d::a=>noC N c d&&J4 N c a
end
def without(H:Hp)(a:Addr):Hp:=λb=>if b=a then Z else H b
def Hu{H:Hp}{a b:Addr}(h:b≠a):without H a b=H b:=by delta without;rw[ai h]
def ED{H:Hp}{a b:Addr}{o:HO}(h:without H a b=U o):b≠a/\H b=U o:=by
 delta without at h;by_cases c:b=a
 .rw[af c]at h;ext h
 .rw[ai c]at h;show#v[c,h]
def yg{H:Hp}{a b:Addr}{u v:HO}(e:H a=U u)(c:H b=U v)(d:u≠v):without H a b=U v:=by rw[Hu (λz=>by subst z;rw[e]at c;show d (cZ c))];show c
section
variable{G:Bg}
#print "FU h;LG ?" in def ϑ0(b:H a=U (.l' (G.ca c) e fs)){p:Addr}{d:bC}(h:fϑ1 G.K H p d):fϑ1 G.K (without H a) p d:=by
 rcases h with (h|⟨o,h⟩)|h
 .show .inl (.inl (yg b h (λz=>nomatch z)))
 .show .inl (.inr #v[o,yg b h (λz=>nomatch z)])
 .show .inr h
mutual
theorem FV(inj:∀j k,j<N->k<N->G.ca j=G.ca k->j=k)(t:c<N)(i:H a=U (.l' (G.ca c) M fs)):∀(d:D) (v:V),noC N c d=γ->c3 G H d v->c3 G (without H a) d v
 |.I,v,_,h=>by delta c3 at h ⊢;show h
 |.bl _,v,_,h=>by delta c3 at h ⊢;show h
 |.int _,v,_,h=>by delta c3 at h ⊢;show h
 |.str _,v,_,h=>by delta c3 at h ⊢;show h
 |.bx l,v,n,h=>by let#v[p,f,e,m,r]:=h;show#v[p,f,e,FU i m,xN inj t i l f n r]
 |.ax l,v,n,h=>by let#v[p,f,e,m,r]:=h;show#v[p,f,e,yg i m (λz=>nomatch z),xN inj t i l f n r]
 |.O l,v,n,h=>by let#v[p,f,e,m,r]:=h;show#v[p,f,e,LG i m,xN inj t i l f n r]
 |.obj k O l,v,n,h=>by delta noC at n;erw[bA,bU]at n;let#v[p,w,f,e,m,r,u]:=h;calc#v[p,w,f,e,yg i m (λz=>?_),r,xN inj t i l f n.2 u];injection z with I;show n.1.2 (inj k c n.1.1 t I.symm)
 |.M E l,v,n,h=>by let#v[p,o,f,e,m,r,u]:=h;show#v[p,o,f,e,yg i m (λz=>nomatch z),r,xN inj t i l f n u]
 |.dit E l,v,n,h=>by let#v[b,f,rfl,#v[o,F,m,r,u,x,y,A],B]:=h;show#v[b,f,J,#v[o,F,yg i m (λz=>nomatch z),r,u,x,λq C=>FU i (y q C),A],xN inj t i l f n B]
theorem xN(inj:∀j k,j<N->k<N->G.ca j=G.ca k->j=k)(l:c<N)(i:H a=U (.l' (G.ca c) p fs)):∀(b:aV) (f:bC),J4 N c b=γ->a9 G H b f->a9 G (without H a) b f
 |[],f,_,h=>by delta a9 at h ⊢;show h
 |d::b,f,n,h=>by delta J4 at n;erw[bA]at n;let#v[v,r,e,m,o]:=h;show#v[v,r,e,FV inj l i d v n.1 m,xN inj l i b r n.2 o]
end
end
def DY:Sl->Sl
 |.q d=>.q d
 |_=>.un
def Bh(N:Nat)(f:FE):FE:=λa=>match a with
 |.ob c e b::r=>match f (.q (.obj c e b)::r.map DY)with
  |some (d,_)=>if (decide (c<N)&&noC N c d)=γ then U (d,a)else Z
  |none=>Z
 |_=>Z
section
def Nl{s:Sl}:(DY s).gy=δ:=by ext s<;>rfl
#print h
def Wx{e:Expr}{f:FE}{N:Nat}(inj:∀j k,j<N->k<N->G.ca j=G.ca k->j=k)(h:PE X e (tF G f)):PE X e (tF G (Bh N f)):=PE.cx h λσ H Q E=>by
 let#v[F,ρ,H0,d,ρ',R,e,k]:=E;delta Bh at e;split at e
 .rename_i c ns ds r;rcases vT (f:=f) (ρ:=.q (.obj c ns ds)::r.map DY)with w|⟨x,y,w⟩<;>erw[w]at e
  .ext e
  split at e
  .rename_i hn;ext e;erw[bA,bU]at hn;let#v[a,dx,xs,h1,h2,h3,h4,h5,h6]:=R.sl 0 _ J;have RL:bc G #v[el H0 a (.l' (G.ca c) dx (ns.zip xs)),H,[]] σ (.q (.obj c ns ds)::r.map DY) (el H0 a (.l' (G.ca c) dx (ns.zip xs))) H:={
    sub:=λb o q=>by
     by_cases m:b=a
     .subst m;rw[vp]at q;ext q;show h2
     .rw[vt m]at q;show R.sub _ _ q
    g0:=vw.refl _
    keep:=λb o q n=>q
    fr:=λb o q=>.inl q
    am:=λb q=>by ext q
    len:=by have:=R.len;exists this
    sl:=λi s q=>by
     cases i with
     |zero=>ext q;show#v[.ref a,h1,by delta c3;show#v[a,dx,xs,J,vp,h5,a9.mono (vE h3 _) _ _ h6]]
     |succ i=>
      have l:(r.map DY)[i]?=U s:=q;rw[br]at l;cases q1:r[i]? with
      |none=>rw[q1]at l;cases l
      |some t=>
       rw[q1]at l;ext l;have ok:=R.sl (i+1) t q1;cases t with
       |q d=>let#v[v,g1,g2]:=ok;show#v[v,g1,c3.mono (vE h3 _) _ _ g2]
       |_=>trivial
    ap:=λi j s t b n A n so=>by
     cases i with
     |zero=>ext A;cases so
     |succ i=>
      have l:(r.map DY)[i]?=U s:=A;rw[br]at l;cases q1:r[i]? with
      |none=>rw[q1]at l;cases l
      |some t=>rw[q1]at l;ext l;rw[Nl]at so;cases so }
   calc#v[_,_,_,d,y,RL,w,λv H1 p s u I=>?_];have ha:=s _ _ vp;have B:vw H0 (without H1 a):=λb o q=>by
    have m:b≠a:=λz=>by subst z;rw[h3]at q;ext q
    rw[Hu m];show s b o (by rw[vt m];show q)
   calc k v (without H1 a) p B ?_ (FV inj hn.1 ha d v hn.2 I);calc R.gk (λb o q=>u.keep b o q (by simp)) B (λb o q=>u.sub _ _ (ED q).2) λb o q=>?_;let#v[m,q]:=ED q;rcases u.fr b o q with z|z
   .have C:el H0 a (.l' (G.ca c) dx (ns.zip xs)) b=U o:=z;rw[vt m]at C;show .inl C
   .show .inr z
  .ext e
 .ext e
end
#print f
section
theorem aaA(I:b9 X b j H s)(e:H a=U (.dK kvs))(N:d? (kV k) u)(O:d? z r)(P:kvs.length<aS)
  (m:∀v w h,zc kvs k=U v->b9 X b j H h->d? v w->Q w h) (o:∀h,zc kvs k=Z->b9 X b j (el H a (.dK (g? kvs k z))) h->Q r h):
  av (model X.prog X.w) A (call (.builtin "dict.setdefault") [.ref a,u,r]) Q E s:=by
 let#v[y,hd,i,rel,dd]:=Rq I.e8 e;have M:i.length<=aS:=by rw[<-rel.length];show y
 have x:(g? kvs k z).length<=aS:=by have:=AB kvs k z;omega
 have c:=rel.val k;refine jw o9 dd.typeIs F.entry_dict_setdefault (F.args_dict_setdefault_3 _ _ _) (kt_meets_setdefault (vB X.prog X.w) a (FJ N) hd r) #v[i,dd,M,λw G=>?_,λt l f C=>?_]
 .rw[G]at c;cases d:zc kvs k with
  |none=>rw[d]at c;show c.elim
  |some v=>rw[d]at c;show m v w _ d (I.w? _) c
 .rw[t]at c;cases d:zc kvs k with
  |some v=>rw[d]at c;show c.elim
  |none=>have p:∃q,l.get? a=U q:=let #v[q,_,_,B,_]:=f;#v[q,B];show o _ d (GA I (by rw[e];show True.intro) C p (MV x hd (rel.put k O) f))
def SF(f ty h:TE):TE:=λc H Q=>f c H λx d=>∃a,x=.ref a/\IsD d a/\ty c d λy e=>h c e λz b=>∃kvs k,b a=U (.dK kvs)/\y=kV k/\kvs.length<aS/\
 (∀v,zc kvs k=U v->Q v b)/\(zc kvs k=Z->Q z (el b a (.dK (g? kvs k z))))
theorem SG(T:PE X o td)(P:PE X e ty)(R:PE X f tx)(m:M2 X o "setdefault" apos e f cpos):PE X (.Call (.Attribute o "setdefault" apos) [e,f] [] cpos) (SF td ty tx):=by
 intro b s l H Q I h;calc me m.a7 m.few m.line ku o9 F.type_dict_setdefault (fb (T b s l H _ I h) λu s1 zz=>?_);let#v[x,r,p,rx,a,G,d,W]:=zz;subst G;obtain rfl:u=Value.ref a:=rx;let#v[t1,t2,_]:=JX p d;calc#v[t1,t2,?_];rw[m.V0];refine iW J (kc (gh (fb (P b s1 l r _ p W) λiv s2 #v[y,t,B,ry,Y]=>
  gh (fb (R b s2 l t _ B Y) λfv s3 #v[z,A,C,q,kvs,k,E,M,S,N,O]=>ie ?_))))
 subst M;show aaA C E ry q S (λv w s' i c j=>#v[v,A,c,j,N v i]) λs' i c=>#v[z,_,c,q,O i]
end
def IF(a:List ef)(dss:List aV)(k:ef)(d:D):List ef×List aV:=
 if Eu a k=γ then (a,dP (λc b=>if c=k then b++[d]else b) a dss)else (a++[k],dss++[[d]])
def LH:Eu c k=γ ↔ k∈c:=by delta Eu;rw[eA];show#v[λ#v[x,a,b]=>ba b▸a,λh=>#v[k,h,aM J]]
def SH{b:List ef}{a:bC}:b.length=a.length->zc (b.zip a) k=U v->∃j:Nat,b[j]?=U k/\a[j]?=U v:=by
 induction b generalizing a with
 |nil=>intro _ h;cases h
 |cons l b i=>
  intro c h;cases a with
  |nil=>cases c
  |cons m a=>
   delta zc at h;rw[eY,fP]at h;by_cases e:l=k
   .subst e;erw[decide_true]at h;ext h;show#v[0,J,J]
   .erw[e,decide_false]at h;let#v[j,d,f]:=i (by exists c) h;show#v[j+1,d,f]
def SI{a:List ef}{b:bC}:a.length=b.length->zc (a.zip b) k=Z->k∉a:=by
 induction a generalizing b with
 |nil=>intro _ _ h;cases h
 |cons i a f=>
  intro c h d;cases b with
  |nil=>cases c
  |cons j b=>
   delta zc at h;rw[eY,fP]at h;by_cases e:i=k
   .subst e;erw[decide_true]at h;ext h
   .erw[e,decide_false]at h;rcases aJ.1 d with z|z
    .show e z.symm
    .show f (by exists c) h z
structure P'(G:Bg)(F:Fr)(H0 H:Hp)(a:Addr)(ks:List ef)(dss:List aV)(bs:List Addr):Prop where
 k0:H a=U (.dK (ks.zip (bs.map V.ref)))
 n0:H0 a=Z
 nB:F.B a=Z
 len:ks.length=bs.length
 z6:bs.length=dss.length
 nd:bs.Nodup
 kd:ks.Nodup
 each:∀(i:Nat) (b:Addr) (ds:aV),bs[i]?=U b->dss[i]?=U ds->∃xs,H b=U (.ax xs)/\H0 b=Z/\F.B b=Z/\a9 G H0 ds xs
section
def P'.gk(g:P' G F H0 H a ks dss bs)(hs:vw H H')(h0:vw H0 c)(d:∀b o,c b=U o->H0 b=U o\/H b=Z):P' G F c H' a ks dss bs where
 k0:=hs _ _ g.k0
 n0:=by
  cases q:c a with
  |none=>rfl
  |some o=>
   rcases d a o q with z|z
   .rw[g.n0]at z;ext z
   .rw[g.k0]at z;ext z
 nB:=g.nB
 len:=g.len
 z6:=g.z6
 nd:=g.nd
 kd:=g.kd
 each:=λi b ds e f=>by
  let#v[xs,q1,q2,h,j]:=g.each i b ds e f;calc#v[xs,hs _ _ q1,?_,h,a9.mono h0 _ _ j];cases q:c b with
  |none=>rfl
  |some o=>
   rcases d b o q with z|z
   .rw[q2]at z;ext z
   .rw[q1]at z;ext z
def bc.still(R:bc G F σ ρ H0 H)(no:∀s∈ρ,s.gy=δ):bc G #v[H0,H,[]] σ ρ H0 H where
 sub:=R.sub
 g0:=vw.refl _
 keep:=λb o e z=>e
 fr:=λb o e=>.inl e
 am:=λa h=>by ext h
 len:=R.len
 sl:=λi s e=>by
  have ok:=R.sl i s e;have n:=no s (ck e);cases s with
  |un=>trivial
  |q d=>show ok
  |_=>ext n
 ap:=λi j s t b z e z so=>by rw[no s (ck e)]at so;ext so
theorem bc.touch(R:bc G F σ ρ H0 H)(no:∀s∈ρ,s.gy=δ)(a:∀b o,H b=U o->(H0 b≠Z\/F.B b≠Z)->H' b=U o)(ha:∀b o,H b=U o->∃f,H' b=U f):bc G F σ ρ H0 H' where
 sub:=λb o e=>a b o (R.sub _ _ e) (.inl (by rw[e];show λz=>nomatch z))
 g0:=R.g0
 keep:=λb o e n=>a b o (R.keep b o e n) (.inr (by rw[e];show λz=>nomatch z))
 fr:=R.fr
 am:=λb c=>by let#v[o,e]:=R.am b c;show ha b o e
 len:=R.len
 sl:=λi s e=>by
  have ok:=R.sl i s e;have n:=no s (ck e);cases s with
  |un=>trivial
  |q d=>show ok
  |_=>ext n
 ap:=λi j s t b w e w so=>by rw[no s (ck e)]at so;ext so
#print "B bs Addr a c f d l e;C a ef c d l e m f" in def aaϑ0{ϑ1:List ϑ2}(h:ϑ1.Nodup){i j:Nat}{b:ϑ2}(ϑ3:ϑ1[i]?=U b)(ϑ4:ϑ1[j]?=U b):i=j:=by let#v[ϑ5,ϑ6]:=bZ.1 ϑ3;let#v[ϑ7,ϑ8]:=bZ.1 ϑ4;show(mm h).1 (ϑ6.t ϑ8.symm)
def P'.more(g:P' G F w H a m dss bs){j:Nat}{k:ef}{b:Addr}{d:D}{v:V}{C:bC}(h:m[j]?=U k)(q:bs[j]?=U b)(l:H b=U (.ax C))(N:c3 G w d v):
  P' G F w (el H b (.ax (C++[v]))) a (IF m dss k d).1 (IF m dss k d).2 bs:=by
 have E:=LH.2 (ck h);delta IF;rw[af E];have ne:a≠b:=λz=>by subst z;rw[g.k0]at l;ext l
 refine#v[by rw[vt ne];show g.k0,g.n0,g.nB,g.len,?_,g.nd,g.kd,λi c P p e=>?_]
 .rw[kl,<- g.z6,<- g.len,fA,g.len]
 .rw[lK]at e;cases f:m[i]? with
  |none=>rw[f]at e;cases e
  |some I=>
   cases u:dss[i]? with
   |none=>rw[f,u]at e;cases e
   |some o=>
    rw[f,u]at e;ext e;let#v[O,x,y,A,B]:=g.each i c o p u;by_cases r:I=k
    .subst r;have t:=aaC g.kd f h;subst t;rw[p]at q;ext q;rw[x]at l;ext l;rw[af J];show#v[_,vp,y,A,xl B (vM N vO)]
    .rw[ai r];have M:c≠b:=λz=>by subst z;have t:=aaB g.nd p q;subst t;rw[f]at h;ext h;show r J
     show#v[O,by rw[vt M];show x,y,A,B]
theorem P'.fresh(g:P' G F o H a ks dss bs)(u:k∉ks)(r:H p=Z)(E:o p=Z)(hB:F.B p=Z)(N:c3 G o d v):
  P' G F o (el (el (el H p (.ax [])) a (.dK ((ks++[k]).zip ((bs++[p]).map V.ref)))) p (.ax [v])) a (IF ks dss k d).1 (IF ks dss k d).2 (bs++[p]):=by
 have I:=λz=>u (LH.1 z);delta IF;rw[ai I];have ne:a≠p:=λz=>by subst z;rw[g.k0]at r;ext r
 have A:p∉bs:=λz=>by
  let#v[i,l,e]:=lS z;have b:bs[i]?=U p:=by rw[aI l,e]
  let#v[j,f]:∃j,dss[i]?=U j:=#v[dss[i]'(by rw[<-g.z6];show l),aI _];let#v[C,h,_]:=g.each i p j b f;rw[r]at h;ext h
 refine#v[by rw[vt ne,vp],g.n0,g.nB,by simp[g.len],by simp[g.z6],?_,?_,λi c j b f=>?_]
 .rw[cq];calc#v[g.nd,by simp,λx t y m=>?_];rw[aN]at m;subst m;show λz=>A (z▸t)
 .rw[cq];calc#v[g.kd,by simp,λx t y m=>?_];rw[aN]at m;subst m;show λz=>u (z▸t)
 .by_cases l:i<bs.length
  .rw[cU l]at b;rw[cU (by rw[<-g.z6];show l)]at f;let#v[C,h,O,P,Q]:=g.each i c j b f;have w:c≠p:=λz=>A (z▸ck b);have M:c≠a:=λz=>by subst z;rw[g.k0]at h;ext h
   show#v[C,by rw[vt w,vt M,vt w];show h,O,P,Q]
  .have q:i=bs.length:=by have:=(bZ.1 b).1;rw[aH,bq]at this;omega
   subst q;rw[cR (aG _),iA]at b;rw[g.z6,cR (aG _),iA]at f;ext b;ext f;show#v[[v],vp,E,hB,vM N vO]
def LI(G:Bg)(a:FE):TS:=X3 (tBM G.K "list" JU (SF (Aa 1) (tF G a) (tLst JM)) (Ef (Aa 2) JM))
def SJ{X:zE}{m:V}(R:bc G F t q M H)(no:∀s∈q,s.gy=δ)(h1:t[1]?=U (U (.ref a)))(h2:t[2]?=U (U m))(rd:c3 G M d m)
  (g:P' G F M H a f dss bs) (hk:fk q=U (x,q)) (ek:DB x=U k) (l1:f.length<1000) (l2:∀l∈dss,l.length<1000)
  (kont:∀N O Q,vw M N->bc G F t q N O->P' G F N O a (IF f dss k d).1 (IF f dss k d).2 Q->X.nx t O):LI G fk X t H:=by
 calc#v[.ref a,h1,a,J,.inl #v[_,.inl g.k0],_,_,_,x,q,bc.still R no,hk,λv E h s P r=>?_];have hs:=λb o e=>P.keep b o e (by simp);have hf:=P.fr;have R2:=R.gk hs s P.sub hf;have B:=g.gk hs s hf;have C:=c3.mono s _ _ rd;calc#v[bP _,λp i=>?_];have np:a≠p:=λz=>by subst z;rw[B.k0]at i;ext i
 have Y:bc G F t q E (el h p (.ax [])):=R2.gi i _;have S:P' G F E (el h p (.ax [])) a f dss bs:=B.gk (vE i _) (vw.refl _) λb o e=>.inl e;have lz:(f.zip (bs.map V.ref)).length<aS:=by rw[fQ,ah,<- g.len,fA,bS];omega
 refine#v[_,k,S.k0,BH r ek,lz,λw I=>?_,λI=>?_]
 .let#v[j,e1,u]:=SH (by rw[ah];show g.len) I;rw[br]at u;cases A:bs[j]? with
  |none=>rw[A]at u;cases u
  |some b=>
   rw[A]at u;ext u;let#v[l,ed]:∃l,dss[j]?=U l:=#v[dss[j]'(by rw[<-g.z6];show(bZ.1 A).1),aI _];let#v[W,T,w2,w3,w4]:=S.each j b l A ed;have lx:W.length<aS:=by rw[<-vv w4,bS];have:=l2 l (ck ed);omega
   calc#v[.inl #v[J,W,f?.of T],m,h2,b,W,m,J,J,T,lx,?_];refine kont E _ bs s (bc.touch Y no (λc o e z=>?_) λc o e=>?_) (S.more e1 A T C)
   .have nc:c≠b:=λy=>by
     subst y;rcases z with z|z
     .show z w2
     .show z w3
    rw[vt nc];show e
   .by_cases y:c=b
    .subst y;show#v[_,vp]
    .rw[vt y];show#v[o,e]
 .have nk:=SI (by rw[ah];show g.len) I;have h0p:=R2.ey i;have hBp:=R2.gr i;have ez:g? (f.zip (bs.map V.ref)) k (.ref p)=(f++[k]).zip ((bs++[p]).map V.ref):=by rw[Rp _ I,aZ,mG (by rw[ah];show g.len)];rfl
  rw[ez];have q0:el (el h p (.ax [])) a (.dK ((f++[k]).zip ((bs++[p]).map V.ref))) p=U (.ax []):=by rw[vt (λz=>np z.symm),vp]
  calc#v[.inl #v[J,[],f?.of q0],m,h2,p,[],m,J,J,q0,by rw[bS];decide,?_];refine kont E _ (bs++[p]) s (bc.touch Y no (λc o e z=>?_) λc o e=>?_) (B.fresh nk i h0p hBp C)
  .have n1:c≠p:=λy=>by
    subst y;rcases z with z|z
    .show z h0p
    .show z hBp
   have n2:c≠a:=λy=>by
    subst y;rcases z with z|z
    .show z B.n0
    .show z B.nB
   rw[bQ,vt n1,vt n2];show e
  .by_cases y:c=p
   .subst y;show#v[_,vp]
   .rw[vt y];by_cases y2:c=a
    .subst y2;show#v[_,vp]
    .rw[vt y2];show#v[o,e]
end
def Hv(b:D->Option D):aV->List ef->List aV->Option (List ef×List aV)
 |[],a,dss=>U (a,dss)
 |d::r,a,dss=>match b d with
  |some x=>match DB x with
   |some k=>if (decide (a.length<1000)&&dss.all λc=>decide (c.length<1000))=γ then Hv b r (IF a dss k d).1 (IF a dss k d).2 else Z
   |none=>Z
  |none=>Z
def Np(b:D->Option D):FS:=λc=>match c with
 |[.q (.ax L),.un,.un]=>match Hv b L [] []with
  |some (a,dss)=>U (.rt (.M a (dss.map .ax)) [.q (.ax L),.un,.un])
  |none=>Z
 |_=>Z
section
theorem FW:∀(bs:List Addr) (dss:List aV),bs.length=dss.length->(∀(i:Nat) (b:Addr) (a:aV),bs[i]?=U b->dss[i]?=U a->∃c,d b=U (.ax c)/\a9 G d a c)->
  a9 G d (dss.map .ax) (bs.map V.ref)
 |[],[],_,_=>vO
 |[],_::_,h,_=>by cases h
 |_::_,[],h,_=>by cases h
 |b::bs,a::dss,h,k=>by let#v[c,j,l]:=k 0 b a J J;show vM (AC j l) (FW bs dss (by exists h) λi b a e f=>k (i+1) b a e f)
theorem WA(R:bc G F σ [.q (.ax L),.un,s2] H0 H)(g:P' G F H0 H a ks dss bs)(o:Obj):
  ∃w,vw H0 w/\bc G F σ [.q (.ax L),.un,.un] w (el H a (.k4 o (.dK (ks.zip (bs.map V.ref)))))/\c3 G w (.M ks (dss.map .ax)) (.ref a):=by
 have x:∀{b:Addr},b∈bs->∃xs,H b=U (.ax xs)/\H0 b=Z/\F.B b=Z:=λ{b} p=>by let#v[i,hi,e]:=lS p;let#v[xs,h,m,r,_]:=g.each i b (dss[i]'(by rw[<-g.z6];show hi)) (by rw[aI hi,e]) (aI _);show#v[xs,h,m,r]
 have na:a∉bs:=λz=>by let#v[xs,h,_]:=x z;rw[g.k0]at h;ext h
 have q:vw H0 (λc=>if c=a then U (.k4 o (.dK (ks.zip (bs.map V.ref))))else if c∈bs then H c else H0 c):=λc u e=>by
  have f:c≠a:=λz=>by subst z;rw[g.n0]at e;ext e
  have l:c∉bs:=λz=>by let#v[_,_,m,_]:=x z;rw[m]at e;ext e
  change (if c=a then _ else if c∈bs then H c else H0 c)=_;rw[ai f,ai l];show e
 refine#v[_,q,?_,?_]
 .show {
   sub:=λc u e=>by
    have d:(if c=a then U (HO.k4 o (.dK (ks.zip (bs.map V.ref))))else if c∈bs then H c else H0 c)=U u:=e;by_cases f:c=a
    .subst f;rw[af J]at d;rw[vp];show d
    .rw[ai f]at d;rw[vt f];by_cases l:c∈bs
     .rw[af l]at d;show d
     .rw[ai l]at d;show R.sub _ _ d
   g0:=R.g0.t q
   keep:=λc u e n=>by rw[vt (λz=>by subst z;rw[g.nB]at e;ext e)];show R.keep c u e n
   fr:=λc u e=>by
    have d:=e;by_cases f:c=a
    .subst f;show .inr g.nB
    .rw[ai f]at d;by_cases l:c∈bs
     .let#v[_,_,_,r]:=x l;show .inr r
     .rw[ai l]at d;show R.fr _ _ d
   am:=λc C=>by
    by_cases f:c=a
    .subst f;show#v[_,vp]
    .rw[vt f];show R.am c C
   len:=R.len
   sl:=λi s e=>by
    match i,e with
    |0,e=>ext e;let#v[v,h,m]:=R.sl 0 _ J;show#v[v,h,c3.mono q _ _ m]
    |1,e=>ext e;trivial
    |2,e=>ext e;trivial
    |i+3,e=>ext e
   ap:=λi j s t b _ e _ so=>by
    match i,e with
    |0,e=>ext e;cases so
    |1,e=>ext e;cases so
    |2,e=>ext e;cases so
    |i+3,e=>cases e }
 .delta c3;calc#v[a,o,bs.map V.ref,J,by change (if a=a then _ else _)=_;rw[af J],by rw[ah];show g.len,FW bs dss g.z6 λi b ds y A=>?_];let#v[xs,h,m,r,I]:=g.each i b ds y A;have p:=ck y;calc#v[xs,?_,a9.mono q _ _ I];have E:b≠a:=λz=>na (by rw[<-z];show p);rw[ai E,af p];show h
def SK{L:aV}{b:Sl}(h:b.gy=δ):∀s∈[Sl.q (.ax L),.un,b],s.gy=δ:=λs a=>by
 erw[aJ,b0,or_false]at a;rcases a with rfl|rfl|rfl
 .rfl
 .rfl
 .show h
inductive GI(G:Bg) (F:Fr) (Ha:Hp) (p:Addr) (L:aV) (vk:D->Option D) (KS:List ef) (DSS:List aV) (i:Nat) (σ':St) (H':Hp):Prop
 |mk (Hi:Hp) (ks:List ef) (dss:List aV) (bs:List Addr) (s2:Sl):vw Ha Hi->Sl.gy s2=δ->bc G F σ' [.q (.ax L),.un,s2] Hi H'->σ'[1]?=U (U (.ref p))->P' G F Hi H' p ks dss bs->Hv vk (L.drop i) ks dss=U (KS,DSS)->GI G F Ha p L vk KS DSS i σ' H'
#print h
def Qq(h1:PS X st1 (Ee G1 (Ab 1)))(h2:PS X st2 (Ve (S? G (iL (cV 0))) (Ab 2) (LI G (c1 f (cV 2)))))
  (h3:PS X st3 (tRet (λC H Q=>Aa 1 C H λx I=>Q x I\/∃a kvs,I a=U (.dK kvs)/\∀o,Q x (el I a (.k4 o (.dK kvs)))))):kv X [st1,st2,st3] (kb G (Np f)):=
 kv.cx (A9 h1 (A9 h2 (Ed h3))) λE C H hh=>by
  let#v[F,ρ,H0,o,R,e,k,k2]:=hh;delta Np at e;split at e
  .rename_i L;cases O:Hv f L [] []with
   |none=>erw[O]at e;cases e
   |some p=>
    let#v[KS,DSS]:=p;erw[O]at e;ext e;intro p hp;have R1:=(R.gi hp (.dK [])).set (i:=1) (v:=.ref p) (s:=.un) trivial (λz=>by ext z);have t:C.length=3:=R.len;have g1:P' G F H0 (el H p (.dK [])) p [] [] []:=#v[vp,R.ey hp,R.gr hp,J,J,ir,ir,λi b ds e1=>by ext e1];have v1:(C.set 1 (U (V.ref p)))[1]?=U (U (.ref p)):=by rw[j7 (by rw[t];decide)]
    calc#v[_,_,_,L,_,bc.still R1 (SK J),J,λA_ M Hb s A wk=>?_];have hs:=λb o e=>A.keep b o e (by simp);have R2:=R1.gk hs s A.sub A.fr;have g2:=g1.gk hs s A.fr;refine#v[λi m w h=>m=L.length - i/\i<=L.length/\GI G F M p L f KS DSS i w h,
     #v[_,J,bP _,M,[],[],[],.un,vw.refl _,J,R2,v1,g2,O],?_]
    rintro i m d j ⟨rfl,hi,Hi,ks,dss,bs,s2,B,n2,l,vi,T,c⟩;by_cases hlt:i<L.length
    .have ed:=iR hlt;rw[ed]at c;delta Hv at c;cases S:f L[i]with
     |none=>erw[S]at c;cases c
     |some x=>
      erw[S]at c;cases P:DB x with
      |none=>erw[P]at c;cases c
      |some kk=>
       erw[P]at c;split at c
       .rename_i W;erw[bA,bU,bH]at W;let#v[go,yl]:=(wk i Hi j B l.sub).1 L[i] (aI hlt);refine .inr #v[go,GI G F M p L f KS DSS (i+1),
         λw h q=>#v[L.length - (i+1),by omega,J,hlt,q],λu h y=>?_]
        let#v[H2,t1,t2,t3,t4,t5]:=yl u h y;have Y:d.length=3:=l.len;have R3:bc G F (d.set 2 (U u)) [.q (.ax L),.un,.q L[i]] H2 h:=(l.gk t3 t1 t2 t4).V? 2 t5;have w1:(d.set 2 (U u))[1]?=U (U (.ref p)):=by rw[lL #[]];show vi
        have w2:(d.set 2 (U u))[2]?=U (U u):=by rw[j7 (by rw[Y];decide)]
        calc SJ R3 (SK J) w1 w2 t5 (T.gk t3 t1 t4) (by change c1 f (cV 2) _=_;delta c1 cV;erw[iU,List.getElem?_cons_zero,S]) P W.1 (λds hd=>W.2 ds hd) λHc Hd N sc Rc gc=>?_;show#v[Hc,_,_,N,_,B.t (t1.t sc),J,Rc,w1,gc,c]
       .ext c
    .have r:i=L.length:=by omega
     calc .inl #v[(wk i Hi j B l.sub).2 r,?_];subst r;rw[List.drop_length]at c;ext c;calc#v[.ref p,vi,.inr #v[p,_,T.k0,λo=>?_]];let#v[Hq,q1,q2,q3]:=WA l T o;show k _ _ Hq _ (s.t (B.t q1)) q2 q3
  .ext e
end
#print f
section
variable{X:Cx}
#print "WB int;SL bool;Z' tuple" in def ϑ0:∀y b,yC "ϑ1" y=U b->de X.K (y.val G) (.type "ϑ1")=U b:=Hn (by kernel_rfl)
end
def Hw:entryFor table "dict_itemiterator.__iter__" = U dA.«dict_keyiterator.__iter__»:=by
 refine mN (id':="dict_keyiterator.__iter__") ?_ J ?_ ?_
 .kernel_rfl
 .decide +kernel
 .kernel_rfl
def WC{kvs:List (ef×V)}{a:List (ef×aa)}(r:KV kvs a){i:Nat}{k:ef}{x:aa}(e:a[i]?=U (k,x)):∃z,kvs[i]?=U (k,z)/\d? z x:=by
 induction r generalizing i with
 |nil=>cases e
 |@cons p q l c h _ b=>
  cases i with
  |zero=>let#v[pk,pv]:=p;ext e;show#v[pv,by rw[show pk=k from h.1];rfl,h.2]
  |succ i=>show b e
def Iti(a:Addr)(o:Obj)(kvs:List (ef×V)):It:=
 #v[λi H=>i<kvs.length/\H a=U (.k4 o (.dK kvs)),λi H v b=>∃p k z,H p=Z/\v=.ref p/\b=el H p (.bx [kV k,z])/\kvs[i]?=U (k,z),λi H=>kvs.length<=i/\H a=U (.k4 o (.dK kvs))]
def iTn(d a:Addr)(o:Obj)(n:Nat)(i:Nat)(h:Heap):Prop:=∃c b ok e,o.data=.dict c b/\IsItemIter h d a i n b ok e
theorem Nq{P:bj}{w:aR}{K:ay}{elts:List Expr}{x1}{pos:Pos}(a it:Addr)(o:Obj)(kvs:List (ef×V)):J' P w K (.Tuple elts x1 pos) (Iti a o kvs) [it] it (iTn it a o kvs.length) where
 mem:=by simp
 obj:=λi h st b c=>by
  have e:b=it:=by exists c
  subst e;let#v[es,ep,ok,j,hd,q]:=st;show#v[_,q,λv z=>nomatch z]
 keep:=λi h h' st k=>by let#v[es,ep,ok,j,hd,q]:=st;show#v[es,ep,ok,j,hd,k it (by simp) _ q]
 item:=by
  intro X hP t hK y i pins s σ H E I l st p;subst hP t hK;let#v[hi,m]:=p;let#v[es,ep,ok,j,hd,d]:=st;let#v[_,_,vs,r,da]:=AE I m hd;have f:kvs.length=vs.length:=r.length;let#v[#v[k,x],C]:∃q,vs[i]?=U q:=#v[vs[i]'(by rw[<-f];show hi),aI _];let#v[z,hz,rz]:=WC r C;rw[f]at d;calc wpAny_pyNext_items_item d da C λkey h' Y q1 q2 q3 kk=>?_;calc#v[_,J,wpAny_letOwnedTupleGo_items (s:={ s with heap:=h' }) q1 λh2 q4 sb=>?_];have lt: ~~~s≠it:=λw=>au (aQ d) (by rw[w];show eE _);have B:h2.get? (~~~s)=U { cls:=.type "tuple", data:=.seq #[key,x] }:=sb.extBut _ _ lt q2;have u:er X.prog X.w (el H (~~~s) (.bx [kV k,z])) h2 (~~~s) (.bx [kV k,z]):=#v[by rw[bS];change 2<=16777216;decide,[key,x],.cons (Dl Y) (.cons rz .nil),#v[_,B,J,_,J],λo e=>by rw[show _=U _ from B]at e;ext e;rfl];have G:=b9.xr (h':=h2) (t':=s.toks) (T:= ~~~s) (xs:=[kV k,z]) (ch:=[it]) I l
   (λb o c e=>sb.extBut _ _ (λw=>c (by simp[w])) (kk b o (λw=>c (by simp[w])) e)) (aG _) u
  calc#v[.ref (~~~s),_,G,J,#v[_,k,z,I.e8.fresh (aG _),J,J,hz],#v[es,ep,key,x,hd,by rw[f];show q4],λb c=>?_];rw[vt (λw=>?_)]
  .show(l b c).1
  .have e:b=it:=by exists c
   show lt (w.symm.t e)
 done:=by intro X hP t hK y i pins s σ H E I l st p;subst hP t hK;let#v[hi,m]:=p;let#v[es,ep,ok,j,hd,d]:=st;let#v[N,O,f2,R,S,W]:=l it (by simp);let#v[_,_,vs,r,da]:=AE I m hd;have f:kvs.length=vs.length:=r.length;rw[f]at d;show wpAny_pyNext_items_end (I.ok.hd y) d da (gf (by rw[<-f];show hi)) λh' M=>#v[J,I.ia (t':=s.toks) (λb o c e=>M b o c e) N O R S W]
 self:=λA i s Q E st h=>by let#v[es,ep,ok,j,hd,d]:=st;have hT:s.TypeIs (.ref it) "dict_itemiterator" := #v[_,d,J];calc mh hT oO (fN oO hT Hw ?_ (F.args_dict_itemiterator_iter_1 _));change av _ _ (ret (.ref it)) _ _ s;show aC #v[_,J,"dict_itemiterator", _,hT,F.slot_dict_itemiterator_next.lookup,h]
section
def SM(c:TE):TI:=λd H R=>c d H λx b=>∃a o kvs,x=.ref a/\b a=U (.k4 o (.dK kvs))/\R (Iti a o kvs) b
theorem SN{o:Expr}{p:TE}{apos cpos:Pos}(B:PE X o p)(hbase:fo o "items" X.a8 (eval o X.a8)=eval o X.a8:=by rfl)(hline:(apos.endLine==cpos.line)=γ:=by rfl):
  PI X (.Tuple elts N tpos) (.Call (.Attribute o "items" apos) [] [] cpos) (SM p):=by
 intro pins s σ H R I h;calc wpAny_Call_method0_late hbase hline (fb (B pins s σ H _ I h) λv c zz=>?_);let#v[x,H1,d,r1,a,ob,kvs,e,l,q]:=zz;subst e;obtain rfl:v=Value.ref a:=r1;let#v[m,G,M]:=JX d (.inl #v[kvs,.inr #v[ob,l]]);calc#v["dict", "dict.items", ku,qe,F.type_dict_items,m,G,iW J (PySem.evalArgs_none ?_)];let#v[q0,_,y,vs,r,C,es,ep,i,t,j,u]:=(show er X.prog X.w H1 c.heap a (.k4 ob (.dK kvs)) from d.e8 a _ l);rw[q0]at i;ext i;have A:kvs.length=vs.length:=r.length;have da:c.heap.DictAt (vB X.prog X.w) a vs ep:=#v[ob,es,q0,t,j,u];calc jw qe m F.entry_dict_items (F.args_dict_items_1 _) (meets_dict_items (vB X.prog X.w) a y) #v[#v[vs,da.dictOf],?_];have f:b9 X pins σ H1 { c with heap:=c.heap.push { cls:=.type "dict_items", data:=.fields #[.ref a] } }:=d.gp (t':=c.toks) λb o e=>aK _ e;calc wpAny_pyIter_items (knd:=vB X.prog X.w) (kvs:=vs) (ep:=ep) #v[_,bz _ J,J,J] (da.push _) ?_;calc#v[_,[_],_,_,H1,J,f.gp (t':=c.toks) λb o e=>aK _ e,Nq a _ ob kvs,#v[es,ep,.none,.none,j,by rw[A];show bz _ J],λb z=>?_,q];have e:=aN.1 z;subst e;show f.I' (aG _) (f.e8.fresh (aG _))
def ω(f:FE):FA:=λd=>match f d with
 |some (.M c b,a)=>U (EC (c.map Nk) b,a)
 |_=>Z
#print h
def Qr{tg e:Expr}{f:FE}(h:PI X tg e (SM (tF G f))):PI X tg e (S? G (ω f)):=PI.cx h λσ H R hh=>by
 let#v[F,ρ,H0,ds,ρ',R,e,k]:=hh;delta ω at e;split at e
 .rename_i B u ρ1 e1;ext e;calc#v[F,ρ,H0,_,_,R,e1,λv H1 H1' s O r=>?_];delta c3 at r;let#v[a,o,xs,rfl,N,W,Y]:=r;have Q:(B.zip xs).length=B.length:=by rw[fQ,<- W,fA]
  have lx:xs.length=u.length:=(vv Y).symm;refine#v[a,o,_,J,O.sub _ _ N,k _ _ _ s O λi E H2' t C=>#v[λd c=>?_,λhl=>?_]]
  .delta EC at c;rw[lK,br]at c;cases w:B[i]? with
   |none=>rw[w]at c;cases c
   |some j=>
    cases I:u[i]? with
    |none=>rw[w,I]at c;cases c
    |some dy=>
     rw[w,I]at c;ext c;have hi:i<B.length:=(bZ.1 w).1;let#v[vy,y1,y2]:=xm Y I;calc#v[#v[by rw[Q];show hi,C _ _ (t _ _ N)],λx H3 y=>?_];let#v[p,S,z,M,rfl,rfl,l]:=y;rw[oT]at l;have a1:=l.1;have P:=l.2;rw[w]at a1;rw[y1]at P;ext a1;ext P;have T:E p=Z:=by
      cases q:E p with
      |none=>rfl
      |some o=>have:=C _ _ q;rw[M]at this;ext this
     refine#v[el E p (.bx [kV S,z]),vE T _,λb o e=>?_,vE M _,λb o e=>?_,zM (fh.of vp) ?_]
     .by_cases A:b=p
      .subst A;rw[vp]at e ⊢;show e
      .rw[vt A]at e ⊢;show C _ _ e
     .by_cases A:b=p
      .subst A;show .inr M
      .rw[vt A]at e;show .inl e
     .have m:=t.t (vE T (.bx [kV S,z]));show vM (OM _) (vM (c3.mono m _ _ y2) vO)
  .refine#v[by rw[Q,hl,LF,ah,<- lx,<- W,fA];show aG _,C _ _ (t _ _ N)]
 .ext e
end
#print f
def R?(F:Fr)(p:Addr)(o:HO):Fr:=#v[F.B0,λb=>if b=p then U o else F.B b,F.A]
def GL:(R? F p o).B p=U o:=by change (if p=p then _ else _)=_;rw[af J]
theorem Dm(h:b≠p):(R? F p o).B b=F.B b:=by change (if b=p then _ else _)=_;rw[ai h]
theorem DS.frame{m:Fr}(h:DS G F r H o s)(hA:m.A=F.A)(hB:∀a,o=U (.ref a)->s.gy=γ->F.B a=Z->m.B a=Z):DS G m r H o s:=by
 cases s with
 |un=>trivial
 |q d=>show h
 |J p=>let#v[a,l,b,e,f,i,j]:=h;show#v[a,l,b,e,f,hB a b J i,j]
 |pm p=>let#v[a,l,b,e,f,i,j]:=h;show#v[a,l,b,e,f,by rw[hA];show i,j]
 |dk u p=>let#v[a,l,b,e,f,i,j,q]:=h;show#v[a,l,b,e,f,hB a b J i,j,q]
 |ob c w p=>let#v[a,t,l,b,e,f,i,j,q]:=h;show#v[a,t,l,b,e,f,by rw[hA];show i,j,q]
section
theorem bc.R?(R:bc G F σ ρ H0 H)(c:H p=Z)(o:HO):bc G (L4.R? F p o) σ ρ H0 (el H p o) where
 sub:=(R.gi c o).sub
 g0:=R.g0
 keep:=λb u e n=>by
  by_cases d:b=p
  .subst d;rw[GL]at e;rw[vp];show e
  .rw[Dm d]at e;show(R.gi c o).keep b u e n
 fr:=λb u e=>by
  have d:b≠p:=λz=>by subst z;rw[R.ey c]at e;ext e
  rw[Dm d];show R.fr b u e
 am:=(R.gi c o).am
 len:=R.len
 sl:=λi s e=>by calc DS.frame ((R.gi c o).sl i s e) J λa h1 so hB=>?_;let#v[f,u,q1,q2,_]:=(R.sl i s e).at so;rw[h1]at q1;ext q1;rw[Dm (λz=>by subst z;rw[c]at q2;ext q2)];show hB
 ap:=R.ap
theorem bc.F1(R:bc G (L4.R? F p o) σ ρ H0 H)(hB:F.B p=Z):bc G F σ ρ H0 H where
 sub:=R.sub
 g0:=R.g0
 keep:=λb u e n=>R.keep b u (by rw[Dm (λz=>by subst z;rw[hB]at e;ext e)];show e) n
 fr:=λb u e=>by
  rcases R.fr b u e with z|z
  .show .inl z
  .by_cases c:b=p
   .subst c;show .inr hB
   .rw[Dm c]at z;show .inr z
 am:=R.am
 len:=R.len
 sl:=λi s e=>DS.frame (R.sl i s e) J λa h1 so q=>by
  by_cases c:a=p
  .subst c;show hB
  .rw[Dm c]at q;show q
 ap:=R.ap
theorem bc.layHeld(R:bc G (L4.R? F p o) σ ρ H0 H)(hB:F.B p=Z)(h0:H0 p=Z)(nA:p∉F.A)(u:HO):bc G F σ ρ (el H0 p u) (el H p u) where
 sub:=λb v e=>by
  by_cases c:b=p
  .subst c;rw[vp]at e ⊢;show e
  .rw[vt c]at e ⊢;show R.sub _ _ e
 g0:=(bc.F1 R hB).g0.t (vE h0 u)
 keep:=λb v e n=>by rw[vt (λz=>by subst z;rw[hB]at e;ext e)];show(bc.F1 R hB).keep b v e n
 fr:=λb v e=>by
  by_cases c:b=p
  .subst c;show .inr hB
  .rw[vt c]at e;show(bc.F1 R hB).fr _ _ e
 am:=λb c=>by
  have d:b≠p:=λz=>by subst z;show nA c
  rw[vt d];show R.am b c
 len:=R.len
 sl:=λj t e=>by
  have ne:∀a,(σ[j]?).join=U (.ref a)->t.gy=γ->a≠p:=λa z to y=>by
   subst y;let#v[h,v,q1,_,_,f]:=(R.sl j t e).at to;rw[z]at q1;ext q1;rcases f with q|q
   .rw[GL]at q;ext q
   .show nA q
  refine((bc.F1 R hB).sl j t e).gk (vE h0 u) (λa v z to q=>?_) λa v z to q q0=>?_
  .rw[vt (ne a z to)];show q
  .rw[vt (ne a z to)];show q0
 ap:=R.ap
def zf:List (Str×FE)->aU->Option (aV×aU)
 |[],a=>U ([],a)
 |(_,f)::r,a=>match f a with
  |some (d,b)=>match zf r b with
   |some (e,c)=>U (d::e,c)
   |none=>Z
  |none=>Z
def SO(G:Bg)(kfs:List (Str×FE)):List (TE×TE):=kfs.map λq=>(tC (.str q.1),tF G q.2)
theorem LJ:∀(kfs:List (Str×FE)) (i b:aU) (l:aV) (h H:Hp) (Q:List (V×V)->Hp->Prop),bc G F y i h H->zf kfs i=U (l,b)->
  (∀m j a,vw h j->bc G F y b j a->a9 G j l m->Q (dP (λk v=>(V.str k,v)) (kfs.map (·.1)) m) a)->JW (SO G kfs) y H Q
 |[],i,b,l,h,H,Q,R,e,k=>by ext e;show k [] h H (vw.refl _) R vO
 |(x,f)::r,i,b,l,h,H,Q,R,e,k=>by
  delta zf at e;cases t:f i with
  |none=>erw[t]at e;cases e
  |some q=>
   let#v[d,c]:=q;erw[t]at e;cases u:zf r c with
   |none=>erw[u]at e;cases e
   |some q=>let#v[p,C]:=q;erw[u]at e;ext e;calc#v[F,i,h,d,c,R,t,λv j a s A B=>?_];show LJ r c _ p j a _ A u λm z o w R2 rs=>k (v::m) z o (s.t w) R2 (vM (c3.mono w _ _ B) rs)
theorem LK:∀(more acc:List (ef×V)),((acc++more).map (·.1)).Nodup->Ct acc more=acc++more
 |[],acc,_=>by rw[bF];rfl
 |q::r,acc,h=>by
  have d:(acc.any λc=>decide (c.1=q.1))=δ:=by rw[jg];intro z;let#v[y,b,a]:=eA.1 z;rw[aZ,cq]at h;show h.2.2 y.1 (bT b) q.1 (bT aX) (ba a)
  have e:g? acc q.1 q.2=acc++[q]:=by delta g?;rw[d];rfl
  change Ct (g? acc q.1 q.2) r=_;rw[e,LK r (acc++[q]) (by exists h)];simp
def Qs:el (el H p x) p y=el H p y:=by
 funext b
 by_cases a:b=p
 .subst a;rw[vp,vp]
 .rw[vt a,vt a,vt a]
def CG(kfs:List (Str×FE)):FE:=λc=>match zf kfs c with
 |some (b,a)=>U (.M (kfs.map λq=>Sum.inr q.1) b,a)
 |none=>Z
theorem Hy:∀{kfs:List (Str×FE)} {c a:aU} {b:aV},zf kfs c=U (b,a)->b.length=kfs.length
 |[],c,a,b,e=>by ext e;rfl
 |(x,f)::r,c,a,b,e=>by
  delta zf at e;cases j:f c with
  |none=>erw[j]at e;cases e
  |some q=>
   let#v[d,i]:=q;erw[j]at e;cases h:zf r i with
   |none=>erw[h]at e;cases e
   |some q=>let#v[l,m]:=q;erw[h]at e;ext e;rw[aL,aL,Hy h]
theorem LL:∀(a:aD) (b:bC),dP (λk v=>(V.str k,v)) a b=((a.map λk=>(Sum.inr k:ef)).zip b).map λc=>(kV c.1,c.2)
 |[],b=>rfl
 |k::a,[]=>rfl
 |k::a,v::b=>by change (V.str k,v)::_=_;rw[LL a b];rfl
theorem ON(h:PE X e (Rt (SO G kfs)))(y:(kfs.map λq=>(Sum.inr q.1:ef)).Nodup)(l:kfs.length<=15):PE X e (tF G (CG kfs)):=PE.cx (PE.ψ h) λN H Q w=>by
 let#v[F,o,r,d,I,R,e,k]:=w;delta CG at e;cases a:zf kfs o with
 |none=>erw[a]at e;cases e
 |some q=>
  let#v[t,M]:=q;erw[a]at e;ext e;intro p b;have hB:F.B p=Z:=R.gr b;have nA:p∉F.A:=λz=>by let#v[u,q]:=R.am p z;rw[b]at q;ext q
  calc LJ kfs o _ t r _ _ (bc.R? R b (.dK [])) a λc m f s i rs=>?_;have E:f p=U (.dK []):=i.keep p _ GL nA;have j:m p=Z:=by
   cases q:m p with
   |none=>rfl
   |some u=>
    rcases i.fr p u q with z|z
    .have:=R.g0 _ _ z;rw[R.ey b]at this;ext this
    .rw[GL]at z;ext z
  have lv:(kfs.map λq=>(Sum.inr q.1:ef)).length=c.length:=by rw[ah,<- Hy a,vv rs]
  have x:(((kfs.map λq=>(Sum.inr q.1:ef)).zip c).map (·.1))=kfs.map λq=>(Sum.inr q.1:ef):=qv (by rw[lv];show aG _)
  refine#v[E,(kfs.map λq=>(Sum.inr q.1:ef)).zip c,?_,?_,.inr #v[p,_,vp,λC=>?_]]
  .rw[LL,aT];rfl
  .rw[fQ,<- lv,fA,ah];show l
  .rw[Qs,LK _ [] (by rw[bQ,x];show y),bQ];calc k _ _ _ (s.t (vE j _)) (bc.layHeld i hB j nA _) ?_;delta c3;show#v[p,C,c,J,vp,lv,a9.mono (vE j _) _ _ rs]
end
inductive IspL(G:Bg) (g:aV->aV->Option (D×aV)) (vs:bC) (H:Hp) (Q:VK) (E:XK):Prop
 |i (a:Addr) (us:bC) (h0:vs=us++[.ref a]) (h1:π G g (.ref a::us) H Q E):IspL G g vs H Q E
def Mi(G:Bg)(g:aV->aV->Option (D×aV)):Sp:=λa H Q E=>IspL G g a H Q E
def L?(n:Nat)(b a:aV):aU:=a.map Sl.q++.pm b::fR (n - a.length - 1) .un
def LM(i:Nat)(b:aU):Option aV:=match b[i]? with
 |some (.pm a)=>U a
 |_=>Z
def z5(b n:Nat)(f:FS):aV->aV->Option (D×aV):=λh e=>if e.length=b then match f (L? n h e)with
 |some (.rt d c)=>match LM b c with
  |some a=>U (d,a)
  |none=>Z
 |some (.rn i c)=>match LM b c with
  |some a=>U (.ax i,a)
  |none=>Z
 |_=>Z
 else Z
#print h
def Fh(h:LM i b=U a):b[i]?=U (.pm a):=by
 delta LM at h;split at h
 .rename_i e;ext h;show e
 .ext h
def LN(h:z5 c n f j i=U (d,es')):i.length=c/\((∃a,f (L? n j i)=U (.rt d a)/\a[c]?=U (.pm es'))\/∃l a,f (L? n j i)=U (.rn l a)/\a[c]?=U (.pm es')/\d=.ax l):=by
 delta z5 at h;split at h
 .rename_i m;calc#v[m,?_];split at h
  .rename_i x a e;cases b:LM c a with
   |none=>erw[b]at h;cases h
   |some q=>erw[b]at h;ext h;show .inl #v[a,e,Fh b]
  .rename_i x a e;cases b:LM c a with
   |none=>erw[b]at h;cases h
   |some q=>erw[b]at h;ext h;show .inr #v[x,a,e,Fh b,J]
  .ext h
 .ext h
#print f
def J5(h:(L? n c a)[i]?=U t):(i=a.length/\t=.pm c)\/t=.un\/∃d,a[i]?=U d/\t=.q d:=by
 delta L? at h;by_cases b:i<a.length
 .rw[cU (by exists b),br,aI b]at h;ext h;show .inr (.inr #v[_,aI b,J])
 .rw[cR (by exists b),ah]at h;cases q:i - a.length with
  |zero=>rw[q]at h;ext h;show .inl #v[by omega,J]
  |succ m=>
   rw[q,iU,hX]at h;split at h
   .ext h;show .inr (.inl J)
   .ext h
section
def WD{N:aD}(ha:H a=U (.ax xs))(h0:H0 a=Z)(s:vw H0 H)(r1:a9 G H0 es xs)(r:a9 G H0 ds us)(hN:us.length+1<=N.length):bc G #v[H0,H,[a]] (L2.start N (us++[.ref a])) (L? N.length es ds) H0 H:={
  sub:=s
  g0:=vw.refl _
  keep:=λb o e z=>e
  fr:=λb o e=>.inl e
  am:=λb f=>by rw[aN]at f;subst f;show#v[_,ha]
  len:=by delta L2.start L?;erw[aH,ah,cP,aL,dr];have:=vv r;omega
  sl:=λi t e=>by
   rcases J5 e with ⟨rfl,rfl⟩|rfl|⟨d,l,rfl⟩
   .show#v[a,xs,yp (by rw[vv r,cR (aG _),iA];rfl),ha,h0,aN.2 J,r1]
   .trivial
   .let#v[v,c,m]:=xm r l;show#v[v,yp (by rw[cU (bZ.1 c).1];show c),m]
  ap:=λi j t u b hij p q ht h=>by
   rcases J5 p with ⟨rfl,rfl⟩|rfl|⟨_,_,rfl⟩
   .rcases J5 q with ⟨rfl,rfl⟩|rfl|⟨_,_,rfl⟩
    .show au J hij
    .ext h
    .ext h
   .ext ht
   .cases ht }
def WE{N:aD}(hN:A+1<=N.length)(h:Mi G (z5 A N.length f) vs H Q E):kb G f { nx:=λ_ m=>Q .I m,rt:=Q } (L2.start N vs) H:=by
 let#v[a,us,rfl,b,us',xs,x,es,ds,d,y,M,S,P,s,r1,r,e,k]:=h;ext M;let#v[W,q]:=LN e;have R:=WD (N:=N) S P s r1 r (by rw[<-vv r,W];show hN);have fin:∀{v:V} {l:St} {w:aU} {c m:Hp},vw x c->bc G #v[x,H,[a]] l w c m->w[A]?=U (.pm y)->c3 G c d v->Q v m:=λu i t B=>by let#v[F,C,q1,Y,q3,q4,q5]:=i.sl A _ t;have O:F=a:=aN.1 q4;subst O;show k _ C _ _ u i.sub (λb o e n=>i.keep b o e (λz=>n (aN.1 z))) i.fr q3 Y q5 B
 rcases q with ⟨ρ,q,t⟩|⟨zs,ρ,q,t,rfl⟩
 .show#v[_,_,x,_,R,q,λv l c m u i B=>fin u i t B,λ_=>J]
 .calc#v[_,_,x,_,R,q,λp C l c m u i X j T I rs=>?_,λ_=>J];show fin (u.t (vE j _)) (i.l? X j T I) t (AC vp (a9.mono (vE j _) _ _ rs))
def ad9(f:∀e c d,g e c=U d->c.length=i):∀b H Q E,Mi G g b H Q E->b.length=i+1:=λb H Q E h=>by let#v[a,j,rfl,h]:=h;have:=RU f _ _ _ _ h;rw[aH];show this
def WG:∀b a d,z5 e n f b a=U d->a.length=e:=λz z d h=>(LN (d:=d.1) (es':=d.2) h).1
inductive Yp(G:Bg) (i:Nat) (a:FA) (σ:St) (H:Hp) (Q:(bC->Hp->Prop)):Prop
 |i (F ρ H0 ds ρ' es) (h0:bc G F σ ρ H0 H) (h1:a ρ=U (ds,ρ')) (h2:xb ρ' i=U es) (h3:∀xs b H0' H',vw H0 H0'->bc G F σ ρ' H0' H'->a9 G H0' ds xs->σ[i]?=U (U (.ref b))->Q (xs++[.ref b]) H'):Yp G i a σ H Q
def Nr(G:Bg)(i:Nat)(a:FA):TA:=λb H Q=>Yp G i a b H Q
def SQ(h:PE X e (Aa i))(f:aE [e] X.a8=[(δ,eval e X.a8)]:=by rfl):PA X [e] (Nr G i vG):=PA.cx (wQ h zd f) λr H Q d=>by let#v[F,q,l,m,j,o,R,e,c,k]:=d;ext e;let#v[b,p,a,_]:=xD R c;show#v[.ref b,a,k [] b _ _ (vw.refl _) R vO a]
def Qt(y:PE X e (tF G f))(A:PA X a (Nr G i g))(B:aE (e::a) X.a8=(δ,eval e X.a8)::aE a X.a8:=by rfl):PA X (e::a) (Nr G i (ab f g)):=PA.cx (wQ y A B) λO H Q z=>by let#v[F,I,l,d,h,a,R,e,w,k]:=z;let#v[x,r,c,t,u,rfl]:=BB e;show#v[F,I,l,x,c,R,t,λv m o s q C=>#v[F,c,m,r,h,a,q,u,w,λN b M p j R2 rs E=>k _ _ _ _ (s.t j) R2 (vM (c3.mono j _ _ C) rs) E]]
def wY(g:aV->aV->Option (D×aV))(i:Nat)(a:FA):FE:=λh=>match a h with
 |some (e,b)=>match xb b i with
  |some f=>match g f e with
   |some (d,c)=>U (d,putAt b i c)
   |none=>Z
  |none=>Z
 |none=>Z
def WH(h:PE X e (Cq (Mi G g) [] E (Nr G i a))):PE X e (tF G (wY g i a)):=PE.cx h λσ H Q P=>by
 let#v[F,y,z,d,ρ',R,e,k]:=P;delta wY at e;rcases vT (f:=a) (ρ:=y)with r|⟨p,l,r⟩<;>erw[r]at e
 .ext e
 .cases m:xb l i with
  |none=>erw[m]at e;cases e
  |some u=>
   erw[m]at e;cases t:g u p with
   |none=>erw[t]at e;cases e
   |some q=>let#v[d1,w]:=q;erw[t]at e;ext e;calc#v[F,y,z,p,l,u,R,r,m,λM b A N s o rs B=>?_];let#v[s,c,j]:=yq m;let#v[b',x,C,S,T,W]:=(o.sl i s c).ax j;rw[yb C]at B;ext B;calc#v[b,M,bF _,b,M,x,A,u,p,d,w,J,S,T,o.sub,W,rs,t,λv zs H2 O I Y u3 fr w0 w1 w2 w3=>?_];calc k _ _ _ (vw.t ‹vw z A› I) ?_ w3;delta putAt;rw[c];show o.call1 c j C I Y u3 fr w0 w1 w2
def WI(D:Bf X.prog X.w X.K X.mg X.a7 k x u (Mi G g))(r:xg k X.A)(m:PA X (e::b) (Nr G i a))(q:Gl X x:=by rfl)(c:(x==("__debug__" : Str))=δ:=by decide)(o:aE (e::b) X.a8=(δ,eval e X.a8)::aE b X.a8:=by rfl)(hpl:(bM pos (aE b X.a8)).any (·.1)=δ:=by rfl):
  PE X (.Call (.Name x p) (e::b) [] pos) (tF G (wY g i a)):=by
 let#v[f,t,d,h,j,l]:=D;show WH (Eg (p:=p) (pos:=pos) l r q d h j .nil FK m c o hpl)
def DZ(i:Nat)(f:FE):FE:=λc=>match xb c i with
 |some _=>match f c with
  |some (.int k,a)=>match xb a i with
   |some b=>if 0<=k then match b[k.toNat]? with
    |some d=>if k<1000000 then U (d,putAt a i (b.eraseIdx k.toNat))else Z
    |none=>Z
    else Z
   |none=>Z
  |_=>Z
 |none=>Z
theorem HA:∀{H:Hp} {b:aV} {a:bC} (n:Nat),a9 G H b a->a9 G H (b.eraseIdx n) (a.eraseIdx n)
 |H,[],a,n,h=>by delta a9 at h;subst h;show vO
 |H,d::b,a,0,h=>by let#v[v,r,rfl,e,c]:=Ae h;show c
 |H,d::b,a,n+1,h=>by let#v[v,r,rfl,e,c]:=Ae h;show vM e (HA n c)
#print h
def SR(h:PE X e (tBM G.K "list" MU (Aa i) (sh G (ab f vG)))):PE X e (tF G (DZ i f)):=PE.cx h λσ H Q E=>by
 let#v[F,u,w,d,W,R,e,k]:=E;delta DZ at e;cases c:xb u i with
 |none=>erw[c]at e;cases e
 |some B=>
  erw[c]at e;split at e
  .rename_i n b C;cases j:xb b i with
   |none=>erw[j]at e;cases e
   |some A=>
    erw[j]at e;split at e
    .rename_i I;cases l:A[n.toNat]? with
     |none=>erw[l]at e;cases e
     |some d'=>
      erw[l]at e;split at e
      .rename_i hb;ext e;let#v[a,S,p,N,s3,_]:=xD R c;calc#v[.ref a,p,.inl #v[J,S,f?.of N],F,u,w,[.int n],b,R,by delta ab;rw[C];rfl,λys Y x s z rs=>?_];let#v[v,r0,rfl,m,M]:=Ae rs;cases By M;have m:_=_:=m;subst m;let#v[a',o,q,O,r,P]:=xD z j;rw[p]at q;ext q;let#v[y,t,T]:=xm r l;have hlt:=(bZ.1 t).1;show#v[a,o,n,n.toNat,y,J,J,O,by omega,by omega,nI I (),t,k _ _ _ s (P _ _ (HA _ r)) T]
      .ext e
    .ext e
  .ext e
end
#print f
section
variable{K:ay}{st:Stmt}
theorem aea(e:g=z5 m n b)(i:a.length=m+1)(hN:N.length=n)(F:S2 K x qual st f d)(S:xc N a (vH st))(body:∀(cdv:aa) (A:bp) (b8:List Env) (s:aq) (H:Hp) (E:XK),xg k (A.deeper (envOfC qual (vH st) (~~~s) f cdv))->kv (DJ P w K l a7 N qual st f cdv A b8 s H E) (wa st) (kb G b)):
  yS P w K l a7 yy (k+1) f d a (Mi G g):=by
 subst e hN;calc F.ok S (λc H Q E h=>?_) λcdv A b8 s H c Q E j h=>#v[_,body cdv A b8 s H E j,WE (by have:=aW cD S.pre;rw[bJ]at this;omega) h];rw[i];show ad9 WG c H Q E h
end
end L4
namespace L4
open PySem PySem.Spec PySem.Calls PyProof.Rows PySem.W L2 L3
def w5{b:Type}(c:Nat->Nat->Bool):KasT b->b
 |.ret a=>a
 |.ask i j k=>w5 c (k (c i j))
def Aj{c:Type}(P:Nat->Nat->Prop)(R:c->Prop):KasT c->Prop
 |.ret a=>R a
 |.ask i j k=>P i j/\∀b,Aj P R (k b)
theorem Aj.run{b:Type}{P:Nat->Nat->Prop}{R:b->Prop}(c:Nat->Nat->Bool):∀(t:KasT b),Aj P R t->R (w5 c t)
 |.ret a,h=>h
 |.ask i j k,h=>Aj.run c (k (c i j)) (h.2 (c i j))
theorem Aj.bind{c e:Type}{P:Nat->Nat->Prop}{R:c->Prop}{S:e->Prop}{f:c->KasT e}(d:∀a,R a->Aj P S (f a)):∀{t:KasT c},Aj P R t->Aj P S (t.bind f)
 |.ret a,h=>d a h
 |.ask i j k,h=>#v[h.1,λb=>Aj.bind d (h.2 b)]
theorem OO{b:Type}{cmp:Nat->Nat->(Bool->aq->Prop)->aq->Prop}{c:Nat->Nat->Bool}{P:Nat->Nat->Prop}{s:aq}{Q:b->aq->Prop}(d:∀i j C,P i j->C (c i j) s->cmp i j C s):
  ∀{R:b->Prop} {t:KasT b},Aj P R t->Q (w5 c t) s->t.kasWp cmp Q s
 |R,.ret a,_,q=>q
 |R,.ask i j k,h,q=>d i j _ h.1 (OO d (h.2 (c i j)) q)
def wB(n:Nat)(p:Array Nat):Prop:=p.toList.Perm (bh n)
#print h
theorem wB.getD(h:wB n p)(a:0<n)(i:Nat):p.getD i 0<n:=by
 delta Array.getD;split
 .rename_i b;have:p[i]∈p.toList:=by simp
  show bY.1 (h.mem_iff.1 this)
 .show a
#print f
def wB.rev(h:wB n p)(i j:Nat):wB n (fG p i j):=by show(oR.1 (foldl_swaps_perm _ _ _ _)).t h
def wB.bub(h:wB n p)(i j:Nat):wB n (bubble p i j):=(oR.1 (bubble_perm _ _ _)).t h
abbrev In2(n:Nat):Nat->Nat->Prop:=λi j=>i<n/\j<n
theorem J6(a:0<n)(h:wB n p):∀f k,Aj (In2 n) (λz=>True) (dR p f k)
 |0,k=>trivial
 |f+1,k=>#v[#v[h.getD a _,h.getD a _],λb=>by ext b<;>first|show trivial|show J6 a h f (k+1)]
theorem EE(a:0<n):∀f (p:Array Nat) k q,wB n p->Aj (In2 n) (λr=>wB n r.1) (iG f p k q)
 |0,p,k,q,h=>h
 |f+1,p,k,q,h=>#v[#v[h.getD a _,h.getD a _],λb=>by
   cases b with
   |true=>
    split
    .show EE a f _ _ _ (h.rev _ _)
    .show EE a f _ _ _ h
   |false=>
    calc#v[#v[h.getD a _,h.getD a _],λd=>?_];cases d with
    |true=>show h
    |false=>show EE a f _ _ _ h]
def LO(b:0<n)(h:wB n p)(k m:Nat):Aj (In2 n) (λr=>wB n r.2) (gQ k m p):=
 Aj.bind (S:=λ(r:Nat×Array Nat)=>wB n r.2) (f:=λm=>.ret (m,fG p 0 k)) (λa z=>h.rev 0 k) (J6 b (h.rev 0 k) _ _)
def EF(a:0<n)(h:wB n p)(k m:Nat):Aj (In2 n) (λr=>wB n r.2) (fU k m p):=
 Aj.bind (λr b=>by
  split
  .show LO a (b.rev _ _) _ _
  .show LO a b _ _) (EE a _ p _ _ h)
def Jl(a:0<n)(h:wB n p)(m:Nat):Aj (In2 n) (λr=>wB n r.2) (fE m p):=
 Aj.bind (λk z=>by
  split
  .show h
  .split
   .calc#v[#v[h.getD a _,h.getD a _],λb=>?_];cases b with
    |true=>show h
    |false=>show EF a (h.rev _ _) _ _
   .show EF a h _ _) (J6 a h _ _)
theorem Fi(a:0<n)(h:wB n p)(k:Nat):∀f l r,Aj (In2 n) (λz=>True) (iB p k f l r)
 |0,l,r=>trivial
 |f+1,l,r=>by
  delta iB;split
  .trivial
  .calc#v[#v[h.getD a _,h.getD a _],λb=>?_];cases b with
   |true=>show Fi a h k f _ _
   |false=>show Fi a h k f _ _
theorem OP(a:0<n):∀f (p:Array Nat) k,wB n p->Aj (In2 n) (wB n) (kas_bin f p k)
 |0,p,k,h=>h
 |f+1,p,k,h=>Aj.bind (λl z=>OP a f _ _ (h.bub _ _)) (Fi a h k _ _ _)
def EG(a:0<n):Aj (In2 n) (wB n) (gS n):=
 Aj.bind (λr b=>by
  split
  .show OP a _ _ _ b
  .show b) (Jl a (by delta wB;show kG _) n)
def AF(a:Addr)(h c:Heap):Prop:=∀b o,b≠a->h.get? b=U o->c.get? b=U o
section
def DC(c:Nat->Nat->Bool)(a:List aa):List aa:=(w5 c (gS a.length)).toList.map λi=>a.getD i Value.none
def SU(c:Nat->Nat->Bool)(a:List aa)(h:0<a.length):(DC c a).length=a.length:=by delta DC;rw[ah];have:=(EG h).run c _;rw[this.length_eq,cI]
def SV(c:Nat->Nat->Bool)(v:aa):DC c [v]=[v]:=rfl
def LP{vs:List aa}(H:s.heap.get? a=U (seqObj "list" vs.toArray n))(h1:0<vs.length)(u:vs.length<64)
  (S:∀(h':Heap) (C:SortKind->aq->Prop),AF a s.heap h'->C κ { s with heap:=h' }->av (model prog w) A (keyKind' vs.toArray) C (λ_ _=>False) { s with heap:=h' })
  (R:∀(h':Heap) (i j:Nat) (C:Bool->aq->Prop),AF a s.heap h'->i<vs.length/\j<vs.length->C (c i j) { s with heap:=h' }->jE prog w A κ vs i j C { s with heap:=h' })
  (h:∀h' e,AF a s.heap h'->h'.get? a=U (seqObj "list" (DC c vs).toArray e)->P (.done (.ret .none)) { s with heap:=h' }):
  av (model prog w) A (dA.«list.sort» #v[[.ref a],[]]) P E s:=by
 let#v[t,N]:∃t,(s.heap.update a (c7 λ_=>([].toArray:Array aa))).get? a=U (seqObj "list" [].toArray t):=#v[_,qJ H λ_=>[].toArray];generalize I:((s.heap.update a (c7 λ_=>([].toArray:Array aa))).push (seqObj "tuple" vs.toArray 0)).push (seqObj "list" [].toArray 0)=h3;have M:AF a s.heap h3:=λb o m q=>by rw[<-I];show aK _ (aK _ ((gd s.heap _ (cg m)).t q))
 have l:h3.get? a=U (seqObj "list" [].toArray t):=by rw[<-I];show aK _ (aK _ N)
 rw[list_sort_plain];calc ar (listItems_at H J (ar (mW H J ?_ (by rw[bI,bS];omega) (bP _))));calc ar (nL N J (ar (qX ?_ (by change vs.length<=_;rw[bS];omega))));calc ar (kH (dt ?_) (bP _));rw[I];let#v[c2,B]:∃c2,(h3.update a (c7 λ_=>(DC c vs).toArray)).get? a=U (seqObj "list" (DC c vs).toArray c2):=#v[_,qJ l λ_=>(DC c vs).toArray];have fin:=h _ c2 (λb o m q=>(gd h3 _ (cg m)).t (M b o m q)) B;have szo:(DC c vs).toArray.size<=aS+1:=by rw[bI,SU c vs h1,bS];omega
 by_cases h2:2<=vs.length
 .have f:¬vs.toArray.size<2:=by rw[bI];omega
  rw[ai f,ai f];calc ar (cE (S h3 (λk s'=>k=κ/\s'={ s with heap:=h3 }) M #v[J,J]) ?_ λ_ _ x=>x.elim);rintro k s' ⟨rfl,rfl⟩;refine ar (cE (kat_run (Q:=λd s'=>s'={ s with heap:=h3 }/\(arrOf d).map (·.2)=(DC c vs).toArray/\failedOf d=Z) (G:=λp s'=>p=w5 c (gS vs.length)/\s'={ s with heap:=h3 }) J h2 u ?_ ?_) ?_ λ_ _ e=>e)
  .rintro p d s' _ har F ⟨rfl,rfl⟩;show#v[J,kat_snds J har,F]
  .show OO (λi j C q r=>R h3 i j C M q r) (EG h1) #v[J,J]
  .rintro⟨⟨⟩,d⟩ s' ⟨rfl,z,F⟩;calc ar (nL l J ?_);rw[z,F];calc ar (mW l J ?_ (bP _) szo);erw[bne_self_eq_false,gm,if_false];show aC fin
 .let#v[v,rfl]:∃v,vs=[v]:=by
   cases vs with
   |nil=>cases h1
   |cons v r=>
    cases r with
    |nil=>show#v[v,J]
    |cons x y=>show au (by simp) h2
  calc ar (aC ?_);calc ar (aC ?_);calc ar (nL l J ?_);have O:sE (λx=>x.snd) (arrOf (Unit.unit,SortSt.mk' general' (#[v].zip #[v]) [].toArray 7 Z).snd)=(DC c [v]).toArray:=by rw[SV];change sE (λx=>x.snd) (#[v].zip #[v])=#[v];simp
  rw[O];calc ar (mW l J ?_ (bP _) szo);erw[bne_self_eq_false,gm,if_false];show aC fin
def Nt{vs:List aa}(hT:T="list" \/ T="tuple")(t:s.heap.get? l=U o)(hcl:o.cls=.type T)(hd:o.data=.seq vs.toArray n)(h1:0<vs.length)(f:vs.length<64)
  (p:∀(h':Heap) (C:SortKind->aq->Prop),(∀b o,s.heap.get? b=U o->h'.get? b=U o)->C κ { s with heap:=h' }->av (model prog w) A.in1.in1 (keyKind' vs.toArray) C (λv v=>False) { s with heap:=h' })
  (m:∀(h':Heap) (i j:Nat) (C:Bool->aq->Prop),(∀b o,s.heap.get? b=U o->h'.get? b=U o)->i<vs.length/\j<vs.length->C (c i j) { s with heap:=h' }->jE prog w A.in1.in1 κ vs i j C { s with heap:=h' })
  (h:∀(g h':Heap) e,(∀b o,s.heap.get? b=U o->g.get? b=U o)->(∀b o,g.get? b=U o->h'.get? b=U o)->h'.get? g.objs.size=U (seqObj "list" (DC c vs).toArray e)->Q (.ref g.objs.size) { s with heap:=h' }):
  av (model prog w) A (call (.builtin "sorted") [.ref l]) Q E s:=by
 calc lF nM ng ni (nu _) ?_;calc ar (aC (ar (wpAny_collect_seq l hT t hcl hd (λg d=>?_) (by rw[bS];simp;omega))));calc ar (kH ?_ (by rw[bS];simp;omega));have on:(g.push (seqObj "list" vs.toArray 0)).get? g.objs.size=U (seqObj "list" vs.toArray 0):=bz _ J;have all:∀h',AF g.objs.size (g.push (seqObj "list" vs.toArray 0)) h'->∀b o,g.get? b=U o->h'.get? b=U o:=λh' a b o q=>a b o (bf (aQ q)) (aK _ q)
 calc ar (dt (fN mO #v[_,on,J] mH ?_ (mP _)));calc LP on h1 f (λh' C a q=>p h' C (λb o z=>all h' a b o (d b o z)) q) (λh' i j C a q r=>m h' i j C (λb o z=>all h' a b o (d b o z)) q r) λh' e a q=>?_;show#v[_,J,aC #v[_,J,h g h' e d (all h' a) q]]
end
def ltS(a b:Str):Bool:=decide (a.cps.toList<b.cps.toList)
def xn:aD->aD->Bool
 |[],[]=>δ
 |[],_::_=>γ
 |_::_,[]=>δ
 |x::a,y::b=>if x=y then xn a b else ltS x y
inductive StrsAre:List aa->aD->Prop
 |nil:StrsAre [] []
 |cons (x:Str) (t:Tok) {vs:List aa} {xs:aD} (h:StrsAre vs xs):StrsAre (.str x t::vs) (x::xs)
def StrsAre.len(h:StrsAre b xs):b.length=xs.length:=by
 induction h with
 |nil=>rfl
 |cons x t h a=>rw[aL,aL,a]
theorem D1:∀{b:aD} {a:List aa},df (b.map V.str) a->StrsAre a b
 |[],a,h=>by ext h;show .nil
 |x::b,a,h=>by
  cases h with
  |cons r c=>let#v[t,rfl]:=r;show .cons x t (D1 c)
section
open PySem.SeqAt
open PySem.AutoSeq1 (wpAny_loadPart')
open PySem.MeetsSeq PySem.MeetsSeq2 PySem.MeetsSeq3
def IG(l b:Addr)(is q:Array aa)(n m:Nat)(S T:Option Addr)(Y q2:Array (Option aa))(F G:aD)(O:StrsAre is.toList F)(P:StrsAre q.toList G):
  Meets (dA.«tuple.__lt__» #v[[.ref l,.ref b],[]])
   (λv R s=>s.heap.get? l=U { cls:=.type "tuple", dict:=S,data:=.seq is n,slots:=Y }/\s.heap.get? b=U { cls:=.type "tuple", dict:=T,data:=.seq q m,slots:=q2 }/\R (.ok (.ret (.bool (xn F G)))) s):=
 .of_wp λprog w A R s h=>by
  let#v[r,g,d,tk,os]:=s;let#v[X,W,h]:=h;have f2:=oW;have z1:is.size=F.length:=by rw[<-O.len,bL]
  have z2:q.size=G.length:=by rw[<-P.len,bL]
  wp_walk using pf X,pf W,ky _ (λeu b N=>b.1=Z/\N=#v[r,g,d,tk,os]/\∃(B C:List aa) (f i:aD),eu=B.zip C/\StrsAre B f/\StrsAre C i/\f.length+q.size=i.length+is.size/\R (.ok (.ret (.bool (xn f i)))) #v[r,g,d,tk,os]) _
  case turn=>
   rintro⟨y,x⟩ eu b N ⟨j,rfl,B,C,f,i,p,z,o,e,hR⟩;cases z with
   |nil=>cases p
   |cons a t I=>
    cases o with
    |nil=>cases p
    |cons c u M=>
     rw[eY]at p;let#v[hyx,hrest]:=mX p;let#v[rfl,rfl]:=nD hyx;erw[aL]at e;delta xn at hR;calc ar (kq a t c u prog w _ _ ?_);by_cases hac:a=c
     .subst hac;rw[af J]at hR;erw[beq_self_eq_true]
      wp_walk
      show#v[J,J,_,_,_,_,hrest,I,M,by omega,hR]
     .rw[ai hac]at hR;rw[beq_false_of_ne hac];have hri:∀(E Q),Q (.bool (decide (a.cps.toList<c.cps.toList))) (#v[r,g,d,tk,os]:aq)->av (model prog w) A.in1 (richCompare .Lt (.str a t) (.str c u)) Q E #v[r,g,d,tk,os]:=λE Q H=>(pS H:av (model prog w) A.in1 (bD .Lt (.str a t) (.str c u)) Q E _)
      wp_walk using hri
      show#v[_,J,by simpa [ltS]using hR]
  case fin=>
   rintro⟨b1,b2⟩ N ⟨j,rfl,B,C,f,i,p,z,o,e,hR⟩;simp only at j;subst j;have H:xn f i=decide (is.size<q.size):=by
    cases z with
    |nil=>
     cases o with
     |nil=>show(aP (by erw[dr]at e;omega)).symm
     |cons c u o=>show(aM (by erw[dr,aL]at e;omega)).symm
    |cons a t z=>
     cases o with
     |nil=>show(aP (by erw[dr,aL]at e;omega)).symm
     |cons c u o=>ext p
   rw[H]at hR
   wp_walk
   show#v[_,J,by simpa [tG]using hR]
  case h=>show#v[J,J,is.toList,q.toList,F,G,J,O,P,by omega,h]
end
section
theorem Nu(r:dS s.heap l is)(o:dS s.heap b d)(p:StrsAre is.toList a)(q:StrsAre d.toList c)(t:A.units<cLine)(h:Q (.bool (xn a c)) s):
  av (model prog w) A (bD .Lt (.ref l) (.ref b)) Q E s:=by
 let#v[#v[c1,i,z,u],e,rfl,n,rfl]:=id r;let#v[#v[c2,j,B,y],f,rfl,m,rfl]:=id o;show richCompare_meets_room (op:=.Lt) #v[_,e,J] #v[_,f,J] F.slot_tuple_lt F.entry_tuple_lt (F.args_tuple_lt_2 _ _) (IG l b is d n m i j u y a c p q) #v[e,f,show Value.bool (xn a c)≠Value.notImplemented/\Q (.bool (xn a c)) s from#v[(λx=>nomatch x),h]] t
end
def D2(c:Nat->Nat->Bool)(n:Nat):List Nat:=(w5 c (gS n)).toList
def zg(c:Nat->Nat->Bool)(h:0<n):(D2 c n).Perm (bh n):=(EG h).run c _
def Dn(c:Nat->Nat->Bool)(h:0<n):∀i∈D2 c n,i<n:=λi a=>bY.1 ((zg c h).mem_iff.1 a)
theorem Jm:∀l:aD,xn l l=δ
 |[]=>rfl
 |x::l=>by delta xn;rw[af J];show Jm l
theorem Fj:∀(l m:aD),AS (l.map L3.Dq.str) (m.map L3.Dq.str)=decide (l=m)
 |[],[]=>by rw[cf,AS];simp
 |[],y::m=>by rw[cf,aA,AS]<;>simp
 |x::l,[]=>by rw[cf,aA,AS]<;>simp
 |x::l,y::m=>by
  rw[aA,aA,AS,Fj l m,n3];by_cases a:x=y
  .subst a;by_cases b:l=m
   .subst b;simp
   .simp[b]
  .have:(x==y)=δ:=beq_false_of_ne a;rw[this];simp[a]
theorem Fk(r:df a c):∀(is:List Nat),(∀i∈is,i<a.length)->df (is.map λi=>a.getD i V.I) (is.map λi=>c.getD i Value.none)
 |[],_=>.nil
 |i::is,h=>by have b:=h i (.head _);let#v[u,e,f]:=r.get (aI b);calc .cons ?_ (Fk r is λj d=>h j (.tail _ d));change d? (a.getD i V.I) (c.getD i Value.none);rw[bV,bV,e,aI b];show f
section
variable{G:Bg}
def BJ(K:ay)(H:Hp)(y:V)(k:aD):Prop:=∃a b v,y=.ref a/\fh K H a [.ref b,v]/\fh K H b (k.map V.str)
def Nv(I:b9 X c q H s)(p:BJ X.K H y k)(r:d? y u):
  ∃a b v,u=.ref a/\dS s.heap a #[.ref b,v]/\fh X.K H b (k.map V.str):=by
 let#v[a,b,v,rfl,d,e]:=p;ext r;let#v[f,l,m,_]:=I.tuple d;cases l with
 |cons h i=>
  ext h;cases i with
  |cons o j=>ext j;show#v[a,b,_,J,m,e]
def seq_val(I:b9 X h j H s)(c:f? X.K H a i\/fh X.K H a i):∃b,df i b/\∃T o n,(T="list" \/ T="tuple")/\s.heap.get? a=U o/\o.cls=.type T/\o.data=.seq b.toArray n:=by
 rcases c with c|c
 .let#v[b,f,pl,_]:=I.list c;let#v[o,a1,d,n,e]:=pl.isList;show#v[b,f,_,o,n,.inl J,a1,d,e]
 .let#v[b,f,#v[o,a1,d,n,e],_]:=I.tuple c;show#v[b,f,_,o,n,.inr J,a1,d,e]
def J7(hu:X.A.units+64<cLine):xA X (.builtin "sorted") (λxs H Q=>∃(a:Addr) (d:bC) (ks:List aD),xs=[.ref a]/\(f? X.K H a d\/fh X.K H a d)/\0<d.length/\d.length<64/\ks.length=d.length/\ks.Nodup/\(∀(i:Nat) (y:V) (k:aD),d[i]?=U y->ks[i]?=U k->BJ X.K H y k)/\
  ∀p,H p=Z->Q (.ref p) (el H p (.ax ((D2 (λi j=>xn (ks.getD i []) (ks.getD j [])) d.length).map λi=>d.getD i V.I)))):=by
 intro pins s σ H xs us Q I r h;let#v[a,d,ks,rfl,hq,h1,h64,hkl,nd,hp,q]:=h;let#v[u,rfl,ru]:=lq r;ext ru;let#v[its,ri,T,ob,nn,hT,E,N,b3]:=seq_val I hq;have hl:d.length=its.length:=ri.length;have item:∀{h':Heap},(∀b o,s.heap.get? b=U o->h'.get? b=U o)->∀i,i<its.length->∃a b v,its.getD i Value.none=.ref a/\dS h' a #[.ref b,v]/\fh X.K H b ((ks.getD i []).map V.str)/\its[i]?=U (.ref a):=λ{h'} m i hi=>by
  have x:b9 X pins σ H { s with heap:=h',toks:=s.toks }:=I.gp m;have hy:i<d.length:=by omega
  have hk:i<ks.length:=by omega
  let#v[u,e,ru]:=ri.get (aI hy);let#v[a,b,v,rfl,t,B]:=Nv x (hp i _ _ (aI hy) (aI hk)) ru;refine#v[a,b,v,?_,t,?_,e]
  .rw[bV,e];rfl
  .rw[bV,aI hk];show B
 refine Nt (κ:=tuples' δ) (c:=λi j=>xn (ks.getD i []) (ks.getD j [])) hT E N b3 () () (λh' C m hC=>?_) (λh' i j C m hij hC=>?_) λg h' e O P ho=>?_
 .
  have x:b9 X pins σ H { s with heap:=h',toks:=s.toks }:=I.gp m;have n5:∀(l:List aa),(∀v∈l,∃i,i<its.length/\its[i]?=U v)->∃fs,KatTups h' l fs/\fs.length=l.length/\∀f∈fs,∃(b:Addr) (k:aD),f=.ref b/\fh X.K H b (k.map V.str):=λl=>by
   induction l with
   |nil=>show λ_=>#v[[],sj,J,λf F=>by ext F]
   |cons v l ih=>
    intro hv;let#v[fs,W,f2,Y]:=ih λw hw=>hv w (.tail _ hw);let#v[i,hi,ei]:=hv v (.head _);let#v[a,b,w,_,#v[o,M,B,n,t3],t4,t5]:=item m i hi;rw[ei]at t5;ext t5;calc#v[.ref b::fs,rP M B t3 (by simp) W,by rw[aL,aL,f2],λf F=>?_];rcases aJ.1 F with rfl|F
    .show#v[b,_,J,t4]
    .show Y f F
  let#v[fs,W,f2,Y]:=n5 its λv hv=>by let#v[i,hi,e]:=dY.1 hv;show#v[i,hi,by rw[aI hi,e]]
  calc kat_kind (T:=.type "tuple") W () (λv hv=>?_) #[] hC;let#v[b,k,rfl,hb]:=Y v hv;let#v[_,_,#v[o,M,B,_],_]:=x.tuple hb;rw[<-B];show(sG M).andThen .now
 .
  have x:b9 X pins σ H { s with heap:=h',toks:=s.toks }:=I.gp m;let#v[a1,E,v1,R,#v[o1,g1,c1,n1,d1],O,_]:=item m i hij.1;let#v[a2,N,v2,S,#v[o2,g2,c2,n2,d2],P,_]:=item m j hij.2;delta jE;by_cases hne:i=j
  .subst hne;rw[R]at S;ext S;rw[R];calc kat_lt g1 d1 g1 d1 ?_;change KatLex _ _ _ _ _ _ [(Value.ref E,Value.ref E),(v1,v1)] 0 _;calc jB (jm _ _ _ _ _ (kY (jB (jm _ _ _ _ _ (kY (kat_nil ?_))))));rw[Jm]at hC;show hC
  .rw[R,S];have kne:ks.getD i []≠ks.getD j []:=λz=>hne (by
    have hi:i<ks.length:=by omega
    have hj:j<ks.length:=by omega
    rw[bV,bV,aI hi,aI hj]at z;have pw:=hJ.1 nd;rcases jh i j with y|y|y
    .show au z (pw i j hi hj y)
    .show y
    .show au z.symm (pw j i hj hi y))
   calc kat_lt g1 d1 g2 d2 ?_;change KatLex _ _ _ _ _ _ [(Value.ref E,Value.ref N),(v1,v2)] 0 _;have rp:∀{b:Addr} {k:aD},fh X.K H b (k.map V.str)->L3.c3 X.K H (L3.Dq.bx (k.map L3.Dq.str)) (.ref b):=λh=>by delta L3.c3;show#v[_,_,J,h,Ja _]
   have dp:∀l:aD,ij (L3.Dq.bx (l.map L3.Dq.str))=1:=λl=>by delta ij;rw[Bc]
   have eq:=MX x _ _ _ _ (.ref E) (.ref N) X.A.in1.in1 (rp O) (rp P) J J (by rw[dp,dp,kz,kz];omega);rw[show n3 (L3.Dq.bx ((ks.getD i []).map L3.Dq.str)) (L3.Dq.bx ((ks.getD j []).map L3.Dq.str))=δ from by rw[n3,Fj];show aP kne]at eq;calc jB (eq _ _ _ _ (kat_no ?_));let#v[i1,r1,M,_]:=x.tuple O;let#v[i2,r2,B,_]:=x.tuple P;show kat_one _ _ (Nu M B (D1 r1) (D1 r2) (by rw[kz,kz];omega) hC)
 .have I1:b9 X pins σ H { s with heap:=g,toks:=s.toks }:=I.gp O;calc#v[.ref g.objs.size,_,I1.laid (t':=s.toks) P (aG _) ?_,J,q _ (I1.e8.fresh (aG _))];have hn:0<d.length:=h1;refine#v[?_,DC _ its,e,?_,ho]
  .rw[ah,(zg _ hn).length_eq,cI,bS];omega
  .delta DC;rw[<-hl];show Fk ri _ λi hi=>Dn _ hn i hi
def Jn:aV->Option aD
 |[]=>U []
 |.str x::a=>match Jn a with
  |some b=>U (x::b)
  |none=>Z
 |_=>Z
def SW:D->Option aD
 |.bx [.bx a,_]=>Jn a
 |_=>Z
def CH:aV->Option (List aD)
 |[]=>U []
 |d::a=>match SW d,CH a with
  |some k,U b=>U (k::b)
  |_,_=>Z
def Jo(a:aV):Option aV:=match CH a with
 |some b=>if b.Nodup/\0<a.length/\a.length<64 then U ((D2 (λi j=>xn (b.getD i []) (b.getD j [])) a.length).map λi=>a.getD i .I)else Z
 |none=>Z
def HB(f:FE):FA:=λd=>match f d with
 |some (.ax b,a)=>match Jo b with
  |some c=>U (c,a)
  |none=>Z
 |_=>Z
theorem HC:∀{a:aV} {b:bC} {l:aD},a9 G H a b->Jn a=U l->b=l.map V.str
 |[],b,l,r,e=>by ext e;delta a9 at r;show r
 |d::a,b,l,r,e=>by
  cases d with
  |str x=>
   delta Jn at e;cases c:Jn a with
   |none=>rw[c]at e;cases e
   |some i=>rw[c]at e;ext e;delta a9 at r;let#v[v,j,rfl,f,h]:=r;have f:_=_:=f;subst f;rw[HC h c,aA]
  |_=>ext e
#print h
def SX(r:c3 G H d v)(e:SW d=U k):BJ G.K H v k:=by
 delta SW at e;split at e
 .rename_i p w;delta c3 at r;let#v[a,x,rfl,h,i]:=r;let#v[u,q,rfl,f,l]:=Ae i;let#v[o,t,rfl,_,m]:=Ae l;cases By m;delta c3 at f;let#v[b,y,rfl,c,j]:=f;rw[HC j e]at c;show#v[a,b,o,J,h,c]
 .ext e
#print f
theorem Jp:∀{a:aV} {b:List aD},CH a=U b->b.length=a.length
 |[],b,e=>by ext e;rfl
 |d::a,b,e=>by
  delta CH at e;cases c:SW d with
  |none=>rw[c]at e;cases e
  |some k=>
   cases f:CH a with
   |none=>rw[c,f]at e;cases e
   |some h=>rw[c,f]at e;ext e;rw[aL,aL,Jp f]
theorem Jq:∀{a:aV} {f:List aD} {h:bC},a9 G H a h->CH a=U f->∀(i:Nat) (y:V) (k:aD),h[i]?=U y->f[i]?=U k->BJ G.K H y k
 |[],f,h,r,e,i,y,k,l,c=>by ext e;cases c
 |d::a,f,h,r,e,i,y,k,l,c=>by
  delta CH at e;cases b:SW d with
  |none=>rw[b]at e;cases e
  |some q=>
   cases j:CH a with
   |none=>rw[b,j]at e;cases e
   |some m=>
    rw[b,j]at e;ext e;delta a9 at r;let#v[v,t,rfl,o,p]:=r;cases i with
    |zero=>ext l;ext c;show SX o b
    |succ i=>show Jq p j i y k l c
theorem Jr(r:a9 G H a c):∀(is:List Nat),(∀i∈is,i<a.length)->a9 G H (is.map λi=>a.getD i .I) (is.map λi=>c.getD i V.I)
 |[],_=>vO
 |i::is,h=>by have b:=h i (.head _);let#v[v,e,f]:=xm r (aI b);calc vM ?_ (Jr r is λj d=>h j (.tail _ d));change c3 G H (a.getD i .I) (c.getD i V.I);rw[bV,bV,e,aI b];show f
def fh.same{K:ay}(s:vw c d)(p:BJ K c y k):BJ K d y k:=by let#v[a,b,v,e,f,h]:=p;show#v[a,b,v,e,fh.mono s f,fh.mono s h]
#print h
def LQ(W:∀w o l,g w=U (.ax o,l)->f w=U (.ax o,l)\/f w=U (.bx o,l))(h:PE X e (tCB (λb H Q=>∃(a:Addr) (d:bC) (u:List aD),b=[.ref a]/\(f? G.K H a d\/fh G.K H a d)/\0<d.length/\d.length<64/\u.length=d.length/\u.Nodup/\(∀(i:Nat) (y:V) (k:aD),d[i]?=U y->u[i]?=U k->BJ G.K H y k)/\
  ∀p,H p=Z->Q (.ref p) (el H p (.ax ((D2 (λi j=>xn (u.getD i []) (u.getD j [])) d.length).map λi=>d.getD i V.I)))) (sh G (ab f vG)))):PE X e (y0 G (HB g)):=PE.cx h λσ H Q C=>by
 let#v[F,w,M,es,E,R,e,k]:=C;delta HB at e;split at e
 .rename_i o l O;cases c:Jo o with
  |none=>erw[c]at e;cases e
  |some P=>
   erw[c]at e;ext e;delta Jo at c;cases A:CH o with
   |none=>erw[A]at c;cases c
   |some u=>
    erw[A]at c;split at c
    .rename_i C;let#v[nd,hn,T]:=C;ext c;have xx:∃x,f w=U (x,E)/\∀H v,c3 G H x v->∃a b,v=V.ref a/\(H a=U (.ax b)\/fh G.K H a b)/\a9 G H o b:=by
      rcases W _ _ _ O with q|q
      .show#v[_,q,λH v r=>by delta c3 at r;let#v[a,b,e,z,t]:=r;show#v[a,b,e,.inl z,t]]
      .show#v[_,q,λH v r=>by delta c3 at r;let#v[a,b,e,z,t]:=r;show#v[a,b,e,.inr z,t]]
     let#v[x,S,hx]:=xx;calc#v[F,w,M,[x],_,R,by delta ab;rw[S];rfl,λd H1 N s m rs=>?_];let#v[v,r0,rfl,rv,rn]:=Ae rs;cases By rn;let#v[a,b,rfl,z,t]:=hx _ _ rv;have I:=vv t;calc#v[a,b,u,J,z.imp (λh=>f?.of (m.sub _ _ h)) (fh.mono m.sub),by omega,by omega,by rw[Jp A,I],nd,λi y kk q1 q2=>fh.same m.sub (Jq t A i y kk q1 q2),λp B=>?_];calc k p _ _ _ s (m.gi B _) vp (m.ey B) (m.gr B) (m.apart B) ?_;rw[<-I];show Jr t _ λi Y=>Dn _ hn i Y
    .ext c
 .ext e
#print f
def Nw(h:PE X e (tCB (λd H Q=>∃(a:Addr) (b:bC) (c:List aD),d=[.ref a]/\(f? G.K H a b\/fh G.K H a b)/\0<b.length/\b.length<64/\c.length=b.length/\c.Nodup/\(∀(i:Nat) (y:V) (k:aD),b[i]?=U y->c[i]?=U k->BJ G.K H y k)/\
  ∀p,H p=Z->Q (.ref p) (el H p (.ax ((D2 (λi j=>xn (c.getD i []) (c.getD j [])) b.length).map λi=>b.getD i V.I)))) (sh G (ab f vG)))):PE X e (y0 G (HB f)):=LQ (λz z z h=>.inl h) h
def J8(d:X.A.units+64<cLine)(hK:X.K=G.K:=by rfl):xA X (.builtin "sorted") (λe H Q=>∃(a:Addr) (b:bC) (c:List aD),e=[.ref a]/\(f? G.K H a b\/fh G.K H a b)/\0<b.length/\b.length<64/\c.length=b.length/\c.Nodup/\(∀(i:Nat) (y:V) (k:aD),b[i]?=U y->c[i]?=U k->BJ G.K H y k)/\
  ∀p,H p=Z->Q (.ref p) (el H p (.ax ((D2 (λi j=>xn (c.getD i []) (c.getD j [])) b.length).map λi=>b.getD i V.I)))):=by rw[<-hK];show J7 d
end
end L4
namespace L4
open PySem PySem.Spec PyProof.Rows L2 L3
section
#print h
def WJ:ki G (λx y H Q=>∃z n,x=.str z/\y=.int n/\MulOk z n/\Q (.str (jD z n)) H) LB:=λx y z o H v u Q e s d f k=>by
 delta LB at e;split at e
 .rename_i a n;split at e
  .rename_i m;let#v[p,r,h]:=m;ext e;delta c3 at d f;refine#v[a,n,d,f,#v[?_,λi j l=>?_,λi j=>?_],k _ λw w=>zN _]
   .rw[lM];show#v[aP (),aP ()]
   .have c:(0:Int)<n:=by omega
    have q:(9223372036854775807:Int) / n >= 9223372036854775:=by have:=Int.le_ediv_of_mul_le (a:=9223372036854775) (b:=9223372036854775807) c ();show this
    have:((2:Int) ^ 63 - 1)=9223372036854775807:=by decide
    rw[this]at l;omega
   .have c:n.toNat<=1000:=by omega
    have:a.length * n.toNat<=100 * 1000:=Nat.mul_le_mul h c;calc aP ?_;rw[bS];omega
  .ext e
 .ext e
end
#print f
def OQ:List String:=["NoneType", "bool", "int", "str", "tuple", "list", "dict"]
def Js(n c:Nat):Ty->Option Bool:=λy=>match y with
 |.b x=>if OQ.contains x=γ then U δ else Z
 |.c k=>if k<n then U (k==c)else Z
def J9(K:ay)(cs:List Addr)(C:Addr)(c:Nat):Bool:=
 OQ.all (λx=>de K (.type x) (.ref C)==U δ)&&(bh cs.length).all λk=>de K (.ref (cs.getD k 0)) (.ref C)==U (k==c)
#print h
def Jt{B:Bg}(h:J9 B.K cs (B.ca c) c=γ)(i:cs.length=n)(d:∀k,k<n->cs.getD k 0=B.ca k)(hI:∀k,k<n->M6 B.K (B.ca k)):Nd B c (Js n c):=by
 delta J9 at h;rw[bA,bH,bH]at h;refine#v[λy b e=>?_,λj b e=>?_]
 .cases y with
  |b x=>
   delta Js at e;simp only at e;split at e
   .rename_i f;ext e;show gO (h.1 x (pj.1 f))
   .cases e
  |c k=>
   delta Js at e;simp only at e;split at e
   .rename_i a;ext e;have:=gO (h.2 k (bY.2 ()));rw[d k a]at this;show this
   .ext e
 .delta Js at e;simp only at e;split at e
  .rename_i a;show hI j a
  .ext e
#print f
def Nx{l:List Addr}(h:l.Nodup)(a:j<l.length)(b:k<l.length)(e:l.getD j 0=l.getD k 0):j=k:=by
 rw[bV,bV,aI a,aI b]at e;have c:=hJ.1 h;rcases jh j k with y|y|y
 .show au e (c j k a b y)
 .show y
 .show au e.symm (c k j b a y)
section
variable{K:ay}
def η(X:K.In h)(a:h.Ns bR b)(e:jF K bR x=U (U (.int i t))):Dk B b x (.int i):=
 #v[.int i,_,kZ X a e,#v[_,J],λz=>xW _]
inductive BK:List aa->aD->Prop
 |nil:BK [] []
 |cons {v:aa} {x:Str} {t:Tok} {vs:List aa} {xs:aD} (e:v=.str x t) (h:BK vs xs):BK (v::vs) (x::xs)
def BK.vals(h:BK b c):df (c.map V.str) b:=by
 induction h with
 |nil=>show .nil
 |cons e h a=>show .cons #v[_,e] a
theorem HD:∀a:aD,a9 B H (a.map D.str) (a.map V.str)
 |[]=>vO
 |x::a=>vM (zN x) (HD a)
def Ny(c:aD)(X:B.K.In h)(d:h.Ns bR i)(e:jF B.K bR x=U (U (.ref a)))(l:B.K.lookup a=U o)(f:o.cls=.type "tuple")(hd:o.data=.seq b n)(j:b.size<=1000)
  (r:BK b.toList c):Dk B i x (.bx (c.map D.str)):=
 #v[.ref a,_,kZ X d e,J,λH=>zM (.inr #v[o,b,n,l,f,hd,by rw[bS];omega,r.vals]) (HD c)]
end
section
theorem HE{i:Type}(dd:i->D)(p:i->Bool)(h:i->D):∀l:List i,
  (∀a∈l,∃c b,g (dd a) (DV k eh e)=U c/\ft c=U (p a,b)/\(p a=γ->∃d,o b=U (h a,d)/\yB eh (d.drop k) e=U e)/\(p a=δ->yB eh (b.drop k) e=U e))->
  zv k eh g ft o (l.map dd) e=U ((l.filter p).map h,e)
 |[],_=>rfl
 |a::l,st=>by
  let#v[c,b,q,r,t,u]:=st a aX;have j:=HE dd p h l λm y=>st m (bg _ y);rw[aA];delta zv;rw[q];erw[r];cases f:p a with
  |true=>let#v[d,w,x]:=t f;erw[w,x,j,fO,f,if_true,aA]
  |false=>erw[u f,j,fO,f];rfl
def Ka{d:Type}(dd:d->D)(h:d->D)(l:List d)(st:∀a∈l,∃b c,g (dd a) (DV k eh ρ)=U b/\e b=U (h a,c)/\yB eh (c.drop k) ρ=U ρ):zv k eh g wJ e (l.map dd) ρ=U (l.map h,ρ):=by have:=HE (ft:=wJ) dd (λw=>γ) h l λa m=>let #v[b,c,f,i,j]:=st a m;#v[b,b,f,J,λw=>#v[c,i,j],λz=>by ext z];rw[this,lT.2 λw w=>J]
def SY(a:Str)(l:aD):inV (V.str a) (l.map V.str)=decide (a∈l):=by
 delta inV;rw[dj,eA,bU];constructor
 .rintro⟨v,f,c⟩;let#v[b,e,rfl]:=aw.1 f;have:=by delta eqV at c;exists c
  rw[<-this];show e
 .intro d;calc#v[.str a,bT d,?_];delta eqV;simp
def Qu(l:aD):(l.map D.str).all yd=γ:=by rw[ny,bH];intro x _;rfl
def WK(l:aD):(l.map D.str).map vD=l.map V.str:=by rw[aT];rfl
def Bi(neg:Bool)(a:Str)(l:aD):k? neg (.str a) (.ax (l.map D.str))=U (.bl (if neg then !decide (a∈l)else decide (a∈l))):=by change (if yd (.str a)&&(l.map D.str).all yd then U (D.bl (if neg then !inV (vD (.str a)) ((l.map D.str).map vD)else inV (vD (.str a)) ((l.map D.str).map vD)))else Z)=_;rw[Qu,WK];change U (D.bl (if neg then !inV (V.str a) (l.map V.str)else inV (V.str a) (l.map V.str)))=_;rw[SY]
def HF(neg:Bool)(a:Str)(l:aD):k? neg (.str a) (.bx (l.map D.str))=U (.bl (if neg then !decide (a∈l)else decide (a∈l))):=Bi neg a l
theorem Kb:∀bs:List Bool,IE (bs.map D.bl)=U bs
 |[]=>rfl
 |b::bs=>by rw[aA];delta IE;rw[Kb bs];rfl
#print "Z Ay ll;0 Gr ny" in def Sϑ0(bs:List Bool):ϑ1 (.ax (bs.map D.bl))=U (.bl (bs.aϑ2 id)):=by delta ϑ1;erw[Kb];rfl
#print "R Ay ll Z ny;S Gr ny 0 kK" in def Oϑ0{b:Type}(l:List b)(p:b->Bool):ϑ1 (.ax (l.map λa=>D.bl (p a)))=U (.bl (l.aϑ2 p)):=by rw[show (l.map λa=>D.bl (p a))=(l.map p).map D.bl by rw[aT];rfl,Sϑ3,ϑ4];rfl
theorem HG:∀l:aD,FR (l.map D.str)=U (l.map Sum.inr)
 |[]=>rfl
 |x::l=>by rw[aA];delta FR;rw[HG l];rfl
theorem S4:∀(l acc:List ef),(acc++l).Nodup->l.foldl ι acc=acc++l
 |[],acc,_=>by rw[bF];rfl
 |k::l,acc,h=>by
  have b:acc.any (λz=>decide (z=k))=δ:=by rw[jg];intro z;let#v[y,c,a]:=eA.1 z;rw[cq]at h;show h.2.2 y c k aX (ba a)
  rw[c4,show ι acc k=acc++[k] by delta ι;rw[b];rfl,S4 l (acc++[k]) (by exists h)];simp
def yL{l:aD}(h:l.Nodup):(l.map (Sum.inr:Str->ef)).Nodup:=by delta List.Nodup at h ⊢;rw[qf];show h.imp λhne z=>hne (kM z)
def FX{l:aD}(h:l.Nodup)(a:l.length<=1000):yV (l.map D.str)=U (.int l.length):=by delta yV;rw[HG];erw[ah,a,if_true];delta AA;rw[S4 _ [] (by exists yL h)];simp
#print "yW Str str;zm Int int" in def ϑ0(neg:Bool)(a b:ϑ1):eo neg (.ϑ2 a) (.ϑ2 b)=U (.bl (if neg then !decide (a=b)else decide (a=b))):=by
 have e:Hl neg (.ϑ2 a) (.ϑ2 b)=U (.bl (if neg then !decide (V.ϑ2 a=V.ϑ2 b)else decide (V.ϑ2 a=V.ϑ2 b))):=rfl;have c:decide (V.ϑ2 a=V.ϑ2 b)=decide (a=b):=by
  by_cases h:a=b
  .subst h;simp
  .rw[aP h,aP (λz=>h (by injection z))]
 delta eo;rw[e,c]
def wD(c:e ρ=U (.bl γ,a)):xB e b ρ=b a:=by delta xB;rw[c]
def wt{g:Nat->Option (aV->Option D)}{m:Str}{c:Nat}{b:aD}{h:aV->Option D}(i:e ρ=U (.obj c b xs,ρ1))(j:g c=U h)(l:b.contains m=δ)(o:a ρ1=U (ys,f))(p:h (.obj c b xs::ys)=U d):vZ g m e a ρ=U (d,f):=by delta vZ;rw[i];erw[j,l,o,p];rfl
def Kc{c:Nat}{g:aV->Option (aD×aV)}{b:aD}(e:a ρ=U (d,ρ1))(f:g d=U (b,h)):v7 c g a ρ=U (.obj c b h,ρ1):=by delta v7;rw[e];erw[f]
def BL(c:a.length=d)(h:b (L4.GX n a)=U (.nx ρ)):e? d n b a=U .I:=by delta e?;rw[af c,h]
def NA(c:a.length=d)(h:b (L4.GX n a)=U (.rn e ρ)):e? d n b a=U (.ax e):=by delta e?;rw[af c,h]
theorem Bj:∀{a:List ef} {b:aV} {k:ef} {d:D},a.Nodup->(k,d)∈a.zip b->xX a b k=U d
 |[],_,k,d,_,h=>by simp at h
 |f::a,[],k,d,_,h=>by simp at h
 |f::a,i::b,k,d,c,h=>by
  delta xX;rw[eY]at h;rcases aJ.1 h with e|h
  .ext e;rw[af J]
  .rw[cu]at c;rw[ai (λz=>c.1 (by subst z;show(kE h).1))];show Bj c.2 h
theorem Do:∀{a:List ef} {b:aV} {k:ef},k∉a->xX a b k=Z
 |[],b,k,_=>by delta xX;rfl
 |c::a,[],k,_=>by delta xX;rfl
 |c::a,d::b,k,h=>by delta xX;rw[ai (λz=>h (by subst z;show aX))];show Do λz=>h (bg _ z)
end
end L4
namespace L4
open PySem PySem.Spec PyProof.Rows L2 L3
open PySem.W (nsIn findIn keepIn isFn makesIn fnOf)
def NB{b:Type}:Nat->(List b->Prop)->Prop
 |0,P=>P []
 |n+1,P=>∀a,NB n λl=>P (a::l)
theorem GN{b:Type}:∀{n:Nat} {P:List b->Prop},NB n P->∀l,l.length=n->P l
 |0,P,h,[],_=>h
 |n+1,P,h,a::l,e=>GN (h a) l (jy e)
structure CF(K:ay)(C:Addr)(xs:aD):Prop where
 ci:M6 K C
 mks:makesIn K C=γ
 kp:keepIn K (.ref C)=γ
 na:(xs.all λx=>match findIn K (.ref C) x with|some Z=>γ|_=>δ)=γ
#print h
theorem CF.at{K:ay}(c:CF K C xs)(i:Nat)(h:xs[i]?=U x):P2 K C/\AR K C x:=#v[c.ci.cl,by
 have e:=bH.1 c.na x (ck h);split at e
 .rename_i a;show a
 .ext e]
#print f
def zh{Q:Nat->Prop}{i:Nat}(h:Q i):∀c,(c==i)=γ->Q c:=λc e=>by rw[beq_iff_eq]at e;subst e;show h
def τ{Q:Nat->Prop}{p:Nat->Bool}{i:Nat}(h:∀c,p c=γ->Q c)(a:Q i):∀c,(p c||c==i)=γ->Q c:=λc e=>by
 rw[kF]at e;rcases e with e|e
 .show h c e
 .show zh a c e
structure Yw(P:bj)(w:aR)(mg:Str->Option aa)(a7:Heap)(G:Bg):Prop where
 m:∃h:Heap,G.K.In h/\h.Ns bR mg
section
variable{st:Stmt}{K:ay}
def Yw.g(y:Yw P w b a7 G)(e:nsIn G.K bR x=U (U v)):b x=U v:=by let#v[h,X,a]:=y.m;show kZ X a e
#print h
def Yw.n(y:Yw P w d a7 G){xs:aD}(h:(xs.all λx=>match nsIn G.K bR x with|some Z=>γ|_=>δ)=γ)(i:Nat)(c:xs[i]?=U x):d x=Z:=by
 let#v[f,X,a]:=y.m;have e:=bH.1 h x (ck c);split at e
 .rename_i b;show W.mg_none_of X a b
 .ext e
#print f
def GC(K:ay)(x:Str)(i:Int):Prop:=∃t:Tok,nsIn K bR x=U (U (.int i t))
def Yw.ci(y:Yw P w b a7 G)(q:GC G.K x i):Dk G b x (.int i):=by let#v[h,X,a]:=y.m;let#v[t,e]:=q;show η X a e
def GS(K:ay)(x:Str)(c:aD):Prop:=∃(a:Addr) (o:Obj) (b:Array aa) (n:Nat),nsIn K bR x=U (U (.ref a))/\K.lookup a=U o/\o.cls=.type "tuple" /\ o.data=.seq b n/\b.size<=1000/\BK b.toList c
def Yw.cs(y:Yw P w p a7 G)(q:GS G.K x xs):Dk G p x (.bx (xs.map D.str)):=by let#v[h,X,b]:=y.m;let#v[a,o,j,n,e,l,c,d,f,i]:=q;show Ny xs X b e l c d f i
def GD(K:ay)(x:Str)(st:Stmt):Prop:=∃(f:Addr) (a:cy),nsIn K bR x=U (U (.ref f))/\S2 K x x st f a
def GM(K:ay)(C:Addr)(m qual:Str)(st:Stmt):Prop:=∃(f:Addr) (a:cy),findIn K (.ref C) m=U (U (.ref f))/\isFn K (.ref f)=γ/\S2 K m qual st f a
def GJ(K:ay)(C:Addr)(qual:Str)(st:Stmt)(b:bC):Prop:=∃(f:Addr) (a:cy) (T:Addr) (o:Obj) (dl:List aa) (n:Nat),findIn K (.ref C) "__init__" = U (U (.ref f))/\isFn K (.ref f)=γ/\P7 K "__init__" qual st f a T/\K.lookup T=U o/\o.data=.seq dl.toArray n/\df b dl
abbrev Bdy(P:bj)(w:aR)(K:ay)(a:Str->Option aa)(a7:Heap)(N:aD)(qual:Str)(st:Stmt)(k:Nat)(t:TS):Prop:=∀(f:Addr) (cdv:aa) (A:bp) (b8:List Env) (s:aq) (H:Hp) (E:XK),xg k (A.deeper (envOfC qual (vH st) (~~~s) f cdv))->kv (DJ P w K a a7 N qual st f cdv A b8 s H E) (wa st) t
abbrev N'(x qual:Str)(st:Stmt)(a:aD):Prop:=NB a.length λb=>∀(kV doc e:aa) (c:Option Addr) (cdv d:aa),bindArgs (fnOf x qual (yT st) (wa st) (vH st) .none kV doc e c cdv d) #v[b,[]]=pure (a.zip b)
theorem N'.ok(b:N' x qual st ps)(F:S2 K x qual st f d):km K d ps []:=F.rl λkV doc h a cdv c i e=>GN b i e kV doc h a cdv c
theorem gD(y:Yw P w c a7 G)(q:GD G.K x st)(e:N' x x st d)(ok:∀f b,S2 G.K x x st f b->yS P w G.K c a7 yy k f b d h):Bf P w G.K c a7 k x d h:=by let#v[f,b,a,F]:=q;show#v[f,b,y.g a,F.kp,e.ok F,ok f b F]
#print "F e? gj Sh;N' wh tp adZ" in def gϑ0(e:g=ϑ1 i n b)(y:Yw P w c a7 G)(q:GD G.K x st)(S:xc N a (vH st))(body:Bdy P w G.K c a7 N x st k (kb G b))(h:a.length=i:=by rfl)(hN:N.length=n:=by rfl)(d:N' x x st a:=by (repeat intro _);rfl):Bf P w G.K c a7 (k+1) x a (ϑ2 G g):=
 gD y q d λf j F=>ϑ3 e h hN F S (body f)
def gM(e:g=ZY i n b)(y:Yw P w c a7 G)(q:GD G.K x st)(S:xc N (p::a) (vH st))(body:Bdy P w G.K c a7 N x st k (kb G b))(h:a.length=i:=by rfl)(hN:N.length=n:=by rfl)(d:N' x x st (p::a):=by (repeat intro _);rfl):Bf P w G.K c a7 (k+1) x (p::a) (π G g):=
 gD y q d λf j F=>ad0 e h hN F S (body f)
def gL(e:g=z5 i n b)(y:Yw P w c a7 G)(q:GD G.K x st)(S:xc N a (vH st))(body:Bdy P w G.K c a7 N x st k (kb G b))(h:a.length=i+1:=by rfl)(hN:N.length=n:=by rfl)(d:N' x x st a:=by (repeat intro _);rfl):Bf P w G.K c a7 (k+1) x a (Mi G g):=
 gD y q d λf j F=>aea e h hN F S (body f)
def gI(l:g=vf c r n b)(y:Yw P w e a7 G)(C:CF G.K (G.ca c) t)(a:nsIn G.K bR x=U (U (.ref (G.ca c))))(q:GM G.K (G.ca c) "__init__" qual st)(S:xc N (p::d) (vH st))(body:Bdy P w G.K e a7 N qual st k (kb G b))(m:d.length=r:=by rfl)(hN:N.length=n:=by rfl)(h:N' "__init__" qual st (p::d):=by (repeat intro _);rfl):J0 G P w e a7 (k+1) x c (p::d) [] g:=by let#v[f,j,i,o,F]:=q;show#v[f,j,[],#v[C.mks,i,o,C.kp],y.g a,h.ok F,.nil,ad1 l m hN F S (body f)]
def LR(h:df c b):b.length=c.length:=by
 induction h with
 |nil=>rfl
 |cons _ _ a=>rw[aL,aL,a]
def Qv(h:df e d):∀j,df (e.drop j) (d.drop j):=by
 induction h with
 |nil=>intro j;rw[rq,rq];show .nil
 |cons a b c=>
  intro j;cases j with
  |zero=>show .cons a b
  |succ j=>show c j
theorem gJ(H:g=vf c Q n b)(y:Yw P w A a7 G)(C:CF G.K (G.ca c) R)(a:nsIn G.K bR x=U (U (.ref (G.ca c))))(q:GJ G.K (G.ca c) qual st z)(S:xc N (p::d) (vH st))(body:Bdy P w G.K A a7 N qual st k (kb G b))(j:Nat)(M:d.length=Q:=by rfl)(hN:N.length=n:=by rfl)
  (B:NB z.length λdl=>NB ((p::d).length - (z.drop j).length) λh=>∀(T:Addr) (kV doc u:aa) (m:Option Addr) (cdv t:aa),∃k,bindArgs (fnOf "__init__" qual (yT st) (wa st) (vH st) (.ref T) kV doc u m cdv t) #v[h,[]]=seqItems? (.ref T)>>=k/\k (U dl.toArray)=pure ((p::d).zip (h++dl.drop j)):=by (repeat intro _);show#v[_,J,J]):J0 G P w A a7 (k+1) x c (p::d) (z.drop j) g:=by
 let#v[f,E,T,o,dl,n,i,O,F,l,e,r]:=q;calc#v[f,E,dl.drop j,#v[C.mks,i,O,C.kp],y.g a,F.rl l e λkV doc u m cdv t h I=>?_,Qv r j,aap H M hN F S (body f)];show GN (GN B dl (LR r)) h (by rw[I,cJ,cJ,LR r]) T kV doc u m cdv t
end
end L4
namespace L4
open PySem PySem.Spec PyProof.Rows L2 L3
def P?(a b:Str):Bool:=decide (a.cps.toList<=b.cps.toList)
def FY(a:aD):aD:=a.mergeSort P?
def S5(a b c:Str)(h:P? a b=γ)(d:P? b c=γ):P? a c=γ:=aM (List.le_trans (ba h) (ba d))
def WL(a b:Str):(P? a b||P? b a)=γ:=by
 rw[kF];rcases List.le_total a.cps.toList b.cps.toList with h|h
 .show .inl (aM h)
 .show .inr (aM h)
def S6(a b:Str)(h:P? a b=γ)(c:P? b a=γ):a=b:=by have e:=qw (ba h) (ba c);cases a with|mk a=>cases b with|mk b=>ext a;ext b;simp only at e;rw[e]
theorem Fl:∀(r:aD) (x:Str),risingS x r=γ->(∀y∈r,P? x y=γ)/\r.Pairwise λa b=>P? a b=γ
 |[],x,_=>#v[λy h=>(b0 h).elim,.nil]
 |z::r,x,h=>by
  delta risingS at h;rw[bA,ik,ltCps_eq]at h;let#v[j,l]:=h;let#v[d,i]:=Fl r z l;have f:P? x z=γ:=aM (of_decide_eq_false j);calc#v[λy c=>?_,.cons d i];rcases aJ.1 c with e|c
  .rw[e];show f
  .show S5 _ _ _ f (d y c)
def NC:∀l:aD,sortedS l=γ->l.Pairwise λa b=>P? a b=γ
 |[],_=>.nil
 |x::r,h=>.cons (Fl r x h).1 (Fl r x h).2
def ND{l:aD}(p:l.Perm c)(h:sortedS l=γ):l=FY c:=
 oY (λa b z z=>S6 a b) (NC l h) (List.pairwise_mergeSort S5 WL c) (p.t (lU c P?).symm)
theorem Yq:∀{a:List aa} {b:aD},kg a b->df (b.map V.str) a
 |_,_,.nil=>.nil
 |_,_,.cons x t h=>.cons #v[t,J] (Yq h)
section
variable{G:Bg}
theorem HH:∀a:aD,a9 G H (a.map D.str) (a.map V.str)
 |[]=>vO
 |x::a=>vM (zN x) (HH a)
end
end L4
namespace L4
open PySem PySem.Spec PySem.Calls PyProof.Rows PySem.W L2 L3
theorem z7{b d:Type}{c:Nat->Nat->Bool}{f:b->KasT d}:∀t:KasT b,w5 c (t.bind f)=w5 c (f (w5 c t))
 |.ret a=>rfl
 |.ask i j k=>z7 (k (c i j))
structure Sto(c:Nat->Nat->Bool)(n:Nat):Prop where
 tr:∀i j k,i<n->j<n->k<n->c i j=γ->c j k=γ->c i k=γ
 tot:∀i j,i<n->j<n->i≠j->c i j=δ->c j i=γ
#print "M3 i j;Dsc j i" in def ϑ0(c:Nat->Nat->Bool)(p:Array Nat)(k:Nat):Prop:=∀i j,i<j->j<k->c (p.getD ϑ1 0) (p.getD ϑ2 0)=γ
def FZ{p:Array Nat}(i:Nat):p.getD i 0=p[i]?.getD 0:=fJ ..
theorem wB.size(h:wB n p):p.size=n:=by have:=h.length_eq;rw[cI,bL]at this;show this
def wB.ne(h:wB n p)(c:i<n)(d:j<n)(e:i≠j):p.getD i 0≠p.getD j 0:=by
 have b:p.toList.Nodup:=h.nodup_iff.2 mC;have f:=h.size;rw[FZ,FZ,di (),di ()];have a:=hJ.1 b;intro z;rcases jh i j with y|y|y
 .show a i j (by rw[bL];omega) (by rw[bL];omega) y (by exists z)
 .show e y
 .show a j i (by rw[bL];omega) (by rw[bL];omega) y (by exists z.symm)
section
variable{c:Nat->Nat->Bool}{n:Nat}(o:Sto c n)(hn:0<n)
include o hn
theorem M3.snoc{p:Array Nat}(h:wB n p){k:Nat}(d:1<=k)(l:k<n)(a:M3 c p k)(e:c (p.getD (k - 1) 0) (p.getD k 0)=γ):M3 c p (k+1):=λi j hij f=>by
 by_cases hjk:j=k
 .subst hjk;by_cases b:i=j - 1
  .rw[b];show e
  .show o.tr _ _ _ (h.getD hn _) (h.getD hn _) (h.getD hn _) (a i (j - 1) () ()) e
 .show a i j hij ()
theorem Dsc.snoc{p:Array Nat}(h:wB n p){k:Nat}(d:1<=k)(l:k<n)(a:Dsc c p k)(e:c (p.getD k 0) (p.getD (k - 1) 0)=γ):Dsc c p (k+1):=λi j hij f=>by
 by_cases hjk:j=k
 .subst hjk;by_cases b:i=j - 1
  .rw[b];show e
  .show o.tr _ _ _ (h.getD hn _) (h.getD hn _) (h.getD hn _) e (a i (j - 1) () ())
 .show a i j hij ()
theorem Ke(h:wB n p):∀f k,1<=k->k+f=n->M3 c p k->k<=w5 c (dR p f k)/\w5 c (dR p f k)<=n/\M3 c p (w5 c (dR p f k))/\(w5 c (dR p f k)<n->c (p.getD (w5 c (dR p f k)) 0) (p.getD (w5 c (dR p f k) - 1) 0)=γ)
 |0,k,b,e,a=>#v[aG _,by change k<=n;omega,a,λz=>au z (by change ¬k<n;omega)]
 |f+1,k,b,e,a=>by
  have d:w5 c (dR p (f+1) k)=w5 c (if c (p.getD k 0) (p.getD (k - 1) 0)=γ then .ret k else dR p f (k+1)):=rfl;rw[d];cases q:c (p.getD k 0) (p.getD (k - 1) 0)with
  |true=>rw[af J];show#v[aG _,by change k<=n;omega,a,λw=>q]
  |false=>rw[ai #[]];have j:=o.tot _ _ (h.getD hn _) (h.getD hn _) (h.ne () () ()) q;let#v[l,i]:=Ke h f (k+1) () () (M3.snoc o hn h b () a j);show#v[by omega,i]
theorem LS(h:wB n p):∀f k,1<=k->k+f=n->Dsc c p k->∃m,w5 c (iG f p k 0)=(p,m,0)/\k<=m/\m<=n/\Dsc c p m
 |0,k,b,e,a=>#v[k,J,aG _,by omega,a]
 |f+1,k,b,e,a=>by
  have i:w5 c (iG (f+1) p k 0)=w5 c (if c (p.getD k 0) (p.getD (k - 1) 0)=γ then (if 0 > 0 then iG f (fG p (k - (0+1)) k) (k+1) 0 else iG f p (k+1) 0)else .ask (p.getD (k - 1) 0) (p.getD k 0) λd=>if d=γ then .ret (p,k,0)else iG f p (k+1) (0+1)):=rfl;rw[i];cases q:c (p.getD k 0) (p.getD (k - 1) 0)with
  |true=>rw[af J,ai #[]];let#v[m,j,u,l,r]:=LS h f (k+1) () () (Dsc.snoc o hn h b () a q);show#v[m,j,by omega,l,r]
  |false=>rw[ai #[]];have t:=o.tot _ _ (h.getD hn _) (h.getD hn _) (h.ne () () ()) q;calc#v[k,?_,aG _,by omega,a];change w5 c (if c (p.getD (k - 1) 0) (p.getD k 0)=γ then _ else _)=_;rw[af t];rfl
theorem WM(h:wB n p)(f:k<=n)(d:Dsc c p k):M3 c (fG p 0 k) k:=λi j hij a=>by
 have l:=h.size;have e:∀t,t<k->(fG p 0 k).getD t 0=p.getD (k - 1 - t) 0:=λt b=>by rw[FZ,FZ];delta fG;rw[getElem?_mirror_all (),af #v[bP _,b],kI]
 rw[e i (),e j a];show d _ _ () ()
theorem S7(h:wB n p)(e:1<=k)(f:k<=n)(d:Dsc c p k):1<=(w5 c (gQ k n p)).1/\(w5 c (gQ k n p)).1<=n/\M3 c (w5 c (gQ k n p)).2 (w5 c (gQ k n p)).1:=by delta gQ;rw[z7];let#v[i,a,b,_]:=Ke o hn (h.rev 0 k) (n - k) k e () (WM o hn h f d);show#v[by change 1<=w5 c (dR (fG p 0 k) (n - k) k);omega,a,b]
theorem Kg(h:wB n p)(i:1<=k)(j:k+1<=n)(d:Dsc c p (k+1)):1<=(w5 c (fU k n p)).1/\(w5 c (fU k n p)).1<=n/\M3 c (w5 c (fU k n p)).2 (w5 c (fU k n p)).1:=by delta fU;rw[z7];let#v[m,a,f,b,e]:=LS o hn h (n - (k+1)) (k+1) () () d;rw[a];change 1<=(w5 c (if 0 > 0 then _ else gQ m n p)).1/\_;rw[ai #[]];show S7 o hn h () b e
theorem Qw(h:wB n p):1<=(w5 c (fE n p)).1/\(w5 c (fE n p)).1<=n/\M3 c (w5 c (fE n p)).2 (w5 c (fE n p)).1:=by
 delta fE;rw[z7];let#v[d,f,a,q]:=Ke o hn h (n - 1) 1 (aG _) () (λi j hij u=>by omega);generalize w5 c (dR p (n - 1) 1)=m at d f a q;by_cases e:m=n
 .rw[af (by rw[beq_iff_eq];show e)];show#v[d,f,a]
 .rw[ai (by rw[beq_iff_eq];show e)];by_cases l:m > 1
  .rw[af l];have t:w5 c (.ask (p.getD 0 0) (p.getD (m - 1) 0) λb=>if b=γ then .ret (m,p)else fU m n (fG p 0 m))=w5 c (if c (p.getD 0 0) (p.getD (m - 1) 0)=γ then .ret (m,p)else fU m n (fG p 0 m)):=rfl;rw[t,af (a 0 (m - 1) () ())];show#v[d,f,a]
  .rw[ai l];have r:m=1:=by omega
   subst r;calc Kg o hn h (aG _) () λi j hij u=>?_;have:i=0/\j=1:=by omega
   let#v[rfl,rfl]:=this;show q ()
theorem Fm(h:wB n p)(u:k<n)(a:M3 c p k):∀f l r,l<=r->r<=k->r - l<=f->(∀i,i<l->c (p.getD i 0) (p.getD k 0)=γ)->(∀i,r<=i->i<k->c (p.getD k 0) (p.getD i 0)=γ)->
  w5 c (iB p k f l r)<=k/\(∀i,i<w5 c (iB p k f l r)->c (p.getD i 0) (p.getD k 0)=γ)/\∀i,w5 c (iB p k f l r)<=i->i<k->c (p.getD k 0) (p.getD i 0)=γ
 |0,l,r,y,w,A,j,t=>#v[by change l<=k;omega,j,λi b=>t i (by have:l<=i:=b;omega)]
 |f+1,l,r,y,w,A,j,t=>by
  delta iB;by_cases e:l >= r
  .rw[af e];show#v[by change l<=k;omega,j,λi b=>t i (by have:l<=i:=b;omega)]
  .rw[ai e];change w5 c (if c (p.getD k 0) (p.getD ((l+r) / 2) 0)=γ then _ else _)<=k/\(∀i,i<w5 c (if c (p.getD k 0) (p.getD ((l+r) / 2) 0)=γ then _ else _)->_)/\∀i,w5 c (if c (p.getD k 0) (p.getD ((l+r) / 2) 0)=γ then _ else _)<=i->_;have B:(l+r) / 2<r:=by omega
   have d:l<=(l+r) / 2:=by omega
   generalize (l+r) / 2=m at B d;cases q:c (p.getD k 0) (p.getD m 0)with
   |true=>
    rw[af J];calc Fm h u a f l m d () () j λi b hik=>?_;by_cases z:i=m
    .rw[z];show q
    .show o.tr _ _ _ (h.getD hn _) (h.getD hn _) (h.getD hn _) q (a m i () hik)
   |false=>
    rw[ai #[]];have x:=o.tot _ _ (h.getD hn _) (h.getD hn _) (h.ne u () ()) q;calc Fm h u a f (m+1) r () w () (λi b=>?_) t;by_cases z:i=m
    .rw[z];show x
    .show o.tr _ _ _ (h.getD hn _) (h.getD hn _) (h.getD hn _) (a i m () ()) x
theorem WN(h:wB n p)(w:k<n)(x:m<=k)(a:M3 c p k)(q:∀i,i<m->c (p.getD i 0) (p.getD k 0)=γ)(r:∀i,m<=i->i<k->c (p.getD k 0) (p.getD i 0)=γ):M3 c (bubble p k (k - m)) (k+1):=λi j hij u=>by
 have y:=h.size;have e:∀t,(bubble p k (k - m)).getD t 0=if t=m then p.getD k 0 else if m<t/\t<=k then p.getD (t - 1) 0 else p.getD t 0:=λt=>by
  rw[FZ,getElem?_bubble () _ (),show k - (k - m)=m by omega]
  repeat' split
  all_goals rw[FZ]
 rw[e,e];by_cases b:i=m
 .rw[af b,ai (),af ()];show r _ () ()
 .rw[ai b];by_cases f:j=m
  .rw[af f,ai ()];show q _ ()
  .rw[ai f];by_cases d:m<i/\i<=k
   .rw[af d,af ()];show a _ _ () ()
   .rw[ai d];by_cases l:m<j/\j<=k
    .rw[af l];show a _ _ () ()
    .rw[ai l];show a _ _ () ()
theorem OT:∀f (p:Array Nat) k,wB n p->1<=k->k+f=n->M3 c p k->M3 c (w5 c (kas_bin f p k)) n
 |0,p,k,h,l,e,a=>by have:k=n:=e;subst this;show a
 |f+1,p,k,h,l,e,a=>by delta kas_bin;rw[z7];let#v[b,d,j]:=Fm o hn h (k:=k) () a k 0 k (bP _) (aG _) () (λi m=>by omega) (λi m hik=>by omega);show OT f _ (k+1) (h.bub _ _) () () (WN o hn h () b a d j)
theorem S8:M3 c (w5 c (gS n)) n:=by
 delta gS;rw[z7];have d:wB n (kL (bh n)):=by delta wB;show kG _
 let#v[b,i,a]:=Qw o hn d;have h:wB n (w5 c (fE n (kL (bh n)))).2:=(Jl hn d n).run c _;by_cases e:(w5 c (fE n (kL (bh n)))).1<n
 .rw[af e,Nat.max_eq_left b];show OT o hn _ _ _ h b () a
 .rw[ai e];have f:(w5 c (fE n (kL (bh n)))).1=n:=by omega
  rw[f]at a;show a
end
section
def Tup2(K:ay)(H:Hp)(y:V)(k:aD):Prop:=∃a p q,y=.ref a/\k=[p,q]/\fh K H a [.str p,.str q]
end
section
def It2(h:Heap)(b:List aa)(c:List aD):Prop:=∀i,i<b.length->∃a p q t v,b.getD i Value.none=.ref a/\c.getD i []=[p,q]/\dS h a #[.str p t,.str q v]/\b[i]?=U (.ref a)
def Qx(item:It2 s.heap b I)(H:0<b.length)(hC:C (tuples' γ) s):av (model prog w) A (keyKind' b.toArray) C (λ_ _=>False) s:=by
 have n5:∀(l:List aa),(∀v∈l,∃i,i<b.length/\b[i]?=U v)->∃fs,KatTups s.heap l fs/\fs.length=l.length/\∀f∈fs,∃(x:Str) (t:Tok),f=.str x t:=λl=>by
  induction l with
  |nil=>show λ_=>#v[[],sj,J,λf d=>by ext d]
  |cons v l B=>
   intro c;let#v[fs,j,r,m]:=B λw z=>c w (.tail _ z);let#v[i,h,y]:=c v (.head _);let#v[a,p,q,t,w,_,_,#v[o,E,F,n,G],u]:=item i h;rw[y]at u;ext u;calc#v[.str p t::fs,rP E F G (by simp) j,by rw[aL,aL,r],λf d=>?_];rcases aJ.1 d with rfl|d
   .show#v[p,t,J]
   .show m f d
 let#v[fs,j,r,m]:=n5 b λv c=>by let#v[i,h,e]:=dY.1 c;show#v[i,h,by rw[aI h,e]]
 refine kat_kind (T:=.type "str") j () (λv c=>?_) #[] ?_
 .let#v[x,t,rfl]:=m v c;show .now
 .rw[show (Value.type "str" != Value.type "tuple")=γ by decide];show hC
def S9(item:It2 s.heap a f)(hij:i<a.length/\j<a.length)(hC:C (xn (f.getD i []) (f.getD j [])) s):jE prog w A (tuples' γ) a i j C s:=by
 let#v[a1,b,d,h,m,r,y,#v[G,u,c1,E,p],_]:=item i hij.1;let#v[B,c,e,l,o,t,z,#v[H,x,c2,F,q],_]:=item j hij.2;delta jE;rw[r,t];rw[y,z]at hC;calc kat_lt u p x q ?_;change KatLex _ _ _ _ _ _ [(Value.str b h,Value.str c l),(Value.str d m,Value.str e o)] 0 _;calc jB (kq b h c l _ _ _ _ ?_);delta xn at hC;by_cases hpp:b=c
 .subst hpp;rw[af J]at hC;rw[beq_self_eq_true];calc kY (jB (kq d m e o _ _ _ _ ?_));delta xn at hC;by_cases hqq:d=e
  .subst hqq;rw[af J]at hC;rw[beq_self_eq_true];show kY (kat_nil hC)
  .rw[ai hqq]at hC;rw[beq_false_of_ne hqq];show kat_no (kat_one _ _ (pS hC))
 .rw[ai hpp]at hC;rw[beq_false_of_ne hpp];show kat_no (oneLt_str hC)
end
def WO:D->Option aD
 |.bx [.str p,.str q]=>U [p,q]
 |_=>Z
def DK:aV->Option (List aD)
 |[]=>U []
 |d::a=>match WO d,DK a with
  |some k,U b=>U (k::b)
  |_,_=>Z
section
variable{G:Bg}
#print h
def Ta(r:c3 G H d v)(e:WO d=U k):Tup2 G.K H v k:=by
 delta WO at e;split at e
 .rename_i p q;ext e;delta c3 at r;let#v[a,u,rfl,h,i]:=r;let#v[o,l,rfl,b,j]:=Ae i;let#v[t,m,rfl,c,f]:=Ae j;delta a9 at f;delta c3 at b c;subst f b c;show#v[a,p,q,J,J,h]
 .ext e
end
#print f
def Tc(h:ltS a b=γ)(d:ltS b c=γ):ltS a c=γ:=aM (List.lt_trans (ba h) (ba d))
def OU(e:a≠b)(h:ltS a b=δ):ltS b a=γ:=by have c:b.cps.toList<=a.cps.toList:=of_decide_eq_false h;calc aM (Decidable.byContradiction λz=>e ?_);have d:a.cps.toList<=b.cps.toList:=z;have q:=qw d c;cases a with|mk a=>cases b with|mk b=>ext a;ext b;simp only at q;rw[q]
def OV(a:Str):ltS a a=δ:=aP (List.lt_irrefl _)
def NF(p q a b:Str):xn [p,q] [a,b]=if p=a then (if q=b then δ else ltS q b)else ltS p a:=by delta xn;delta xn;delta xn;rfl
#print h
def Td{c:Str}(h:xn [p,q] [e,f]=γ)(a:xn [e,f] [c,i]=γ):xn [p,q] [c,i]=γ:=by
 rw[NF]at h a ⊢;by_cases d:p=e
 .subst d;rw[af J]at h;by_cases b:p=c
  .subst b;rw[af J]at a ⊢;split at h
   .ext h
   .split at a
    .ext a
    .rename_i j l;have:=Tc h a;rw[ai (λz=>by subst z;rw[OV]at this;ext this)];show this
  .rw[ai b]at a ⊢;show a
 .rw[ai d]at h;by_cases b:e=c
  .subst b;rw[ai d];show h
  .rw[ai b]at a;have:=Tc h a;rw[ai (λz=>by subst z;rw[OV]at this;ext this)];show this
#print f
def WQ(e:([p,q]:aD)≠[c,d])(h:xn [p,q] [c,d]=δ):xn [c,d] [p,q]=γ:=by
 rw[NF]at h ⊢;by_cases a:p=c
 .subst a;rw[af J]at h ⊢;by_cases b:q=d
  .subst b;show au J e
  .rw[ai b]at h;rw[ai (cg b)];show OU b h
 .rw[ai a]at h;rw[ai (cg a)];show OU a h
def WR(p q:Str):xn [p,q] [p,q]=δ:=by rw[NF,af J,af J]
def sto2{ks:List aD}(nd:ks.Nodup)(h2:∀k∈ks,∃p q,k=[p,q]):Sto (λi j=>xn (ks.getD i []) (ks.getD j [])) ks.length where
 tr:=λi j k hi a l h h'=>by rw[bV,aI hi]at h ⊢;rw[bV,aI a]at h h';rw[bV,aI l]at h' ⊢;let#v[r,q1,b]:=h2 _ (cG hi);let#v[t,q2,c]:=h2 _ (cG a);let#v[u,w,d]:=h2 _ (cG l);erw[my]at h h' ⊢;rw[b,c]at h;rw[c,d]at h';rw[b,d];show Td h h'
 tot:=λi j hi a ne h=>by
  have e:ks.getD i []=ks[i]:=by rw[bV,aI hi];rfl
  have f:ks.getD j []=ks[j]:=by rw[bV,aI a];rfl
  rw[e,f]at h;rw[e,f];have m:ks[i]≠ks[j]:=λz=>by
   have o:=hJ.1 nd;rcases jh i j with y|y|y
   .show o i j hi a y z
   .show ne y
   .show o j i a hi y z.symm
  let#v[r,q1,b]:=h2 _ (cG hi);let#v[t,q2,c]:=h2 _ (cG a);rw[b,c]at h m;rw[b,c];show WQ m h
def Te{c:List aD}(m:c.Nodup)(h:∀k∈c,∃p q,k=[p,q])(f:0<c.length):((D2 (λi j=>xn (c.getD i []) (c.getD j [])) c.length).map λi=>c.getD i []).Pairwise λa b=>xn a b=γ:=by have a:=S8 (sto2 m h) f;have l:=(EG f).run (λi j=>xn (c.getD i []) (c.getD j [])) (gS c.length);have sz:=wB.size l;rw[qf,hJ];intro i j d e hij;delta D2 at d e ⊢;rw[bL]at d e;have:=a i j hij ();rw[FZ,FZ,di d,di e]at this;exists this
def Tf{d:List aD}(p:d.Perm c)(u:d.Nodup)(r:∀k∈d,∃p q,k=[p,q])(m:0<d.length):
  (D2 (λi j=>xn (d.getD i []) (d.getD j [])) d.length).map (λi=>d.getD i [])=(D2 (λi j=>xn (c.getD i []) (c.getD j [])) c.length).map λi=>c.getD i []:=by
 have t:c.Nodup:=p.nodup_iff.1 u;have f:∀k∈c,∃p q,k=[p,q]:=λk A=>r k (p.mem_iff.2 A);have e:0<c.length:=by rw[<-p.length_eq];show m
 have w:∀l:List aD,(bh l.length).map (λi=>l.getD i [])=l:=λl=>by
  apply qz
  .rw[ah,cI]
  .intro i a b;rw[qA,l4,bV,aI b];rfl
 have o:∀l:List aD,0<l.length->((D2 (λi j=>xn (l.getD i []) (l.getD j [])) l.length).map λi=>l.getD i []).Perm l:=λl B=>by have:=(zg (λi j=>xn (l.getD i []) (l.getD j [])) B).map λi=>l.getD i [];rw[w]at this;show this
 calc oY (le:=λa b=>xn a b=γ) (λa b y z h x=>?_) (Te u r m) (Te t f e) ((o d m).t (p.t (o c e).symm));let#v[E,G,rfl]:=r a ((o d m).mem_iff.1 y);let#v[F,H,rfl]:=f b ((o c e).mem_iff.1 z);have:=Td h x;rw[WR]at this;ext this
end L4
namespace L4
open PySem PySem.Spec PyProof.Rows L2 L3
structure Bz where
 P:bj
 w:aR
 mg:Str->Option aa
 a7:Heap
 G:Bg
structure ZE(X:Cx)(B:Bz)(e:Expr)(f:FE):Prop where p:PE X e (tF B.G f)
structure ZN(X:Cx)(B:Bz)(e:Expr)(f:FA):Prop where p:PE X e (y0 B.G f)
structure ZT(X:Cx)(B:Bz)(e:Expr)(f:FT):Prop where p:PT X e (m? B.G f)
structure ZW(X:Cx)(B:Bz)(e:Expr)(f:FT):Prop where p:PW X e (m? B.G f)
structure ZF(X:Cx)(B:Bz)(e:List Expr)(f:FT):Prop where p:PIf X e (m? B.G f)
structure ZA(X:Cx)(B:Bz)(e:List Expr)(f:FA):Prop where p:PA X e (sh B.G f)
structure ZM(X:Cx)(B:Bz)(e:List Expr)(i:Nat)(f:FA):Prop where p:PA X e (Nr B.G i f)
structure ZS(X:Cx)(B:Bz)(e:Stmt)(f:FS):Prop where p:PS X e (kb B.G f)
structure ZB(X:Cx)(B:Bz)(e:List Stmt)(f:FS):Prop where p:kv X e (kb B.G f)
structure ZI(X:Cx)(B:Bz)(tg e:Expr)(f:FA):Prop where p:PI X tg e (S? B.G f)
structure ZO(X:Cx)(B:Bz)(e:Option Expr)(f:FO):Prop where p:PO X e (tFO B.G f)
structure ZG(X:Cx)(B:Bz)(e:Expr)(n:Nat)(f:FG):Prop where p:PG X e (tFG B.G n f)
structure ZH(X:Cx)(B:Bz)(e:List Expr)(n:Nat)(f:aV->aU->Option aU):Prop where p:Pr X e (RM B.G n f)
structure ZK(X:Cx)(e:Option Expr)(i:Option Int):Prop where p:PO X e (tO i)
structure ZP(X:Cx)(B:Bz)(pos:Pos)(ks:List (Option Expr))(vs:List Expr)(l:List (Str×FE)):Prop where p:PPs X pos ks vs (SO B.G l)
structure ZV(X:Cx)(e:Expr)(i:Nat):Prop where p:PE X e (Aa i)
abbrev Gz(X:Cx)(x:Str):Prop:=X.a8.kindOf x=U .globalImplicit
abbrev Dz(x:Str):Prop:=(x==("__debug__" : Str))=δ
abbrev Nz(x:Str):Prop:=(decide (x≠"__name__")&&!(x==("__debug__" : Str)))=γ
abbrev Sz(X:Cx)(e:Expr)(a:List Expr):Prop:=aE (e::a) X.a8=(δ,eval e X.a8)::aE a X.a8
abbrev S1(X:Cx)(e:Expr):Prop:=aE [e] X.a8=[(δ,eval e X.a8)]
abbrev Lz(X:Cx)(pos:Pos)(a:List Expr):Prop:=(bM pos (aE a X.a8)).any (·.1)=δ
abbrev Wz(X:Cx)(e o:Expr)(pos:Pos):Prop:=eL e (U o) pos.line X.a8=pure δ
abbrev Az(X:Cx)(o:Expr)(m:Str):Prop:=fo o m X.a8 (eval o X.a8)=eval o X.a8
abbrev Ez(p pos:Pos):Prop:=(p.endLine==pos.line)=γ
abbrev Iz(e:Expr):Prop:=(λo i=>subscripted e δ o i)=λo i=>operate [o,i] (getItem o i)
abbrev Fz(X:Cx)(e:Expr):Prop:=(λx=>jd e X.a8 x)=λx=>pure x
class Cz(X:Cx)(B:outParam Bz)(k:outParam Nat):Prop where
 P:X.prog=B.P
 w:X.w=B.w
 K:X.K=B.G.K
 mg:X.mg=B.mg
 b:X.a7=B.a7
 c:X.k3=γ
 r:xg k X.A
class Yb(B:Bz):Prop where y:Yw B.P B.w B.mg B.a7 B.G
class Df(B:Bz)(j:outParam Nat)(x:Str)(sp:Sp):Prop where p:∃ps,Bf B.P B.w B.G.K B.mg B.a7 j x ps sp
class Kf(B:Bz)(j:outParam Nat)(x:Str)(c:Nat)(g:aV->Option (aD×aV))(dds:aV):Prop where
 p:∃ps,J0 B.G B.P B.w B.mg B.a7 j x c ps (dds.map vD) g
 f:dds.all yd=γ
class Mf(B:Bz)(j:outParam Nat)(m:Str)(g:Nat->Option (aV->Option D)):Prop where p:∀c h,g c=U h->BD B.G B.P B.w B.mg B.a7 j m c h
class Ff(B:Bz)(ok:Nat->Bool)(f:Str):Prop where p:∀c,ok c=γ->P2 B.G.K (B.G.ca c)/\AR B.G.K (B.G.ca c) f
class Af(B:Bz)(c:Nat)(xs:outParam aD):Prop where p:CF B.G.K (B.G.ca c) xs
class Nb(B:Bz)(x:Str):Prop where p:B.mg x=Z
class Co(B:Bz)(x:Str)(d:D):Prop where p:Dk B.G B.mg x d
class Ic(B:Bz)(x:Str)(t:Ty->Option Bool):Prop where p:∃c,Nd B.G c t/\B.mg x=U (.ref (B.G.ca c))
class Ij(B:Bz)(n:Nat):Prop where p:∀j k,j<n->k<n->B.G.ca j=B.G.ca k->j=k
class OpC(op:Operator)(g:D->D->Option D):Prop where p:∀(X:Cx) (G:Bg),∃r,iE X (c8 op) r/\ki G r g
#print "1 Mod ye Zj aaa;2 FloorDiv DH Vh aab;3 Mult zx Zi Z9;4 Sub Ls Zh Z8;5 Pow FM Zk aac;6 Add wA Zg Z7;8 Mult LB MZ WJ" in instance inϑ0:OpC .ϑ1 ϑ2:=#v[λz z=>#v[_,ϑ3,ϑ4]]
class F?(op:CmpOp)(g:D->D->Option D):Prop where p:∀(X:Cx) (G:Bg),X.K=G.K->X.A.units+64<cLine->∃r,iE X (bD op) r/\ki G r g
#print "9 Eq δ h U;10 NotEq γ i V" in instance inϑ0:F? .ϑ1 (eo ϑ2):=#v[λz z h u=>#v[_,aaϑ3 u h,adϑ4]]
#print "in11 In δ aaj;UB NotIn γ Qf" in instance ϑ0:F? .ϑ1 (k? ϑ2):=#v[λz z h z=>#v[_,ϑ3 h,Yj]]
#print "13 Is Be Zl aae;14 IsNot zy Vi Wf;16 Lt DA adg adQ;17 LtE AU adh adR;18 Gt IC adi adS;19 GtE Z6 adj adT;20 LtE RZ P6 aad" in instance inϑ0:F? .ϑ1 ϑ2:=#v[λz z z z=>#v[_,ϑ3,ϑ4]]
class B1(x:Str)(g:D->Option D):Prop where p:∀(X:Cx) (G:Bg),X.K=G.K->X.k3=γ->∃(id:String) (r:bC->Hp->VK->Prop),xA X (.builtin id) r/\Jg G r g/\eF x=U (.builtin id)
instance in21:B1 "len" wW:=#v[λz z h z=>#v[_,_,Qh h,aak,qV]]
#print "2 ll Ay i m;3 ny Gr n s" in instance in2ϑ0:B1 "aϑ1" ϑ2:=#v[λz z h c=>#v[_,_,Qϑ3 c h,aaϑ4,boot_aϑ1]]
class KtC(x:Str)(T:outParam String):Prop where p:(∀(X:Cx) (G:Bg) y b,yC T y=U b->de X.K (y.val G) (.type T)=U b)/\eF x=U (.type T)
instance in24:KtC "str" "str" := #v[λz z=>Wm,Pv.boot_str]
instance in25:KtC "int" "int" := #v[λz z=>WB,sr]
instance in26:KtC "bool" "bool" := #v[λz z=>SL,Pv.boot_bool]
instance in27:KtC "list" "list" := #v[λz z=>Sk,rQ]
instance in28:KtC "tuple" "tuple" := #v[λz z=>Z',rA]
theorem Yr:∀{dds:aV},dds.all yd=γ->a9 G H dds (dds.map vD)
 |[],_=>vO
 |d::a,h=>by rw[iw,bA]at h;show vM (Er h.1 H) (Yr h.2)
def pa(X:Cx)(i:Nat)(x:Str):Bool:=decide (X.N[i]?=U x)&&(match X.a8.scope.names.lookup x with|some .local=>γ|some .cell=>γ|some .free=>γ|_=>δ)&&!(x==("__debug__" : Str))&&!(x==("__classdict__" : Str))
def vr(X:Cx)(i:Nat)(x:Str):Bool:=decide X.N.Nodup&&decide (X.N[i]?=U x)&&(match X.a8.scope.names.lookup x with|some .local=>γ|some .cell=>X.fn x|_=>δ)
section
#print h
def A?(h:pa X i x=γ):PE X (.Name x p) (Aa i):=by
 delta pa at h;erw[bA,bU,ik]at h;let#v[#v[#v[b,a],c],d]:=h;calc pv i b ?_ c d;split at a
 .rename_i e;show .inl e
 .rename_i e;show .inr (.inl e)
 .rename_i e;show .inr (.inr e)
 .ext a
#print f
#print "aeb E cV M0;aaD E t9 adN;WS N Qd Wa" in def ϑ0(h:pa X i x=γ):Zϑ1 X B (.Name x p) (ϑ2 i):=#v[ϑ3 (A? h)]
#print h
def GO(h:vr X i x=γ):X.N.Nodup/\X.N[i]?=U x/\L2.Loc X.a8.scope x/\(X.fn x=γ\/X.a8.scope.names.lookup x=U .local):=by
 delta vr at h;erw[bA,bU]at h;let#v[#v[b,c],a]:=h;split at a
 .rename_i e;show#v[b,c,.inl e,.inr e]
 .rename_i e;show#v[b,c,.inr e,.inl a]
 .ext a
#print f
def pgI(h:vr X i x=γ):PG X (.Name x p) (Ab i):=by let#v[a,b,c,d]:=GO h;show Ob a b c d
def aaE(h:vr X i x=γ)(a:Nat.blt i n=γ):ZG X B (.Name x p) n (gN i):=#v[RN n (pgI h) (Nat.blt_eq.mp a)]
def stW(h:vr X i x=γ)(f:PE X e l)(j:Wz X e (.Name x p) pos):PS X (.Assign [.Name x p] e pos) (Ee l (Ab i)):=by let#v[a,b,c,d]:=GO h;show QX a b c f j d
#print "F a E f b vR OA;G b N a c yc RP" in def aaϑ0(h:vr X i x=γ)(ϑ1:Zϑ2 X B e ϑ3)(ϑ4:Wz X e (.Name x p) pos):ZS X B (.Assign [.Name x p] e pos) (ϑ5 i ϑ3):=#v[ϑ6 (stW h ϑ1.p ϑ4)]
def aaH(h:vr X i x=γ)(a:Wz X (.Dict [] [] b) (.Name x p) pos):ZS X B (.Assign [.Name x p] (.Dict [] [] b) pos) (Ey i):=#v[Sq (stW h Cs a)]
def aaI [O:OpC op g](h:ZE X B e f)(i:ZE X B a b):ZE X B (.BinOp e op a pos) (c2 g f b):=by let#v[r,c,d]:=O.p X B.G;show#v[adA c d h.p i.p]
def aaJ [C:Cz X B k](c:ZE X B e f)(d:ZE X B a b)(h:Iz a):ZE X B (.Subscript e a pos) (c2 e7 f b):=#v[adB (ix_X C.K) adW c.p d.p λo i=>congrFun (congrFun h o) i]
def WT [C:Cz X B k](h:pa X i x=γ)(c:ZE X B a b)(d:Iz a):ZE X B (.Subscript (.Name x p) a pos) (Fd i b):=#v[Z4 (Rh (RB B.G.K C.K) (A? h) c.p λo i=>congrFun (congrFun d o) i)]
def aaK [C:Cz X B k](c:ZE X B e f)(d:ZE X B a b)(h:Iz a):ZE X B (.Subscript e a pos) (c2 wX f b):=#v[Wo (Le C.r) c.p d.p λo i=>congrFun (congrFun h o) i]
section
def aaL [O:F? op g][C:Cz X B k](h:ZE X B e f)(i:ZE X B a b)(j:gz op a=δ):ZE X B (.Compare e [op] [a] pos) (c2 g f b):=by let#v[r,c,d]:=O.p X B.G C.K C.r.units;show#v[ZL c d h.p i.p j]
def aaM [O:F? op g][C:Cz X B k](h:ZE X B e f)(i:ZE X B a b)(j:gz op a=δ):ZT X B (.Compare e [op] [a] pos) (cT (c2 g f b)):=by let#v[r,c,d]:=O.p X B.G C.K C.r.units;show#v[VG c d h.p i.p j]
def aaN [O:F? op g][c:F? a i][C:Cz X B k](t:ZE X B e f)(u:ZE X B b d)(w:ZE X B o h)(x:lastMarks [op,a] [b,o]=δ):ZE X B (.Compare e [op,a] [b,o] pos) (yI g i f d h):=by let#v[r,j,l]:=O.p X B.G C.K C.r.units;let#v[y,m,q]:=c.p X B.G C.K C.r.units;show#v[Sf j m l q t.p u.p w.p x]
def aaO [O:F? op g][c:F? a i][C:Cz X B k](t:ZE X B e f)(u:ZE X B b d)(w:ZE X B o h)(x:lastMarks [op,a] [b,o]=δ):ZT X B (.Compare e [op,a] [b,o] pos) (cT (yI g i f d h)):=by let#v[r,j,l]:=O.p X B.G C.K C.r.units;let#v[y,m,q]:=c.p X B.G C.K C.r.units;show#v[Ql j m l q t.p u.p w.p x]
end
def aaP(h:ZE X B e f)(a:(λwhole=>isTrue e X.a8 whole)=λwhole=>(do let v<-whole;standAt e.pos;holding [v] (truthy v))):ZT X B e (cT f):=#v[VH h.p λw=>congrFun a w]
#print "Q Or Ah RG;R And zu VL" in def aaϑ0(f:ZT X B e c)(h:ZW X B (.BoolOp .ϑ1 (a::b) pos) d):ZT X B (.BoolOp .ϑ1 (e::a::b) pos) (ϑ2 c d):=#v[PW.pt (ϑ3 f.p h.p)]
def aaS [C:Cz X B k][Q:Co B x d](a:Gz X x)(hd:Dz x):ZE X B (.Name x pos) (cC d):=#v[Si (C.mg▸Q.p) a hd]
def aaT [C:Cz X B k][Q:Ff B ok m](b:ZE X B e f)(a:Az X e m):ZE X B (.Attribute e m pos) (c1 (vP ok m) f):=#v[RR b.p (C.K▸Q.p) a]
section
variable(hg:Gz X x)(hd:Dz x)(hs:Sz X e es)(hl:Lz X pos es)
include hg hd
theorem dz [C:Cz X B k][Q:Df B j x c]:∃a,Bf X.prog X.w X.K X.mg X.a7 j x a c:=by rw[C.P,C.w,C.K,C.mg,C.b];show Q.p
theorem aaU{g:aV->Option aV}[C:Cz X B k][Q:Df B j x (tp B.G g)](a:eP j k=γ):ZN X B (.Call (.Name x p) [] [] pos) (wb g vG):=by let#v[b,q]:=dz hg hd (Q:=Q);show#v[Sg q (C.r.mono (eJ.mp a)) hg hd]
include hs hl
#print "V D gj E vo aao;W aV tp N wb Wi" in theorem aaϑ0{g:aV->Option ϑ1}[C:Cz X B k][Q:Df B j x (ϑ2 B.G g)](b:ZA X B (e::es) a)(c:eP j k=γ):Zϑ3 X B (.Call (.Name x p) (e::es) [] pos) (ϑ4 g a):=by let#v[d,q]:=dz hg hd (Q:=Q);show#v[ϑ5 q (C.r.mono (eJ.mp c)) b.p hg hd hs hl]
theorem aaX{g:aV->aV->Option (D×aV)}[C:Cz X B k][Q:Df B j x (π B.G g)](d:ZV X e i)(b:ZA X B es a)(c:eP j k=γ):ZE X B (.Call (.Name x p) (e::es) [] pos) (v9 g i a):=by let#v[f,q]:=dz hg hd (Q:=Q);show#v[Wj q (C.r.mono (eJ.mp c)) d.p b.p hg hd hs hl]
theorem aaY{g:aV->aV->Option (D×aV)}[C:Cz X B k][Q:Df B j x (Mi B.G g)](b:ZM X B (e::es) i a)(c:eP j k=γ):ZE X B (.Call (.Name x p) (e::es) [] pos) (wY g i a):=by let#v[d,q]:=dz hg hd (Q:=Q);show#v[WI q (C.r.mono (eJ.mp c)) b.p hg hd hs hl]
theorem aaZ{g:aV->Option (aD×aV)}{dds:aV}[C:Cz X B k][Q:Kf B j x c g dds](h:ZA X B (e::es) a)(i:eP (j+1) k=γ):ZE X B (.Call (.Name x p) (e::es) [] pos) (v7 c (λd=>g (d++dds)) a):=by let#v[l,q]:=Q.p;show#v[Wk (by rw[C.P,C.w,C.mg,C.b];show q) (λH=>Yr Q.f) (C.r.mono (eJ.mp i)) h.p C.K hg hd hs hl]
end
def mz{g:Nat->Option (aV->Option D)}[C:Cz X B k][Q:Mf B j m g]:∀c h,g c=U h->BD B.G X.prog X.w X.mg X.a7 j m c h:=by rw[C.P,C.w,C.mg,C.b];show Q.p
def aa0{g:Nat->Option (aV->Option D)}{pl:Sem Bool}[C:Cz X B k][Q:Mf B j m g](c:ZE X B o f)(b:eP j k=γ)
  (d:eval (.Call (.Attribute o m apos) [] [] pos) X.a8=(do
   let a<-eval o X.a8
   standAt apos.atName
   let (f,first)<-holding [a] (getMethod a m pl)
   callWith pos f first (bM pos (aE [] X.a8)) (backToKw pos (eI [] X.a8)))):ZE X B (.Call (.Attribute o m apos) [] [] pos) (vZ g m f vG):=#v[M8 mz (C.r.mono (eJ.mp b)) c.p C.K d]
def aa1{g:Nat->Option (aV->Option D)}{pl:Sem Bool}[C:Cz X B k][Q:Mf B j m g](l:ZE X B o f)(d:ZA X B (e::b) a)(h:eP j k=γ)(q:Sz X e b)(i:Lz X pos b)
  (t:eval (.Call (.Attribute o m apos) (e::b) [] pos) X.a8=(do
   let c<-eval o X.a8
   standAt apos.atName
   let (f,first)<-holding [c] (getMethod c m pl)
   callWith pos f first (bM pos (aE (e::b) X.a8)) (backToKw pos (eI [] X.a8)))):ZE X B (.Call (.Attribute o m apos) (e::b) [] pos) (vZ g m f a):=#v[Qm mz (C.r.mono (eJ.mp h)) l.p d.p C.K q i t]
section
variable(hg:Gz X x)(hd:Nz x)(hs:S1 X e)
include hg hd hs
theorem cbI{id:String}[C:Cz X B k][N:Nb B x](b:xA X (.builtin id) r)(c:eF x=U (.builtin id))(a:PA X [e] t):PE X (.Call (.Name x p) [e] [] pos) (tCB r t):=by erw[bA,bU,ik]at hd;show GY b hg (C.mg▸N.p) c a hd.1 hd.2 hs J
theorem ctI [C:Cz X B k][N:Nb B x](b:xA X (.type T) r)(c:eF x=U (.type T))(a:PA X [e] t):PE X (.Call (.Name x p) [e] [] pos) (tCB r t):=by erw[bA,bU,ik]at hd;show PR b hg (C.mg▸N.p) c a hd.1 hd.2 hs J
theorem aa2{g:D->Option D}[Q:B1 x g][C:Cz X B k][N:Nb B x](h:ZE X B e f):ZE X B (.Call (.Name x p) [e] [] pos) (c1 g f):=by let#v[id,r,a,b,d]:=Q.p X B.G C.K C.c;show#v[Yk b (cbI hg hd hs a d (yz h.p zl hs))]
end
section
variable(hs:S1 X e)
include hs
#print "3 list N CB a M7 Q;4 tuple E FN d Qj A" in theorem aaϑ0 [C:Cz X B k][N:Nb B "ϑ1"](b:Gz X "ϑ1")(a:ZE X B e f):Zϑ2 X B (.Call (.Name "ϑ1" p) [e] [] pos) (ϑ3 f):=#v[Sϑ4 (ctI b #[] hs (ϑ5 C.K) rϑ6 (yz a.p zl hs))]
theorem aa5 [C:Cz X B k][N:Nb B "sorted"](b:Gz X "sorted")(a:ZE X B e f):ZN X B (.Call (.Name "sorted" p) [e] [] pos) (HB f):=#v[Nw (cbI b #[] hs (J8 C.r.units C.K) nN (yz a.p zl hs))]
theorem aa6 [C:Cz X B k][N:Nb B "range"](b:Gz X "range")(a:ZE X B e f):ZI X B c (.Call (.Name "range" p) [e] [] pos) (B? f):=#v[M4 (PH b (C.mg▸N.p) (yz a.p zl hs) hs)]
end
section
variable(hi:Gz X "isinstance")(hg:Gz X x)(hs:aE [e,.Name x p2] X.a8=[(δ,eval e X.a8),(δ,eval (.Name x p2) X.a8)])(hs':S1 X (.Name x p2))
include hi hg hs hs'
theorem aa7 [Q:KtC x T][C:Cz X B k][N:Nb B "isinstance"][a:Nb B x](c:ZE X B e f)(hd:Nz x):ZE X B (.Call (.Name "isinstance" p) [e,.Name x p2] [] pos) (c1 (zL (yC T)) f):=by
 erw[bA,bU,ik]at hd;refine#v[OI (GY (Jh (.b T) (Q.p.1 X B.G) Sj C.K) hi (C.mg▸N.p) qK (wQ c.p (wQ (Va hg (C.mg▸a.p) Q.p.2 J hd.1 hd.2) zd ?_) ?_) #[] #[] ?_ ?_)]
 .show hs'
 .rw[hs,hs']
 .rw[hs,hs']
 .rw[hs'];rfl
theorem aa8 [Q:Ic B x t][C:Cz X B k][N:Nb B "isinstance"](a:ZE X B e f)(hd:Dz x):ZE X B (.Call (.Name "isinstance" p) [e,.Name x p2] [] pos) (c1 (zL t) f):=by
 let#v[c,b,d]:=Q.p;refine#v[OI (GY (Nf b C.K) hi (C.mg▸N.p) qK (wQ a.p (wQ (N8 hg (C.mg▸d) J hd) zd ?_) ?_) #[] #[] ?_ ?_)]
 .show hs'
 .rw[hs,hs']
 .rw[hs,hs']
 .rw[hs'];rfl
end
section
variable(hb:Az X o m)(hl:Ez apos pos)(hs:S1 X e)
include hb hl hs
theorem bmI{id:String}[C:Cz X B k](d:nS T)(slot:Slot T m id)(hty:typeOf (.builtin id)=pure (.type "method_descriptor"))(b:MtR X id r)(c:PE X o to)(a:PA X [e] t):PE X (.Call (.Attribute o m apos) [e] [] pos) (tBM B.G.K T r to t):=
 RD B.G.K d slot hty b c a hb (by rw[hs];rfl) hl hs J C.K
end
section
variable(h:pa X i x=γ)(hb:Az X (.Name x p) m)(hl:Ez apos pos)(hs:S1 X e)
include h hb hl hs
theorem aba [C:Cz X B k](b:m="extend")(a:ZE X B e f):ZE X B (.Call (.Attribute (.Name x p) m apos) [e] [] pos) (Ht i f):=by subst b;show#v[Nh (bmI hb hl hs ji pY F.type_list_extend (C.K▸Ng) (A? h) (wQ a.p zd hs))]
#print "a9 append zF Qc lY p6 E8;bb pop DZ SR mF qL K9" in theorem aϑ0 [C:Cz X B k](b:m="ϑ1")(a:ZE X B e f):ZE X B (.Call (.Attribute (.Name x p) m apos) [e] [] pos) (ϑ2 i f):=by subst b;show#v[ϑ3 (bmI hb hl hs ji ϑ4 ϑ5 ϑ6 (A? h) (yz a.p zl hs))]
end
def abc [C:Cz X B k](h:pa X i x=γ)(b:Az X (.Name x p) "pop")(c:Ez apos pos)(a:S1 X (.Constant (.int 0) j d)):ZE X B (.Call (.Attribute (.Name x p) "pop" apos) [.Constant (.int 0) j d] [] pos) (OC i):=#v[V9 (bmI b c a ji mF qL K9 (A? h) (wQ MG zd a))]
def abd [C:Cz X B k](i:ZE X B e f)(j:ZE X B a c)(d:Az X e "get")(h:Ez apos pos)(b:S1 X a):ZE X B (.Call (.Attribute e "get" apos) [a] [] pos) (c2 Ex f c):=#v[So (Le C.r) i.p j.p #v[d,by rw[b];rfl,h,by rw[b];rfl]]
def abe [C:Cz X B k][Q:Af B a j](d:j.contains m=γ)(h:pa X i x=γ)(c:ZE X B e f)(b:Wz X e (.Attribute (.Name x p) m apos) pos):ZS X B (.Assign [.Attribute (.Name x p) m apos] e pos) (we a i m f):=#v[V8 (Zn (A? h) c.p b) (by let#v[i,_,e]:=lS (pj.1 d);show C.K▸Q.p.at i (bZ.2 #v[_,e]))]
def abf [C:Cz X B k](h:pa X i x=γ)(c:ZE X B a b)(j:ZE X B e f)(d:Wz X e (.Subscript (.Name x p) a apos) pos):ZS X B (.Assign [.Subscript (.Name x p) a apos] e pos) (wK i b f):=#v[Sr (Ov (Le C.r) (A? h) c.p j.p d)]
def abg [Q:Ij B n](h:ZE X B e f):ZE X B e (Bh n f):=#v[Wx Q.p h.p]
section
def abh:ZP X B pos [] [] []:=#v[Vv]
def abi(c:ZE X B e f)(b:ZP X B pos d a kfs):ZP X B pos (U (.Constant (.str y) j p)::d) (e::a) ((y,f)::kfs):=#v[Rr QT c.p b.p]
def abj(h:ZP X B pos a c kfs)(d:(a.all (·.isSome)&&decide (a.length=c.length)&&!a.isEmpty&&decide (a.length<=15)&&decide (kfs.map λq=>(Sum.inr q.1:ef)).Nodup&&decide (kfs.length<=15))=γ):ZE X B (.Dict a c pos) (CG kfs):=by erw[bA,bU,ik]at d;let#v[#v[#v[#v[#v[a1,e],b],f],i],j]:=d;show#v[ON (Vw h.p a1 e (λz=>by rw[z]at b;ext b) f) i j]
end
def abk{lo:Option Expr}{a:FO}[C:Cz X B k](c:ZE X B e f)(i:ZO X B lo a)(d:ZO X B h b):ZN X B (.Subscript e (.Slice lo h Z p) pos) (BI f a b):=#v[Nc (K6 (sl_X C.K) c.p i.p d.p)]
def abl{lo:Option Expr}[C:Cz X B k](a:ZE X B e f)(d:ZK X lo l)(b:ZK X c h):ZN X B (.Subscript e (.Slice lo c Z p) pos) (cSl f l h):=#v[Qk (K6 (sl_X C.K) a.p d.p b.p)]
def abm:ZK X (U (.Constant (.int y) j pos)) (U y):=#v[Se]
def abn:ZK X Z Z:=#v[adX]
#print "o L Lq Li;p T Wd VC" in def abϑ0 [C:Cz X B k](h:ZE X B e f):ZI X B a e (iϑ1 f):=#v[ϑ2 (ϑ3 B.G.K h.p C.K)]
#print "q D SC Wv;r S Wp Zw" in def abϑ0(h:ZE X B e f):ZI X B a e (iϑ1 f):=#v[ϑ2 (ϑ3 h.p)]
def abt(h:ZE X B o f)(a:Az X o "items")(b:Ez apos pos):ZI X B (.Tuple elts c p) (.Call (.Attribute o "items" apos) [] [] pos) (ω f):=#v[Qr (SN h.p a b)]
section
variable(hg:Gz X "zip")(hs:aE [e,e'] X.a8=[(δ,eval e X.a8),(δ,eval e' X.a8)])(hs2:S1 X e')
include hg hs hs2
theorem abu [C:Cz X B k][N:Nb B "zip"](b:ZA X B [e,e'] a):ZI X B (.Tuple c i d) (.Call (.Name "zip" p) [e,e'] [] pos) (iZ a):=#v[Ww (aaz hg (C.mg▸N.p) b.p hs hs2)]
end
section
def WU:ZH X B [] n G9:=#v[VR Vc]
def WV(d:ZG X B e n b)(f:ZH X B a n c)(h:(dw (e::a) X.a8).map (·.2)=assign e X.a8::(dw a X.a8).map (·.2)):ZH X B (e::a) n (yH b c):=#v[RO (QW d.p f.p h)]
def WW [C:Cz X B k](h:ZH X B a n b)(d:(dw a X.a8).length=f)(e:(dw a X.a8).findIdx? (·.1)=Z):ZG X B (.Tuple a i pos) n (gT b f):=#v[VS (VD B.G.K C.c h.p d e C.K)]
end
def tgN:Expr->aD
 |.Name x _=>[x]
 |.Tuple a _ _=>a.filterMap λe=>match e with|.Name x _=>U x|_=>Z
 |_=>[]
def cpN(X:Cx)(a:Expr)(eh:List Nat):aD:=tgN a++eh.map λj=>X.N.getD j ""
instance inCz [C:Cz X B k]{a:aD}{f:dg}{d:List (Str×Addr)}{A:Addr}{e:List Addr}{s:aq}{H:Hp}:Cz (xh X a f d A e s H) B k:=#v[C.P,C.w,C.K,C.mg,C.b,C.c,C.r]
def cpOk(X:Cx)(a:aD)(sc:dg)(n:Nat)(eh:List Nat):Bool:=decide eh.Nodup&&decide (sc.kind=.function)&&(sc.names.all λy=>y.2 != .cell)&&(sc.names.all λy=>y.2 != .local||sc.names.lookup y.1==U .local)&&(sc.names.all λy=>y.2 != .free||(X.a8.kindOf y.1==U .cell||X.a8.kindOf y.1==U .free))&&decide (a.length=n+eh.length)&&decide ((a.drop n).map U=eh.map λj=>X.N[j]?)&&((a.drop n).all λx=>sc.names.lookup x==U .free)
section
variable{s:FA}
 (h0:cpOk X (cpN X tg eh) sc n eh=γ) (hs:Fz X it) (hi:ZI X B tg it s)
 (h1:∀(cl:List (Str×Addr)) (A:Addr) (fp:List Addr) (s:aq) (H:Hp),ZG (xh X (cpN X tg eh) sc cl A fp s H) B tg n gg)
 (h2:∀(cl:List (Str×Addr)) (A:Addr) (fp:List Addr) (s:aq) (H:Hp),ZF (xh X (cpN X tg eh) sc cl A fp s H) B ifs ft)
 (h3:∀(cl:List (Str×Addr)) (A:Addr) (fp:List Addr) (s:aq) (H:Hp),ZE (xh X (cpN X tg eh) sc cl A fp s H) B e f)
include h0 hs hi h1 h2 h3
theorem abw [C:Cz X B k]:ZN X B (.ListComp e [#v[tg,it,ifs,0]] sc pos) (vS n eh s gg ft f):=by delta cpOk at h0;erw[bA,bU]at h0;let#v[#v[#v[#v[#v[#v[#v[a1,a],b],d],h],i],j],l]:=h0;show#v[RX a1 (VA C.c hi.p (λcl A fp s H=>#v[(h1 cl A fp s H).p,(h2 cl A fp s H).p,(h3 cl A fp s H).p]) a b d h i j l λx=>congrFun hs x)]
theorem cpW [C:Cz X B k](h:vr X i x=γ)(w:eL (.ListComp e [#v[tg,it,ifs,0]] sc pos) (U (.Name x p)) apos.line X.a8=pure γ):PS X (.Assign [.Name x p] (.ListComp e [#v[tg,it,ifs,0]] sc pos) apos) (Ee (G5 (S? B.G s) (tFG B.G n gg) (m? B.G ft) (tF B.G f) n eh) (Ab i))/\eh.Nodup:=by delta cpOk at h0;erw[bA,bU]at h0;let#v[#v[#v[#v[#v[#v[#v[a1,a],b],d],j],l],m],o]:=h0;let#v[q,r,t,u]:=GO h;show#v[Wn C.c q r t hi.p (λcl A fp s H=>#v[(h1 cl A fp s H).p,(h2 cl A fp s H).p,(h3 cl A fp s H).p]) a b d j l m o (λx=>congrFun hs x) w u,a1]
theorem abx [C:Cz X B k](h:vr X i x=γ)(a:eL (.ListComp e [#v[tg,it,ifs,0]] sc pos) (U (.Name x p)) apos.line X.a8=pure γ):ZS X B (.Assign [.Name x p] (.ListComp e [#v[tg,it,ifs,0]] sc pos) apos) (vR i (cL (vS n eh s gg ft f))):=by have z:=cpW h0 hs hi h1 h2 h3 h a;show#v[Sm z.2 z.1]
end
section
variable{st:Stmt}
def aec(c:ZE X B e f)(d:ZA X B b a)(h:Sz X e b):ZA X B (e::b) (ab f a):=#v[yz c.p d.p h]
def aed:ZA X B [] vG:=#v[zl]
def aby(c:ZE X B e f)(d:ZM X B b i a)(h:Sz X e b):ZM X B (e::b) i (ab f a):=#v[Qt c.p d.p h]
def abz(h:pa X i x=γ)(a:S1 X (.Name x p)):ZM X B [.Name x p] i vG:=#v[SQ (A? h) a]
def abA(h:pa X i x=γ):ZV X (.Name x p) i:=#v[A? h]
#print "e str str ZC;f int int Zz;g bool bl adz" in def aeϑ0:ZE X B (.Constant (.ϑ1 y) j pos) (cC (.ϑ2 y)):=#v[ϑ3]
def aeh:ZE X B (.Constant .none j pos) (cC .I):=#v[ZD]
def Tg(b:ZS X B st fs)(c:ZB X B sts a):ZB X B (st::sts) (a0 fs a):=#v[RI b.p c.p]
def aei(a:ZS X B st fs):ZB X B [st] fs:=#v[VP a.p]
def aej:ZB X B [] vJ:=#v[VO]
#print "C E f vz VQ;D N a xC RJ" in def abϑ0(h:Zϑ1 X B e ϑ2):ZS X B (.Return (U e) pos) (ϑ3 ϑ2):=#v[ϑ4 h.p]
def abE(h:ZE X B e f)(a:eL e Z pos.line X.a8=pure δ):ZS X B (.Expr e pos) (vY f):=#v[RK h.p a]
def abF(h:ZT X B e b)(c:ZB X B sts fs)(d:ZB X B sts' a):ZS X B (.If e sts sts' pos) (fx b fs a):=#v[Z3 h.p c.p d.p]
def abG:ZE X B e Hr:=#v[Ss]
def abH(h:ZA X B b a):ZN X B (.List b pos) (vL a):=#v[VM h.p]
def abI(h:ZA X B b a):ZE X B (.Tuple b c pos) (v8 a):=#v[Z0 h.p]
def abJ(c:ZE X B e f)(d:ZE X B a b):ZN X B (.BinOp e .Add a pos) (xi f b):=#v[Wg c.p d.p]
def abK [C:Cz X B k](c:ZE X B e f)(d:ZE X B a b):ZE X B (.BinOp e .Add a pos) (FQ f b):=#v[Wq c.p d.p C.K]
#print "L And xB ZU;M Or cOr adD" in def abϑ0(d:ZE X B e f)(h:ZE X B (.BoolOp .ϑ1 (a::b) pos) c):ZE X B (.BoolOp .ϑ1 (e::a::b) pos) (ϑ2 f c):=#v[ϑ3 d.p h.p]
def abN{op}(a:ZE X B e f):ZE X B (.BoolOp op [e] pos) f:=#v[ZR a.p]
def abO(a:ZE X B e f):ZE X B (.UnaryOp .Not e pos) (Gq f):=#v[ZZ a.p]
def abP(b:ZT X B e a):ZT X B (.UnaryOp .Not e pos) (zK a):=#v[VI b.p]
def abQ(h:ZT X B o c)(d:ZE X B e f)(i:ZE X B a b):ZE X B (.IfExp o e a pos) (Y? c f b):=#v[adE h.p d.p i.p]
def aek(h:ZT X B e a):ZF X B [e] a:=#v[Vz h.p]
def ael:ZF X B [] wJ:=#v[RY]
#print "B N a E cL Z1;R E f E Et aan;S T a T DI Wh" in def abϑ0(h:Zϑ1 X B e ϑ2):Zϑ3 X B e (ϑ4 ϑ2):=#v[ϑ5 h.p]
def abT(h:ZE X B e f):ZO X B (U e) (vu f):=#v[aau h.p]
def abU:ZO X B Z θ:=#v[aat]
def abV(f:ZT X B e c)(h:ZW X B (.BoolOp .Or (a::b) pos) d):ZW X B (.BoolOp .Or (e::a::b) pos) (Ah c d):=#v[RG f.p h.p]
#print "W Or VJ;X And RF" in def abϑ0(h:ZT X B e a):ZW X B (.BoolOp .ϑ1 [e] pos) a:=#v[ϑ2 h.p]
end
def abY [C:Cz X B k](j:jA (model X.prog X.w) X.A X.a8 X.xe)(m:X.N.length=n)(i:ZI X B d a s)(h:ZG X B d n e)(f:ZB X B body b)(l:Fz X a):ZS X B (.For d a body [] pos) (yA s e b):=#v[We (MK j C.c i.p h.p f.p λx=>congrFun l x)]
def abZ(f:jA (model X.prog X.w) X.A X.a8 X.xe)(d:ZT X B e a)(c:ZB X B body b):ZS X B (.While e body [] pos) (K' a b n):=#v[Qe n (QZ f d.p c.p)]
end
end L4
namespace L4
open PySem PySem.Spec PyProof.Rows L2 L3
open PySem.W (fnOf)
def D'(st:Stmt):aD:=(vH st).names.filterMap λy=>match y.2 with|.local=>U y.1|.cell=>U y.1|_=>Z
def N?(st:Stmt):aD:=(yT st).args.map (·.arg)
def okO(N a:aD)(st:Stmt)(b n:Nat):Bool:=decide ((vH st).kind=.function)&&(vH st).isCoroutine==δ&&(vH st).isGenerator==δ&&decide N.Nodup&&decide (N.take a.length=a)&&(a.all λx=>match (vH st).names.lookup x with|some .local=>γ|some .cell=>γ|_=>δ)&&((vH st).names.all λy=>y.2 != .free)&&decide (a.length=b)&&decide (N.length=n)
#print h
def r?{st:Stmt}(h:okO N ps st np n=γ):xc N ps (vH st)/\ps.length=np/\N.length=n:=by
 delta okO at h;erw[bA,bU,beq_iff_eq]at h;let#v[#v[#v[#v[#v[#v[#v[#v[a,b],c],d],f],i],j],l],m]:=h;refine#v[#v[a,b,c,d,f,λx o=>?_,λy p e=>?_],l,m]
 .have z:=bH.1 i x o;split at z
  .rename_i e;show .inl e
  .rename_i e;show .inr e
  .ext z
 .have z:=bH.1 j y p;rw[e]at z;show au z #[]
section
variable{B:Bz}[Y:Yb B]{st s0:Stmt}
#print f
abbrev Xn(B:Bz)(N:aD)(qual:Str)(st:Stmt)(l:List Stmt)(k:Nat)(b:FS):Prop:=∀{f:Addr} {cdv:aa} {A:bp} {b8:List Env} {s:aq} {H:Hp} {E:XK} [Cz (DJ B.P B.w B.G.K B.mg B.a7 N qual st f cdv A b8 s H E) B k],ZB (DJ B.P B.w B.G.K B.mg B.a7 N qual st f cdv A b8 s H E) B l b
omit Y in
def Xn.ok(h:Xn B N qual st l k b)(a:wa st=l):Bdy B.P B.w B.G.K B.mg B.a7 N qual st k (kb B.G b):=λf cdv A b8 s H E c=>by subst a;show(@h f cdv A b8 s H E #v[J,J,J,J,J,J,c]).p
def gF5(N:aD)(c:g=e? e n b)(q:GD B.G.K x st)(d:wa st=s0::l)(body:Xn B N x st (s0::l) k b)(S:okO N (N? st) st e n=γ:=by kernel_rfl)(a:N' x x st (N? st):=by (repeat intro _);rfl):Df B (k+1) x (gj B.G g):=
 #v[_,gF c Y.y q (r? S).1 (body.ok d) (r? S).2.1 (r? S).2.2 a]
#print "gw e? gj F;R' wh tp N'" in def ϑ0(c:g=ϑ1 e n b)(q:GD B.G.K x st)(d:wa st=s0::l)(body:Xn B (D' st) x st (s0::l) k b)(S:okO (D' st) (N? st) st e n=γ:=by kernel_rfl)(a:N' x x st (N? st):=by (repeat intro _);rfl):Df B (k+1) x (ϑ2 B.G g):=
 #v[_,gϑ3 c Y.y q (r? S).1 (body.ok d) (r? S).2.1 (r? S).2.2 a]
def gL4(c:g=z5 e n b)(q:GD B.G.K x st)(d:wa st=s0::l)(body:Xn B (D' st) x st (s0::l) k b)(S:okO (D' st) (N? st) st (e+1) n=γ:=by kernel_rfl)(a:N' x x st (N? st):=by (repeat intro _);rfl):Df B (k+1) x (Mi B.G g):=
 #v[_,gL c Y.y q (r? S).1 (body.ok d) (r? S).2.1 (r? S).2.2 a]
def gM4(d:g=ZY f n b)(q:GD B.G.K x st)(e:wa st=s0::l)(h:N? st=p::a)(body:Xn B (D' st) x st (s0::l) k b)(S:okO (D' st) (p::a) st (f+1) n=γ:=by kernel_rfl)(c:N' x x st (p::a):=by (repeat intro _);rfl):Df B (k+1) x (π B.G g):=
 #v[_,gM d Y.y q (r? S).1 (body.ok e) (jy (r? S).2.1) (r? S).2.2 c]
theorem nf(C:CF B.G.K (B.G.ca c) p)(h:g=e? o n b)(q:GM B.G.K (B.G.ca c) m qual st)(j:wa st=s0::l)(body:Xn B (D' st) qual st (s0::l) k b)(S:okO (D' st) (N? st) st o n=γ:=by kernel_rfl)(d:N' m qual st (N? st):=by (repeat intro _);rfl):BD B.G B.P B.w B.mg B.a7 (k+1) m c g:=by let#v[f,e,a,i,F]:=q;show#v[f,e,_,C.ci.cl,#v[a,i,F.kp],d.ok F,Sh h (r? S).2.1 (r? S).2.2 F (r? S).1 (body.ok j f)]
def μ(C:CF B.G.K (B.G.ca c) m)(a:jF B.G.K bR x=U (U (.ref (B.G.ca c))))(f:g=vf c i n b)(q:GM B.G.K (B.G.ca c) "__init__" qual st)(h:wa st=s0::l)(j:N? st=p::d)(body:Xn B (D' st) qual st (s0::l) k b)(S:okO (D' st) (p::d) st (i+1) n=γ:=by kernel_rfl)(e:N' "__init__" qual st (p::d):=by (repeat intro _);rfl):Kf B (k+1) x c g []:=
 #v[#v[_,gI f Y.y C a q (r? S).1 (body.ok h) (jy (r? S).2.1) (r? S).2.2 e],J]
def gJ4{dds:aV}(C:CF B.G.K (B.G.ca c) E)(a:jF B.G.K bR x=U (U (.ref (B.G.ca c))))(t:g=vf c w n b)(q:GJ B.G.K (B.G.ca c) qual st (dds.map vD))(u:wa st=s0::l)(A:N? st=p::e)(body:Xn B (D' st) qual st (s0::l) k b)(j:Nat)(S:okO (D' st) (p::e) st (w+1) n=γ:=by kernel_rfl)(f:dds.all yd=γ:=by rfl)
  (o:NB (dds.map vD).length λdl=>NB ((p::e).length - ((dds.map vD).drop j).length) λi=>∀(T:Addr) (kV doc z:aa) (m:Option Addr) (cdv r:aa),∃k,bindArgs (fnOf "__init__" qual (yT st) (wa st) (vH st) (.ref T) kV doc z m cdv r) #v[i,[]]=seqItems? (.ref T)>>=k/\k (U dl.toArray)=pure ((p::e).zip (i++dl.drop j)):=by (repeat intro _);show#v[_,J,J]):Kf B (k+1) x c g (dds.drop j):=
 #v[#v[_,by rw[gA];show gJ t Y.y C a q (r? S).1 (body.ok u) j (jy (r? S).2.1) (r? S).2.2 o],by
  rw[bH]at f ⊢;show λd h=>f d (kh h)]
def WX(n:Nat)(a:Nat->Addr):∀k,k<n->((bh n).map a).getD k 0=a k:=λk h=>by rw[bV,br,lR h];rfl
def injR{n:Nat}{a:Nat->Addr}(h:decide ((bh n).map a).Nodup=γ):∀j k,j<n->k<n->a j=a k->j=k:=λj k b c e=>by rw[<-WX n a j b,<- WX n a k c]at e;show Nx (ba h) (by exists b) (by exists c) e
def Ti:Nat->(Nat->Prop)->Prop
 |0,_=>True
 |n+1,Q=>Q 0/\Ti n λk=>Q (k+1)
theorem Ti.at:∀{n:Nat} {Q:Nat->Prop},Ti n Q->∀k,k<n->Q k
 |_+1,_,h,0,_=>h.1
 |_+1,_,h,k+1,a=>Ti.at h.2 k (Nat.lt_of_succ_lt_succ a)
end
end L4
namespace L2
open PySem PySem.Spec PyProof.Rows
section
def EH(H:Hp)(as:List Addr)(c:Hp):Prop:=(∀b,b∉as->c b=H b)/\∀a∈as,∃o kvs,H a=U (.dK kvs)/\c a=U (.k4 o (.dK kvs))
theorem b9.E'(I:b9 X d m H s):∀as:List Addr,(∀a∈as,∃kvs,H a=U (.dK kvs))->∃f,EH H as f/\b9 X d m f s
 |[],_=>#v[H,#v[λw w=>J,λw h=>nomatch h],I]
 |a::as,h=>by
  let#v[f,F,i]:=b9.E' I as λb c=>h b (.tail _ c);by_cases j:a∈as
  .calc#v[f,#v[λb c=>F.1 b λz=>c (.tail _ z),λb c=>?_],i];rcases aJ.1 c with rfl|c
   .show F.2 _ j
   .show F.2 _ c
  .let#v[kvs,e]:=h a (.head _);let#v[o,l]:=i.l? ((F.1 a j).t e);refine#v[_,#v[λb c=>?_,λb c=>?_],l]
   .rw[vt (λz:b=a=>c (by rw[z];show .head _))];show F.1 b λz=>c (.tail _ z)
   .by_cases hba:b=a
    .subst hba;show#v[o,kvs,e,vp]
    .rw[vt hba];rcases aJ.1 c with z|z
     .show au z hba
     .show F.2 b z
def Ci(H a:Hp)(as:List Addr):Hp:=λb=>if b∈as then H b else a b
#print h
theorem b9.thaws(I:b9 X pins σ H s)(F:EH H as H')(d:b9 X pins σ H1 f)(k:∀a∈as,H1 a=H' a):b9 X pins σ (Ci H H1 as) f:=by
 have two:∀{P:Option HO->Prop} {b:Addr},P (H b)->P (H1 b)->P (Ci H H1 as b):=λ{P b} p q=>by
  delta Ci;split
  .show p
  .show q
 have st:∀{b:Addr} {u:HO},er X.prog X.w H1 f.heap b u->er X.prog X.w (Ci H H1 as) f.heap b u:=λ{b u} x=>by
  have no:∀c v,(∀o kvs,v≠HO.k4 o (.dK kvs))->H1 c=U v->Ci H H1 as c=U v:=λc v n q=>by
   delta Ci;split
   .rename_i j;let#v[o,kvs,_,h]:=F.2 c j;rw[k c j,h]at q;show au (cZ q).symm (n o kvs)
   .show q
  show x.v? (λ_ _ _ q=>q) (λc q=>no c _ (λ_ _ z=>nomatch z) q) λc xs q=>no c _ (λ_ _ z=>nomatch z) q
 show {
  ok:=d.ok,os:=d.os,jl:=d.jl,B':=d.B',cell:=d.cell,len:=d.len
  a7:={
   keep:=d.a7.keep,slot:=d.a7.slot,there:=d.a7.there
   free:=λb o q n x=>two (P:=λz=>z=Z) (I.a7.free b o q n x) (d.a7.free b o q n x)
   n5:=λb xs q=>two (P:=λz=>z=_) (I.a7.n5 b xs q) (d.a7.n5 b xs q)
   tj:=λb o u q=>two (P:=λz=>z=_) (I.a7.tj b o u q) (d.a7.tj b o u q)
   u?:=λb ps q=>two (P:=λz=>∃more,z=U (.tbl (ps++more))) (I.a7.u? b ps q) (d.a7.u? b ps q) }
  free:=two (P:=λz=>z=Z) I.free d.free
  j?:=λx c q=>two (P:=λz=>z=Z) (I.j? x c q) (d.j? x c q)
  x4:=λp e=>#v[(d.x4 p e).1,two (P:=λz=>z=Z) (I.x4 p e).2.1 (d.x4 p e).2.1,(d.x4 p e).2.2]
  e8:=λb u q=>by
   delta Ci at q;split at q
   .rename_i i;let#v[o,kvs,l,h]:=F.2 b i;rw[l]at q;ext q;show st (show er X.prog X.w H1 f.heap b (.k4 o (.dK kvs)) from d.e8 b _ ((k b i).t h)).2
   .show st (d.e8 b u q) }
#print f
def PT.lend(h:PT X e t):PT X e (λi H Q=>∃as:List Addr,(∀a∈as,∃kvs,H a=U (.dK kvs))/\∀c,EH H as c->t i c λb f=>(∀a∈as,f a=c a)/\Q b (Ci H f as)):=λd s i H Q I #v[as,hd,m]=>by let#v[c,F,j]:=I.E' as hd;show fb (h d s i c _ j (m c F)) λb o #v[f,l,k,q]=>#v[_,I.thaws F l k,q]
end
end L2
namespace L4
open PySem PySem.Spec PyProof.Rows L2 L3
open PySem.W (fnOf)
section
variable{st:Stmt}
def ab0(l:X.N.length=n)(d:ZE X B e f)(h:ZG X B a n b)(i:swapsWithSole [a] e pos.line X.a8=pure δ)(j:swappedStores [a] e X.a8=pure Z)(c:(dw [a] X.a8).map (·.2)=[assign a X.a8]):ZS X B (.Assign [a] e pos) (JZ f b):=#v[VT (Zb d.p h.p i j c)]
def ab1 [C:Cz X B k][N:Nb B "int"](c:Gz X "int")(a:S1 X e)(b:ZE X B e f):ZE X B (.Call (.Name "int" p) [e] [] pos) (c1 ID f):=#v[Yk aal (ctI c #[] a PK sr (yz b.p zl a))]
end
end L4
namespace L4
open PySem PySem.Spec PyProof.Rows L2 L3
section
def WY:D->D->Option D
 |.M a _,.M [] _=>U (.bl (!a.isEmpty))
 |_,_=>Z
inductive Ys(x:V) (y:V) (H:Hp) (Q:VK):Prop
 |i (a b kvs) (h0:x=.ref a) (h1:y=.ref b) (h2:Rd H a (.dK kvs)) (h3:Rd H b (.dK [])) (h4:Q (.bl (!kvs.isEmpty)) H):Ys x y H Q
def rNeE:R2:=λx y H Q=>Ys x y H Q
def ab2(o:X.A.units<cLine):iE X (bD .NotEq) rNeE:=by
 intro f s E H x y v u Q I p t h;let#v[a,b,kvs,l,m,i,j,q]:=h;subst l m;cases (show v=Value.ref a from p);cases (show u=Value.ref b from t);let#v[z,hd,w,rel,dd]:=El I.e8 i;let#v[C,d,B,rel',c]:=El I.e8 j;ext rel';refine W.keq_ne hd d dd c o (r:=γ) (λe=>?_) ?_
 .cases w with
  |nil=>show .nil
  |cons _ _=>ext e
 .calc#v[.bl (!kvs.isEmpty),H,I,?_,q];change Value.bool _=Value.bool _;ext rel<;>rfl
def ab3:ki G rNeE WY:=λx y z C H v u Q e s i j k=>by
 cases x with
 |M b E=>
  cases y with
  |M d l=>
   cases d with
   |nil=>
    ext e;delta c3 at i j;let#v[p,w,h,rfl,m,o,F]:=i;let#v[A,f,B,rfl,c,q,t]:=j;refine#v[p,A,b.zip h,J,J,.inr #v[w,s _ _ m],.inr #v[f,?_],?_]
    .show s _ _ c
    .have:(b.zip h).isEmpty=b.isEmpty:=by
      cases b with
      |nil=>rfl
      |cons a r=>cases h with
       |nil=>cases o
       |cons _ _=>rfl
     rw[this];show k _ λn n=>ya _
   |cons _ _=>cases e
  |_=>cases e
 |_=>ext e
def Tj:PE X (.Dict [] [] pos) (Rt []):=PE.cx Cs λd H Q c p e=>by
 let#v[_,kvs,b,_,q]:=c p e;cases kvs with
 |nil=>
  have:el (el H p (.dK [])) p (.dK (Ct [] []))=el H p (.dK []):=by
   funext a
   delta el;split<;>rfl
  rw[this]at q;show q
 |cons _ _=>ext b
def Tn:PE X (.Dict [] [] pos) (tF G (CG [])):=ON Tj ir (bP _)
end
instance inNeE:F? .NotEq WY:=#v[λz z z u=>#v[_,ab2 (),ab3]]
def ab4:ZE X B (.Dict [] [] pos) (CG []):=#v[Tn]
def z4:isSubtype (.type "dict") (.type "dict")=pure γ:=by rw[jr];kernel_rfl
section
theorem Kh(N:A.handled=Z)(hd:(d==c6)=δ)(q:s.heap.get? d=U o)(p:o.cls=.type "dict")(hm:s.heap.DictAt (vB prog w) d kvs ep)(hn:kvs.length<=1000)
  (hQ:∀h2 h acc,~~~s<=h2.objs.size->(∀b o,s.heap.get? b=U o->h2.get? b=U o)->ItemsOf (λi v=>∃k x,kvs[i]?=U (k,x)/\(vB prog w).is k v=γ) acc kvs.length->Q acc.toList { s with heap:=h2,toks:=h }):av (model prog w) A (collect (.ref d)) Q E s:=by
 have hlt:=aQ q;let lO:Obj:={ cls:=.type "list", data:=.seq ([]:List aa).toArray };delta collect;calc ar (mM (eD px ?_));rw[eV pz _];change av _ A.in1 (newList []>>=λl=>again (.builtin "list.__iadd__" #v[[l,.ref d],[]])) _ _ s;calc ar (gn ?_);calc aC #v[fS kx _,eD qg ?_];rw[eV kx _];change av _ A.in1 (jW (.ref (~~~s)) (.ref d) (.ref (~~~s))) _ _ _;have t:(s.heap.push lO).get? d=U o:=aK _ q;have G:ju { s with heap:=s.heap.push lO } (.ref d) "dict" := #v[o,t,p];delta jW;calc ar (jx G ?_);rw[ai (by
  have:j5 (.ref (~~~s)) (.ref d)=δ:=by simp[j5];show λe=>au e (fz hlt)
  rw[this];decide)]
 have r:(s.heap.push lO).DictAt (vB prog w) d kvs ep:=hm.at' λo e=>aK _ e;calc ar (qd (knd:=vB prog w) (kvs:=kvs) (ep:=ep) hd r ?_);let h3:=(s.heap.push lO).push { cls:=.type "dict_keyiterator", data:=.fields #[.ref d,.int 0 0,.int kvs.length 0,.int ep 0] };have c:ju { s with heap:=h3 } (.ref d) "dict" := #v[o,aK _ t,p];have m:(s.heap.push lO).objs.size= ~~~s+1:=c5 _ _;have L3:h3.get? (~~~s)=U lO:=aK _ (bz _ J);have u:h3.IsKeyIter (~~~s+1) d 0 kvs.length ep:=#v[_,by rw[<-m];show bz _ J,J,J];have B:h3.DictAt (vB prog w) d kvs ep:=r.at' λo e=>aK _ e;have y:∀b o,s.heap.get? b=U o->h3.get? b=U o:=λb o e=>aK _ (aK _ e);change av _ A.in1 (holding [.ref (s.heap.push lO).objs.size] (jX (.ref d))>>=_) _ _ { s with heap:=h3 };rw[m];calc ar (dt ?_);delta jX;calc ar (iq c F.slot_dict_len.lookup ?_);generalize hid:("dict.__len__" : String)=f;wp_delta;rw[show splitId f=U ("dict", "__len__") from by subst hid;decide +kernel];subst hid;calc ar (mD c z4 ?_);dsimp only;rw[ai #[],af (by decide +kernel)];calc ar (jx c ?_);calc aC ?_;rw[af (by decide +kernel)];calc ar (nX ?_);calc ar ?_;change av _ A.in1 (updateSeq (~~~s) (·.push .none)>>=λn=>updateSeq (~~~s) (·.pop)) _ _ _
 calc ar (jo L3 J ?_);have j:=eU (c7 (·.push Value.none)) L3 J
 calc jo j J ?_;have C:=eU (c7 (·.pop)) j J
 have W1:∀b o,b≠~~~s->h3.get? b=U o->((h3.update (~~~s) (c7 (·.push Value.none))).update (~~~s) (c7 (·.pop))).get? b=U o:=
  λb o a e=>(gd _ _ (cg a)).t ((gd _ _ (cg a)).t e)
 have hne:d≠~~~s+1:=bf (dJ hlt);have hSf: ~~~s∉[~~~s+1,d]:=by
  intro z;rcases aJ.1 z with z|z
  .show au z (bf (cY _))
  .show au (aN.1 z) (fz hlt)
 have W:=(qW (prog:=prog) (w:=w) (knd:=vB prog w) (A:=A.in1) (by simp[N]) (~~~s+1) d hne kvs ep).toS;refine aC #v[fS pT _,pH W (by rw[bS];omega) _ hSf _ kvs.length 0 _ _ _ J (bP _)
  #v[u.at λo e=>W1 _ o (fz (cY _)) e,B.at' λo e=>W1 _ o (bf hlt) e] C (su _) λs' acc' P hm hS' hacc=>?_]
 change av _ A (load (~~~s)>>=_) _ _ s';calc ar (nQ hS' ?_);let#v[h2,g2,d2,h,O]:=s';have I:g2=s.gens:=hm.gens;have H:d2=s.drawn:=hm.drawn;have M:O=s.os:=hm.os;subst I H M;calc aC (hQ h2 h acc' (gG (aQ hS')) (λb o e=>?_) hacc);have a:=aQ e;show hm.heap b o (λz=>by
  rcases aJ.1 z with z|z
  .show au z (bf a)
  .show au (aN.1 z) (bf (dJ a))) (W1 b o (bf a) (y b o e))
theorem OW:∀(vs:List aa) (a:aD),vs.length=a.length->(∀(j:Nat) (v:aa) (z:Str),vs[j]?=U v->a[j]?=U z->∃t,v=.str z t)->kg vs a
 |[],[],_,_=>.nil
 |v::vs,z::a,h,k=>by let#v[t,rfl]:=k 0 v z J J;show .cons z t (OW vs a (jy h) λj=>k (j+1))
 |[],_::_,h,_=>by cases h
 |_::_,[],h,_=>by ext h
def LU{c:aD}(O:A.handled=Z)(hd:(d==c6)=δ)(R:s.heap.get? d=U o)(M:o.cls=.type "dict")(hm:s.heap.DictAt (vB prog w) d kvs ep)(hn:kvs.length<64)(t:kvs.map aj=c.map Sum.inr)
  (hQ:∀p h2 a out e,~~~s<=p->(∀b o,s.heap.get? b=U o->h2.get? b=U o)->kg out (FY c)->h2.get? p=U (seqObj "list" out.toArray e)->Q (.ref p) { s with heap:=h2,toks:=a }):av (model prog w) A (call (.builtin "sorted") [.ref d]) Q E s:=by
 calc lF nM ng ni (nu _) ?_;delta dA.«sorted»;calc ar (m:=checkCount "sorted" 1 1 _) (aC ?_);calc ar (Kh (by simp[O]) hd R M hm () λh2 a acc S T h=>?_);have P:acc.toList.length=c.length:=by have:=aW cD t;rw[ah,ah]at this;rw[bL,h.1,this]
 have hS:kg acc.toList c:=OW _ _ P λj v z q G=>by
  rw[cp]at q;let#v[k,x,H,I]:=h.2 j v q;have r:(kvs.map aj)[j]?=U k:=by rw[br,H];rfl
  rw[t,br,G]at r;ext r;show Dl I
 have f:acc.toList.length<64:=by rw[bL,h.1];show hn
 calc ar (kH ?_);have hoL:(h2.push (seqObj "list" acc.toList.toArray 0)).get? h2.objs.size=U (seqObj "list" acc.toList.toArray 0):=bz _ J;change av _ _ _ _ _ { s with heap:=h2.push (seqObj "list" acc.toList.toArray 0),toks:=a };calc ar (dt (fN mO #v[_,hoL,J] mH (qM rB hoL hS.keysOf (λu y eu e=>keyKind_strs (by rw[<-e];show hS)) f λi a1 B=>#v[_,J,?_]) (mP _)));let#v[W,l,C,F]:=qY hS a1 B;rw[ND C F]at l;let#v[e,N]:=rD (vs:=acc.toList) (out:=(arrOf i).map (·.2)) hoL
 calc aC #v[_,J,hQ h2.objs.size _ a _ e S (λb o z=>?_) l N];have:=T b o z;rw[qZ (bf (aQ this)) (by rw[c5];show dJ (aQ this))];show aK _ this
end
section
def Ki(E:X.k3=γ):xA X (.builtin "sorted") (λx H Q=>∃(a:Addr) (o:Obj) (kvs:List (ef×V)) (b:aD),x=[.ref a]/\H a=U (.k4 o (.dK kvs))/\kvs.map aj=b.map Sum.inr/\b.length<64/\∀p,H p=Z->Q (.ref p) (el H p (.ax ((FY b).map V.str)))):=by
 intro t s σ H x us Q I r h;let#v[a,o,kvs,b,rfl,F,l,C,q]:=h;let#v[u,rfl,S]:=lq r;ext S;let#v[f,_,y,c,r,ob,B,T,i,j,z,A]:=(show er X.prog X.w H s.heap a (.k4 o (.dK kvs)) from I.e8 a _ F);rw[f]at i;ext i;have Y:kvs.length=c.length:=r.length;have d:=aW cD l;rw[ah,ah]at d;have R:∀{kvs:List (ef×V)} {c:List (ef×aa)},KV kvs c->c.map aj=kvs.map aj:=λ{kvs c} r=>by
  induction r with
  |nil=>rfl
  |cons h _ N=>rw[aA,aA,N,show _=_ from h.1]
 calc LU (I.ok.hd E) y f j.1 #v[o,B,f,j,z,A] () ((R r).t l) λp W O out e m P M G=>?_;calc#v[.ref p,_,I.laid (t':=O) P m ?_,J,q _ (I.e8.fresh m)];calc#v[?_,out,e,Yq M,G];rw[ah,show (FY b).length=b.length from(lU b P?).length_eq,bS];omega
def F0:List ef->Option aD
 |[]=>U []
 |.inr x::a=>(F0 a).map (x::·)
 |_=>Z
theorem LV:∀{b:List ef} {a:aD},F0 b=U a->b=a.map Sum.inr
 |[],a,e=>by ext e;rfl
 |.inl _::_,a,e=>by cases e
 |.inr x::b,a,e=>by
  delta F0 at e;cases c:F0 b with
  |none=>rw[c]at e;cases e
  |some l=>rw[c]at e;ext e;rw[LV c];rfl
def Fn(f:FE):FA:=λd=>match f d with
 |some (.M c e,a)=>match F0 c with
  |some b=>if b.length<64 then U ((FY b).map D.str,a)else Z
  |none=>Z
 |_=>Z
#print h
def LW(h:PE X e (tCB (λq H Q=>∃(a:Addr) (o:Obj) (kvs:List (ef×V)) (c:aD),q=[.ref a]/\H a=U (.k4 o (.dK kvs))/\kvs.map aj=c.map Sum.inr/\c.length<64/\∀p,H p=Z->Q (.ref p) (el H p (.ax ((FY c).map V.str)))) (sh G (ab f vG)))):PE X e (y0 G (Fn f)):=PE.cx h λS H Q x=>by
 let#v[F,B,r,M,C,R,e,k]:=x;delta Fn at e;split at e
 .rename_i l u E w;cases i:F0 l with
  |none=>erw[i]at e;cases e
  |some c=>
   erw[i]at e;split at e
   .rename_i j;ext e;calc#v[F,B,r,[.M l u],_,R,by delta ab;rw[w];rfl,λP I t s b rs=>?_];let#v[v,N,rfl,m,A]:=Ae rs;cases By A;delta c3 at m;let#v[a,o,q,rfl,y,z,O]:=m;refine#v[a,o,_,c,J,b.sub _ _ y,?_,j,λp d=>?_]
    .rw[qv (m5 z)];show LV i
    .show k p _ _ _ s (b.gi d _) vp (b.ey d) (b.gr d) (b.apart d) (HH _)
   .ext e
 .ext e
end
#print f
section
def ab5 [C:Cz X B k][N:Nb B "sorted"](a:S1 X e)(d:Gz X "sorted")(b:ZE X B e f):ZN X B (.Call (.Name "sorted" p) [e] [] pos) (Fn f):=#v[LW (cbI d #[] a (Ki C.c) nN (yz b.p zl a))]
end
theorem OX{f:Type}[DecidableEq f]:∀{l L:List f},l.Nodup->(∀x∈l,x∈L)->l.length<=L.length
 |[],L,_,_=>bP _
 |a::l,L,i,h=>by have c:=h a aX;have b:=cu.1 i;have:=OX b.2 λx d=>(lQ (λe:x=a=>b.1 (by rw[<-e];show d))).2 (h x (bg _ d));rw[oZ c]at this;have:=pb c;rw[aL];omega
structure Tb(t:cH)(m n:Nat):Prop where
 mask:t.mask=m
 dm:t.dummies=[].toArray
 pl:t.place.size=n
section
variable{t:cH}
theorem Tb.slot(T:Tb t m n)(j:Nat):(∃i,t.slot j=.live i/\t.place[i]?=U j)\/t.slot j=.empty:=by
 delta rE;by_cases h:(t.place[bO t.place j]?==U j)=γ
 .left;erw[h,if_true];show#v[_,J,gO h]
 .right;rw[qB]at h;rw[T.dm];simp[h,rR]
def Tb.free(T:Tb t m n)(h:n<=m):∃r,r<=m/\t.slot r=.empty:=by
 apply hU;intro no;have:(bh (m+1)).length<=t.place.toList.length:=OX mC λr a=>by
  rcases T.slot r with ⟨i,_,e⟩|e
  .rw[<-cp]at e;show ck e
  .show au #v[r,by have:=bY.1 a;omega,e] no
 rw[cI,bL,T.pl]at this;omega
def p'(t:cH):Nat->dE->Prop
 |0,_=>False
 |f+1,p=>t.slot p.j=.empty\/p' t f (t.advance p)
theorem p'.mono:∀{f a:Nat} {p:dE},p' t f p->f<=a->p' t a p
 |0,_,_,h,_=>h.elim
 |f+1,0,_,_,h=>au h ()
 |f+1,a+1,p,h,b=>h.imp id λh=>h.mono ()
def rs(m i q:Nat):dE:=#v[i,cM m i - i,i,q,Z]
def ab6(m i:Nat):cM m i - i<=9:=by delta cM;split<;>omega
theorem p'.run(T:Tb t m n)(h:p' t f (rs m ((i * 5+1+q / 32) % (m+1)) (q / 32))):∀(k j:Nat),p' t (f+k+1) #v[j,k,i,q,Z]
 |0,j=>.inr (by
   have e:t.advance #v[j,0,i,q,Z]=rs m ((i * 5+1+q / 32) % (m+1)) (q / 32):=by delta ip rF;rw[T.mask];rfl
   rw[e];show h)
 |k+1,j=>.inr (by
   have e:t.advance #v[j,k+1,i,q,Z]=#v[j+1,k,i,q,Z]:=by delta ip;rw[af (fC k)];rfl
   rw[e];show p'.run T h k (j+1))
def p'.leap(T:Tb t m n)(h:p' t f (rs m ((i * 5+1+q / 32) % (m+1)) (q / 32))):p' t (f+10) (rs m i q):=
 (p'.run T h (cM m i - i) i).mono (by have:=ab6 m i;omega)
def orb(m:Nat):Nat->Nat->List Nat
 |0,_=>[]
 |k+1,i=>i::orb m k ((i * 5+1) % (m+1))
theorem p'.orb(T:Tb t m n)(a:t.slot r=.empty):∀(k i:Nat),r∈orb m k i->p' t (10 * k) (rs m i 0)
 |0,i,h=>by cases h
 |k+1,i,h=>by
  rcases aJ.1 h with e|h
  .show p'.mono (f:=1) (.inl (by rw[e]at a;show a)) ()
  .have:=p'.leap T (q:=0) (p'.orb T a k _ h);show this.mono ()
def Kj{p:dE}(h:p.dummy=Z):(t.advance p).dummy=Z:=by delta ip;split<;>show h
end
def ab7(e:∀i,F i=F' i)(g:Nat)(p:dE):eZ t F h g p=eZ t F' h g p:=by obtain rfl:F=F':=funext e;rfl
section
variable{E:aa->aq->Prop}
def To(b:∀v∈l,∃k a,v=.ref a/\TK prog w s.heap k a)(f:TK prog w s.heap j i)(h:Q δ s):av (model prog w) A (searchCouldBeSeen (.ref i) l) Q E s:=by
 calc ar ?_;refine ky _ (λeu r d=>r=(Z,Unit.unit)/\d=s/\∀v∈eu,∃k a,v=.ref a/\TK prog w s.heap k a) _ ?_ ?_ _ _ #v[J,J,b]
 .rintro v eu r d ⟨rfl,rfl,hall⟩;let#v[k,a1,rfl,b]:=hall v aX;have e:=λu c=>hall u (bg _ c);dsimp only;split
  .show aC #v[J,J,e]
  .calc ar (pA f ?_);calc ar (pA b ?_);calc ar (OK f ?_);calc ar (OK b ?_);show aC #v[J,J,e]
 .rintro r d ⟨rfl,rfl,_⟩;show aC h
end
def Nn(ow:Array (Option Nat))(j:Nat):Prop:=(ow.getD j (U 0)).isNone=γ
section
def lv(a:Array (Option Nat)):List (Nat×Nat):=(bh 32).filterMap λj=>(a.getD j Z).map (j,·)
end
def T1(m n:Nat):Prop:=(m=7/\n<=4)\/(m=31/\n<=18)\/(m=127/\19<=n/\n<=63)
section
theorem Tq(d:TK prog w s.heap (Sum.inr x::p) a)(h:Q δ s):av (model prog w) A (hashByValue 8 (.ref a)) Q E s:=by
 have hT:=d.typeIs;let#v[o,items,n,i,_,hd,c]:=d;calc ar (iq hT F.slot_tuple_hash.lookup ?_);calc ar (mL i hd ?_);calc ar ?_;change av _ _ (forIn items _ _) _ _ s;rw[<-pZ];generalize items.toList=l at c ⊢;cases c with
 |@cons _ v _ j f m=>
  let#v[t,rfl]:∃t,v=.str x t:=Dl f;refine ky _ (λeu r b=>b=s/\∃u,eu=.str x t::u) _ ?_ ?_ _ _ #v[J,j,J]
  .rintro v eu r b ⟨rfl,u,e⟩;ext e;calc ar (aC ?_);show aC (aC h)
  .rintro r b ⟨rfl,u,e⟩;ext e
end
structure CJ(h:Heap)(S:Addr)(L:List (List ef×Addr))(led:Bool)(n:Nat)(o:Obj)(es:Array (Int×aa))(ep:Nat)(t:cH):Prop where
 k0:h.get? S=U o
 ex:o.ExactSet
 d:o.data=.set es ep t
 c:∃m,Tb t m n/\T1 m n
 led:t.led=led
 pl:0<n->t.plain=δ
 p:(es.toList.map cb).Perm (L.map λq=>Value.ref q.2)
def CJ.sz{h:Heap}{S:Addr}{L:List (List ef×Addr)}{led:Bool}{n:Nat}{o:Obj}{a:Array (Int×aa)}{b:Nat}{t:cH}(x:CJ h S L led n o a b t):a.size=L.length:=by have:=x.p.length_eq;rw[ah,ah,bL]at this;show this
theorem CJ.fits{h:Heap}{S:Addr}{L:List (List ef×Addr)}{led:Bool}{n:Nat}{o:Obj}{a:Array (Int×aa)}{b:Nat}{t:cH}(x:CJ h S L led n o a b t)(d:L.length=n):t.fits a.size=γ:=by let#v[m,T,c]:=x.c;delta iy mY;rw[x.sz,d,T.pl,T.dm,T.mask,bA];show#v[by simp,aM (by delta T1 at c;simp;omega)]
theorem Kk{b:Type}:∀(l:List b) (j:Nat) (x:b),l[j]?=U x->(x::l.eraseIdx j).Perm l
 |[],j,x,h=>by cases h
 |a::l,0,x,h=>by ext h;show .refl _
 |a::l,j+1,x,h=>(List.Perm.swap a x _).t (List.Perm.cons a (Kk l j x h))
theorem OY{b:Type}(a:Nat->Nat):∀(f k:Nat) (l:List b) (out:Array b),l.length=f->(rS a f k l out).toList.Perm (out.toList++l)
 |0,k,l,out,h=>by obtain rfl:=ib.1 h;rw[bF];show .refl _
 |f+1,k,l,out,h=>by have hlt:a k % l.length<l.length:=eK _ ();have e:l[a k % l.length]?=U l[a k % l.length]:=aI hlt;delta rS;rw[e];calc(OY a f (k+1) _ _ (by rw[pI,af hlt];omega)).t ?_;rw[mj,bN];show List.Perm.append_left _ (Kk l _ _ e)
def Ju{c:Type}(b:Nat->Nat)(a:Array c):(pickOrder b a).toList.Perm a.toList:=OY b a.size 0 a.toList [].toArray bL
section
def WZ(hn:n≠0)(h:∀i d,i<n->Q i { s with drawn:=d }):av (model prog w) A (choose src n) Q E s:=λΓ p hΓ=>by change Sem.wp _ Γ (.choose src n .pure) _ _ p s;rw[Sem.wp_choose];show#v[hn,h _ _ (eK _ (Nat.pos_of_ne_zero hn))]
theorem OZ{α:Type}:∀(n:Nat) (xs:List α) (s:aq) {Q:List α->aq->Prop},xs.length=n->(∀c d,c.Perm xs->Q c { s with drawn:=d })->av (model prog w) A (drawOrder n xs) Q E s
 |0,xs,s,Q,b,h=>by obtain rfl:=ib.1 b;delta drawOrder;show aC (h [] s.drawn (.refl _))
 |n+1,[],s,Q,b,h=>by cases b
 |n+1,a::xs,s,Q,b,h=>by delta drawOrder;calc ar (WZ (by simp) λi d hi=>?_);have e:(a::xs)[i]?=U (a::xs)[i]:=aI hi;rw[e];calc ar (OZ n _ _ (by rw[pI,af hi];omega) λc f p=>?_);show aC (h _ f ((List.Perm.cons _ p).t (Kk _ _ _ e)))
end
#print "yX next__;EI iter__" in def ϑ0:Slot "set_iterator" "__ϑ1" "set_iterator.__ϑ1" :=
 .of (owner:="set_iterator") (n:="__ϑ1") (by rw[qN,pB];kernel_rfl) (by decide +kernel) (by decide +kernel) (by decide +kernel)
  (by first|show .inl (by decide +kernel)|show .inr (by decide +kernel)) (by rw[jr];kernel_rfl)
def IH:entryFor table "set_iterator.__next__" = U dA.«set_iterator.__next__»:=entryFor_of_tree (by kernel_rfl)
def LX:Manifest.owners.lookup (String.ofList ['r','o','t','a','r','e','t','i','_','t','e','s'].reverse)=U Manifest.sig_set_iterator:=by kernel_rfl
def Kl(a:aa):argsOk "set_iterator.__next__" #v[[a],[]]:=by delta argsOk;rw[rG (id:="set_iterator.__next__") (n:=['_','_','t','x','e','n','_','_']) (o:=['r','o','t','a','r','e','t','i','_','t','e','s']) (by kernel_rfl) LX];kernel_rfl
def Km:entryFor table "set.__iter__" = U dA.«frozenset.__iter__»:=mN (id':="frozenset.__iter__") (by kernel_rfl) J (by decide +kernel) (by kernel_rfl)
inductive Md(w:aR) (h:Heap) (S TP:Addr) (i:Nat) (ord:List aa) (es:Array (Int×aa)) (ep:Nat) (t:cH):aa->Prop
 |txt {sl:Int} {tk:Tok}:w.params.followText "set-order" = γ->ord=(pickOrder (w.params.setOrder S ep) es).toList.map cb->Md w h S TP i ord es ep t (.int sl tk)
 |drw {ps:List Nat} {vs:Array aa} {ot:Obj} {nt:Nat}:w.params.followText "set-order" = δ->h.get? TP=U ot->ot.cls=.type "tuple" -> ot.data=.seq vs nt->vs=(ps.map λp:Nat=>rawInt p).toArray->ps.Perm (bh es.size)->ord=ps.filterMap (λp=>es[p]?.map cb)->Md w h S TP i ord es ep t (.ref TP)
 |one {sl:Int}:w.params.followText "set-order" = δ->es.size<=1->t.led=γ->(i=0->sl=0)->(∀j,i=1->t.place=#[j]->sl=(j+1:Nat))->ord=es.toList.map cb->Md w h S TP i ord es ep t (.int sl 0)
structure ItS(w:aR)(I S TP:Addr)(ord:List aa)(o:Obj)(es:Array (Int×aa))(ep:Nat)(t:cH)(i:Nat)(h:Heap):Prop where
 it:∃oi first,h.get? I=U oi/\oi.cls=.type "set_iterator" /\ oi.data=.fields #[first,.int i 0,.ref S,.int es.size 0,.int ep 0]/\Md w h S TP i ord es ep t first
 k0:h.get? S=U o
 dq:o.data=.set es ep t
 fq:t.fits es.size=γ
section
variable{s:aq}{I S TP:Addr}
def Fo(h:Q (w.params.followText "set-order") s):av (model prog w) A setsByText Q E s:=by show ar (mB (aC h))
def NG(x:ItS w I S TP ord o a d t i s.heap)(N:Md w s.heap S TP i ord a d t (.int y tk))(H:i<=1\/w.params.followText "set-order" = γ)
  (hQ:∀(v:aa) (u:Nat),ord[i]?=U v->Md w s.heap S TP (i+1) ord a d t (.int u 0)->Q (U (v,u)) s) (hN:ord[i]?=Z->Q Z s):av (model prog w) A (setNext S y.toNat i d) Q E s:=by
 calc ar (dO x.k0 x.dq x.fq ?_);calc ar (Fo ?_);cases N with
 |txt b f=>
  rw[b,af J];rw[ai (by simp)];calc ar ?_;calc ar (dO x.k0 x.dq x.fq ?_);calc ar (Fo ?_);rw[b,af J];calc ar (mB ?_);calc aC ?_;calc aC ?_;change Q (kW (λe=>(e.snd,y.toNat)) (pickOrder (w.params.setOrder S d) a)[i]?) s;have e:ord[i]?=((pickOrder (w.params.setOrder S d) a)[i]?).map cb:=by rw[f,br,cp]
  cases r:(pickOrder (w.params.setOrder S d) a)[i]? with
  |none=>rw[r]at e;show hN e
  |some q=>rw[r]at e;show hQ q.2 _ e (.txt b f)
 |one b f p C F h=>
  have fs:=by have:=x.fq;delta iy at this;rw[bA,beq_iff_eq]at this;show this.1
  rw[b,ai #[]];rw[ai (λG=>by
   have:(!t.plain&&decide (a.size > 1))=γ:=G;simp at this;omega)]
  calc ar ?_;wp_delta;rw[ai (by rw[p];simp)];calc aC ?_;calc aC ?_;have c:a.size=0\/a.size=1:=by omega
  rcases c with c|c
  .have B:=Array.eq_empty_of_size_eq_zero c;subst B;show hN (by rw[h];rfl)
  .let#v[e,rfl]:=pC.1 c;let#v[j,l]:=pC.1 (fs.t c);rw[l];have M:=H.resolve_right λe=>by rw[b]at e;ext e
   have:i=0\/i=1:=by omega
   rcases this with rfl|rfl
   .rw[C J];change Q (match #[e][bO #[j] 0]?,#[j][bO #[j] 0]? with|some (_,x),U j=>U (x,j+1)|_,_=>Z) s;rw[show bO #[j] 0=0 from by simp[bO,il]];show hQ e.2 (j+1) (by rw[h];rfl) (.one b f p (λz=>by ext z) (λO n m=>by rw[l]at m;ext m;rfl) h)
   .rw[F j J l];change Q (match #[e][bO #[j] (j+1)]?,#[j][bO #[j] (j+1)]? with|some (_,x),U j=>U (x,j+1)|_,_=>Z) s;rw[show bO #[j] (j+1)=1 from by simp[bO,il]];show hN (by rw[h];rfl)
def ItS.ty(x:ItS w I S TP ord o e d t i s.heap):s.TypeIs (.ref I) "set_iterator" := let #v[#v[c,_,a,b,_],_,_,_]:=x;#v[c,a,b]
def ItS.ordlen(x:ItS w I S TP ord o a m t i s.heap):ord.length=a.size:=by
 let#v[#v[q,first,_,_,_,l],_,_,_]:=x;cases l with
 |txt d b=>rw[b,ah,(Ju _ a).length_eq,bL]
 |drw d b e f h c j=>rw[j,(c.filterMap _).length_eq];have:=lH a;rw[show (bh a.size).filterMap (λp=>a[p]?.map cb)=((bh a.size).filterMap λp=>a[p]?).map cb from(p8 ..).symm,this,ah,bL]
 |one d b e f h c=>rw[c,ah,bL]
theorem Tr{b d:Type}(f:b->Option d):∀(a:List b),(∀p∈a,∃v,f p=U v)->∀i:Nat,(a.filterMap f)[i]?=a[i]?.bind f
 |[],_,i=>rfl
 |p::a,h,i=>by
  let#v[v,e]:=h p aX;rw[dF,e];cases i with
  |zero=>change U v=f p;rw[e]
  |succ i=>show Tr f a (λq c=>h q (bg _ c)) i
def Md.mv(m:Md w h S TP i ord d c t (.int o tk)):Md w p S TP i ord d c t (.int o tk):=by
 cases m with
 |txt a b=>show .txt a b
 |one a b e f j l=>show .one a b e f j l
def O0{B:bp}{R:Fin->aq->Prop}{a:aq}{Q:Option aa->aq->Prop}(c:B.handled=Z)(hN:∀h',(∀b o,a.heap.get? b=U o->h'.get? b=U o)->Q Z { a with heap:=h' }):
  av (model prog w) B (do let e<-newExc (.type "StopIteration") [];raiseNew e) R (λe s'=>av (model prog w) A (do if<-isInstance e (.type "StopIteration")then pure Z else throw e) Q E s') a:=by
 calc ar ?_;erw[newExc,newTuple];calc ar (gn ?_ (by size_fits));calc ar (wpAny_of_eq (by first|rfl|(erw[firstArgMember];rfl)) ?_);calc gn ?_ (by size_fits);erw[raiseNew];calc ar (wpAny_handled ?_);rw[c];calc ar (aC (wpAny_throw ?_));calc ar (mD #v[_,bz _ J,J] isSubtype_stop ?_);show aC (hN _ λb o e=>aK _ (aK _ e))
def Ts(u:A.handled=Z)(x:ItS w I S TP ord o es ep t i s.heap)(hi:i<=ord.length)(hS:S≠I)(hT:TP≠I)
  (hQ:∀v h',ord[i]?=U v->gH I s.heap h'->ItS w I S TP ord o es ep t (i+1) h'->Q (U v) { s with heap:=h' }) (hN:∀h',ord[i]?=Z->Heap.ExtBut I s.heap h'->Q Z { s with heap:=h' }):
  av (model prog w) A (pyNext (.ref I)) Q E s:=by
 have B:=x.ordlen;let#v[z,first,hoi,hci,hdi,hm]:=x.it;calc ar (wpAny_attempt (wpAny_callSpecial?_slot x.ty yX (fN yX x.ty IH ?_ (Kl _))));change av _ _ (fieldsOf (.ref I)>>=_) _ _ s;calc ar (wpAny_fieldsOf hoi hdi ?_);calc ar ?_;calc ar (dO x.k0 x.dq x.fq ?_);calc aC ?_;rw[ai (by simp)];erw[ig];have byint:∀(sl:Int) (tk:Tok),first=.int sl tk->(i<=1\/w.params.followText "set-order" = γ)->av (model prog w) A.in1 (do
   let r<-setNext S sl.toNat i ep
   match r with
    |some (x,next)=>do
     setField (Value.ref I) 0 (rawInt ↑next)
     setField (Value.ref I) 1 (rawInt (↑i+1))
     ret x
    |none=>do
     setField (Value.ref I) 2 Value.none
     let e<-newExc (Value.type "StopIteration") []
     raiseNew e) (λfin s'=>∃v,fin=Fin.done (Flow.ret v)/\av (model prog w) A (pure (U v)) Q E s') (λe s'=>av (model prog w) A (do if<-isInstance e (.type "StopIteration")then pure Z else throw e) Q E s') s:=λsl tk e l=>by
  subst e;refine ar (NG x hm l (λv nx a m=>?_) λa=>?_)
  .calc ar (iu hoi hdi (by simp) ?_);have g1:=eU (gB (·.setIfInBounds 0 (rawInt (nx:Int)))) hoi (ka (fL hdi _))
   have d1:=fL hdi (·.setIfInBounds 0 (rawInt (nx:Int)))
   calc ar (iu g1 d1 (by simp) ?_);have g2:=eU (gB (·.setIfInBounds 1 (rawInt ((i:Int)+1)))) g1 (ka (fL d1 _))
   have d2:=fL d1 (·.setIfInBounds 1 (rawInt ((i:Int)+1)))
   have sb:=(eW s.heap I (gB (·.setIfInBounds 0 (rawInt (nx:Int))))).t (eW _ I (gB (·.setIfInBounds 1 (rawInt ((i:Int)+1)))))
   refine aC #v[v,J,aC (hQ v _ a sb #v[#v[_,.int nx 0,g2,(ml ..).t ((ml ..).t hci),?_,m.mv],?_,x.dq,x.fq])]
   .rw[d2];simp[rawInt]
   .rw[sb.2 S hS];show x.k0
  .calc ar (iu hoi hdi (by simp) ?_);show O0 (by simp[u]) λh' k=>hN h' a λb o f e=>k b o (by rw[(eW ..).2 b f];show e)
 cases hm with
 |txt h1 h2=>show byint _ _ J (.inr h1)
 |one h1 h2 h3 h4 h5 h6=>show byint _ _ J (.inl ())
 |@drw ps vs ot nt h1 h2 h3 h4 h5 h6 h7=>
  calc ar (mL h2 h4 ?_);have al:∀p∈ps,∃v,(es[p]?.map cb)=U v:=λp y=>by have:=bY.1 (h6.mem_iff.1 y);show#v[es[p].2,by rw[di this];rfl]
  have d:ord[i]?=ps[i]?.bind λp=>es[p]?.map cb:=by rw[h7];show Tr _ ps al i
  have a:vs[i]?=ps[i]?.map λp:Nat=>rawInt p:=by rw[h5,j9,br]
  cases c:ps[i]? with
  |none=>
   rw[c]at a d;dsimp only;rw[a];calc ar (iu hoi hdi (by simp) ?_);have g1:=eU (gB (·.setIfInBounds 0 (rawInt 0))) hoi (ka (fL hdi _))
   have d1:=fL hdi (·.setIfInBounds 0 (rawInt 0))
   calc ar (iu g1 d1 (by simp) ?_);show O0 (by simp[u]) λh' k=>hN h' d λb o f e=>k b o (by rw[(eW ..).2 b f,(eW ..).2 b f];show e)
  |some p=>
   rw[c]at a d;let#v[v,h]:=al p (ck c);dsimp only;rw[a];change av _ _ (setNextDrawn S (p:Int).toNat ep>>=_) _ _ s;rw[ig];calc ar ?_;calc ar (dO x.k0 x.dq x.fq ?_);dsimp only;rw[ai (by simp)];cases j:es[p]? with
   |none=>rw[j]at h;cases h
   |some q=>
    rw[j]at h;calc aC ?_;calc ar (iu hoi hdi (by simp) ?_);have g1:=eU (gB (·.setIfInBounds 1 (rawInt ((i:Int)+1)))) hoi (ka (fL hdi _))
    have d1:=fL hdi (·.setIfInBounds 1 (rawInt ((i:Int)+1)))
    have sb:=eW s.heap I (gB (·.setIfInBounds 1 (rawInt ((i:Int)+1))))
    refine aC #v[_,J,aC (hQ _ _ (by rw[d];change es[p]?.map cb=_;rw[j];rfl) sb #v[#v[_,.ref TP,g1,(ml ..).t hci,?_,.drw h1 (by rw[sb.2 TP hT];show h2) h3 h4 h5 h6 h7],?_,x.dq,x.fq])]
    .rw[d1];simp[rawInt]
    .rw[sb.2 S hS];show x.k0
end
def II:entryFor table "set_iterator.__iter__" = U dA.«dict_keyiterator.__iter__»:=mN (id':="dict_keyiterator.__iter__") (by kernel_rfl) J (by decide +kernel) (by kernel_rfl)
def Kn(a:aa):argsOk "set_iterator.__iter__" #v[[a],[]]:=by delta argsOk;rw[rG (id:="set_iterator.__iter__") (n:=['_','_','r','e','t','i','_','_']) (o:=['r','o','t','a','r','e','t','i','_','t','e','s']) (by kernel_rfl) LX];kernel_rfl
section
variable{I S TP:Addr}
def Md.at{h':Heap}(m:Md w h S TP i ord es ep t f)(k:∀o,h.get? TP=U o->h'.get? TP=U o):Md w h' S TP i ord es ep t f:=by
 cases m with
 |txt a b=>show .txt a b
 |one a b c d e j=>show .one a b c d e j
 |drw a b c d e j l=>show .drw a (k _ b) c d e j l
def ab8(l:A.handled=Z)(hS:S≠I)(hT:TP≠I):Walks prog w A I [I,S,TP] [I] ord.length (λi v=>ord[i]?=U v) (λi h=>ItS w I S TP ord o es ep t i h/\i<=ord.length) where
 sub:=λb a=>by simp at a;simp[a]
 frame:=λi h h' st d=>by let#v[#v[#v[m,f,h1,h2,h3,hm],h4,h5,h6],h7]:=st;show#v[#v[#v[m,f,d I (by simp) _ h1,h2,h3,hm.at λo e=>d TP (by simp) o e],d S (by simp) _ h4,h5,h6],h7]
 item:=λi s Q E hi st hQ=>Ts l st.1 st.2 hS hT (λv h' c sb x=>hQ v h' s.toks c #v[x,by omega] λb o a e=>by rw[sb.2 b λz=>a (by simp[z])];show e) λh' j u=>by rw[aI hi]at j;ext j
 done:=λs Q E st hQ=>Ts l st.1 st.2 hS hT (λv h' c u u=>by rw[gf (aG _)]at c;ext c) λh' u k=>hQ h' s.toks λb o a e=>k b o (λz=>a (by simp[z])) e
 self:=λi s Q E st h=>by calc mh st.1.ty EI (fN EI st.1.ty II ?_ (Kn _));change av _ _ (ret (.ref I)) _ _ s;show aC #v[_,J,"set_iterator", _,st.1.ty,yX.lookup,h]
theorem ab9(x:CJ s.heap S L (!w.params.followText "set-order") n o es ep t)(i:L.length=n)
  (hQ:∀(h':Heap) (I TP:Addr) (ord:List aa) (d:Drawn),~~~s<=I->I<h'.objs.size->TP≠I->(TP=S\/ ~~~s<=TP)->(∀b o,s.heap.get? b=U o->h'.get? b=U o)->ItS w I S TP ord o es ep t 0 h'->ord.Perm (L.map λq=>Value.ref q.2)->Q (.ref I) { s with heap:=h',drawn:=d }):
  av (model prog w) A (pyIter (.ref S)) Q E s:=by
 have a:=x.fits i;have ty:s.TypeIs (.ref S) "set" := #v[o,x.k0,x.ex.1];have hlt:=aQ x.k0;calc mh ty qO (fN qO ty Km ?_ (F.args_set_iter_1 _));delta dA.«frozenset.__iter__»;calc ar (m:=uo _ _) (aC ?_);calc ar ?_;delta uk setEntries;calc ar (ar (dO x.k0 x.d a (aC ?_)));calc aC ?_;calc ar ?_;delta setDrawn;calc ar (dO x.k0 x.d a ?_);dsimp only;calc ar (Fo ?_);calc aC ?_;have plain0:(w.params.followText "set-order" = γ\/(w.params.followText "set-order" = δ/\es.size<=1))->av (model prog w) A.in1 (do
   let first<-pure (rawInt 0)
   let e<-setEpoch S;let r<-newFields "set_iterator" [first,rawInt 0,Value.ref S,rawInt ↑es.size,rawInt ↑e]
   ret r) (λfin s'=>∃v,fin=Fin.done (Flow.ret v)/\∃f r,s'.TypeIs v f/\typeLookup (Value.type f) (rT "__next__")=pure (U r)/\Q v s') E s:=λc=>by
  calc ar (aC ?_);calc ar (qh x.k0 x.d a ?_);calc ar (gn ?_);have h:∀(l:Obj) (b:Addr) (o:Obj),s.heap.get? b=U o->(s.heap.push l).get? b=U o:=λl b o e=>aK _ e;have it:∀ord,Md w (s.heap.push { cls:=.type "set_iterator", data:=.fields [rawInt 0,rawInt 0,Value.ref S,rawInt ↑es.size,rawInt ↑ep].toArray }) S S 0 ord es ep t (.int 0 0)->ord.Perm (L.map λq=>Value.ref q.2)->_:=λord m p=>aC (M:=model prog w) (A:=A.in1) (E:=E) (Q:=λfin s'=>∃v,fin=Fin.done (Flow.ret v)/\∃f r,s'.TypeIs v f/\typeLookup (Value.type f) (rT "__next__")=pure (U r)/\Q v s') #v[.ref (~~~s),J,"set_iterator", _,#v[_,bz _ J,J],yX.lookup,hQ _ (~~~s) S ord s.drawn (aG _) (by rw[c5];show cY _) (bf hlt) (.inl J) (h _) #v[#v[_,.int 0 0,bz _ J,J,J,m],h _ _ _ x.k0,x.d,a] p];rcases c with c|⟨c1,c2⟩
  .show it _ (.txt c J) (((Ju _ es).map _).t x.p)
  .show it _ (.one c1 c2 (by rw[x.led,c1];rfl) (λ_=>J) (λj e=>by ext e) J) x.p
 cases c:w.params.followText "set-order" with
 |true=>rw[ai (by simp)];show plain0 (.inl c)
 |false=>
  by_cases h1:es.size<=1
  .rw[ai λz=>by
    have:(!δ&&(!t.plain&&decide (es.size > 1)))=γ:=z;simp at this;omega]
   show plain0 (.inr #v[c,h1])
  .have pl:t.plain=δ:=x.pl (by have:=x.sz;omega);rw[af (by change (!δ&&(!t.plain&&decide (es.size > 1)))=γ;rw[pl];simp;omega)];calc ar (OZ es.size _ s cI λB d p=>?_);refine ar (qX ?_ (by
    rw[ah,p.length_eq,cI,x.sz,i,bS];let#v[m,T,c]:=x.c;delta T1 at c;omega))
   calc ar (qh (aK _ x.k0) x.d a ?_);calc ar (gn ?_);have h:∀(u y:Obj) (b:Addr) (o:Obj),s.heap.get? b=U o->((s.heap.push u).push y).get? b=U o:=λu y b o e=>aK _ (aK _ e);have ord:(B.filterMap λp=>es[p]?.map cb).Perm (L.map λq=>Value.ref q.2):=by calc(p.filterMap _).t ?_;rw[show (bh es.size).filterMap (λp=>es[p]?.map cb)=((bh es.size).filterMap λp=>es[p]?).map cb from(p8 ..).symm,lH];show x.p
   refine aC #v[_,J,"set_iterator", _,#v[_,bz _ J,J],yX.lookup,hQ _ _ (~~~s) _ d ?_ ?_ ?_ (.inr (aG _)) (h _ _) #v[#v[_,.ref (~~~s),bz _ J,J,J,.drw c (aK _ (bz _ J)) J J J p J],h _ _ _ _ x.k0,x.d,a] ord]
   .rw[c5];show gK _
   .show Nat.lt_of_lt_of_eq (cY _) (c5 _ _).symm
   .rw[c5];show bf (cY _)
end
section
def CJ.gp{h h':Heap}{led:Bool}(x:CJ h S L led n o es ep t)(k:∀o,h.get? S=U o->h'.get? S=U o):CJ h' S L led n o es ep t:={ x with k0:=k _ x.k0 }
theorem LY(P:A.handled=Z)(x:CJ s.heap S L (!w.params.followText "set-order") n o es ep t)(u:L.length=n)
  (hQ:∀h2 h d2 acc,~~~s<=h2.objs.size->(∀b o,s.heap.get? b=U o->h2.get? b=U o)->acc.Perm (L.map λq=>Value.ref q.2)->Q acc { s with heap:=h2,toks:=h,drawn:=d2 }):av (model prog w) A (collect (.ref S)) Q E s:=by
 have hlt:=aQ x.k0;have R:n<=63:=by let#v[m,T,c]:=x.c;delta T1 at c;omega
 let lO:Obj:={ cls:=.type "list", data:=.seq ([]:List aa).toArray };delta collect;calc ar (mM (eD px ?_));rw[eV pz _];change av _ A.in1 (newList []>>=λl=>again (.builtin "list.__iadd__" #v[[l,.ref S],[]])) _ _ s;calc ar (gn ?_);calc aC #v[fS kx _,eD qg ?_];rw[eV kx _];change av _ A.in1 (jW (.ref (~~~s)) (.ref S) (.ref (~~~s))) _ _ _;have r:(s.heap.push lO).objs.size= ~~~s+1:=c5 _ _;have B:CJ (s.heap.push lO) S L (!w.params.followText "set-order") n o es ep t:=x.gp λo e=>aK _ e;have H:ju { s with heap:=s.heap.push lO } (.ref S) "set" := #v[o,B.k0,x.ex.1];delta jW;calc ar (jx H ?_);rw[ai (by
  have:j5 (.ref (~~~s)) (.ref S)=δ:=by simp[j5];show λe=>au e (fz hlt)
  rw[this];decide)]
 calc ar (ab9 (s:={ s with heap:=s.heap.push lO }) B u λh3 I TP ord p hI1 hI2 hTI hTP y it po=>?_);have hI: ~~~s+1<=I:=by rw[<-r];show hI1
 have L3:h3.get? (~~~s)=U lO:=y _ _ (bz _ J);have d:ju { s with heap:=h3,drawn:=p } (.ref S) "set" := #v[o,it.k0,x.ex.1];have C:∀b o,s.heap.get? b=U o->h3.get? b=U o:=λb o e=>y b o (aK _ e);change av _ A.in1 (holding [.ref I] (jX (.ref S))>>=_) _ _ { s with heap:=h3,drawn:=p };calc ar (dt ?_);delta jX;calc ar (iq d F.slot_set_len.lookup ?_);generalize hid:("set.__len__" : String)=f;wp_delta;rw[show splitId f=U ("set", "__len__") from by subst hid;decide +kernel];subst hid;calc ar (mD d sub_set_self ?_);dsimp only;rw[ai #[],af (by decide +kernel)];calc ar (jx d ?_);calc aC ?_;rw[af (by decide +kernel)];calc ar (nX ?_);calc ar ?_;change av _ A.in1 (updateSeq (~~~s) (·.push .none)>>=λ_=>updateSeq (~~~s) (·.pop)) _ _ _
 calc ar (jo L3 J ?_);have i:=eU (c7 (·.push Value.none)) L3 J
 calc jo i J ?_;have G:=eU (c7 (·.pop)) i J
 have W1:∀b o,b≠~~~s->h3.get? b=U o->((h3.update (~~~s) (c7 (·.push Value.none))).update (~~~s) (c7 (·.pop))).get? b=U o:=
  λb o a e=>(gd _ _ (cg a)).t ((gd _ _ (cg a)).t e)
 have hSI:S≠I:=bf (cF hlt (qj hI));have hSf: ~~~s∉[I,S,TP]:=by
  intro z;rcases aJ.1 z with z|z
  .show au z (bf hI)
  .rcases aJ.1 z with z|z
   .show au z (fz hlt)
   .rw[aN]at z;rcases hTP with e|e
    .show au (z.t e) (fz hlt)
    .rw[<-z,r]at e;show au e (Nat.not_succ_le_self _)
 have W:=ab8 (prog:=prog) (w:=w) (A:=A.in1) (I:=I) (S:=S) (TP:=TP) (ord:=ord) (o:=o) (es:=es) (ep:=ep) (t:=t) (by simp[P]) hSI hTI;have ol:ord.length<=63:=by rw[po.length_eq,ah,u];show R
 refine aC #v[fS pT _,pH W.toS (by rw[bS];omega) _ hSf _ ord.length 0 _ _ _ J (bP _)
  (W.frame 0 h3 _ #v[it,bP _] λb a o e=>W1 b o (λz=>hSf (by rw[<-z];show a)) e) G (su _) λs' acc' Y hm hS' hacc=>?_]
 change av _ A (load (~~~s)>>=_) _ _ s';calc ar (nQ hS' ?_);have M:acc'.toList=ord:=by
  apply l7;intro j;cases e:acc'.toList[j]? with
  |none=>rw[List.getElem?_eq_none_iff,bL,hacc.1]at e;show(gf e).symm
  |some v=>rw[cp]at e;show(hacc.2 j v e).symm
 let#v[h2,g2,d2,h,X]:=s';have N:g2=s.gens:=hm.gens;have O:X=s.os:=hm.os;subst N O;calc aC (hQ h2 h d2 acc'.toList (gG (aQ hS')) (λb o e=>?_) (by rw[M];show po));have a:=aQ e;show hm.heap b o (λz=>by
  rcases aJ.1 z with z|z
  .show au z (bf a)
  .show au (aN.1 z) (bf (cF a (qj hI)))) (W1 b o (bf a) (C b o e))
end
end L4
namespace L4
open PySem PySem.Spec PySem.Calls PyProof.Rows PySem.W L2 L3
theorem LZ{c j:Type}(f:c->j):∀{L:List c} {l:List j},l.Perm (L.map f)->∃b:List c,b.Perm L/\l=b.map f
 |[],l,h=>#v[[],.refl _,by rw[cf]at h;show h.eq_nil]
 |a::L,l,h=>by
  have o:f a∈l:=h.mem_iff.2 (by rw[aA];show aX);let#v[s,t,rfl]:=p9 o;have m:(s++t).Perm (L.map f):=by have:=(kB (l₁:=s) (l₂:=t) (a:=f a)).symm.t h;rw[aA]at this;show this.cons_inv
  let#v[b,p,e]:=LZ f m;refine#v[b.take s.length++a::b.drop s.length,?_,?_]
  .calc kB.t (List.Perm.cons a ?_);rw[ic];show p
  .rw[aZ,aA,gE,gA,<- e];simp
section
def Qy{its:List aa}{ks:List aD}(z:A.units+8<cLine)(h1:0<its.length)(d:its.length<64)
  (item:∀i,i<its.length->∃a p q t v,its[i]?=U (.ref a)/\ks.getD i []=[p,q]/\dS s.heap a #[.str p t,.str q v]) (r:s.heap.get? l=U (seqObj "list" its.toArray n))
  (h:∀h' e,AF l s.heap h'->h'.get? l=U (seqObj "list" (DC (λi j=>xn (ks.getD i []) (ks.getD j [])) its).toArray e)->P (.done (.ret .none)) { s with heap:=h' }):
  av (model prog w) A (dA.«list.sort» #v[[.ref l],[]]) P E s:=by
 have item':∀{h':Heap},AF l s.heap h'->It2 h' its ks:=λ{h'} b i hi=>by
  let#v[a,p,q,t,v,m,x,o,f,u,n,y]:=item i hi;have hne:a≠l:=λe=>by subst e;rw[r]at f;ext f;show au (u9 u) #[]
  show#v[a,p,q,t,v,by rw[bV,m];rfl,x,#v[o,b a o hne f,u,n,y],m]
 calc LP (κ:=tuples' γ) (c:=λi j=>xn (ks.getD i []) (ks.getD j [])) r h1 d (λh' C b hC=>Qx (s:={ s with heap:=h' }) (item' b) h1 hC) (λh' i j C b hij hC=>S9 (s:={ s with heap:=h' }) (item' b) hij hC) h
abbrev T'(k:aD):List ef:=k.map Sum.inr
def Tt(ks:List aD)(vs:List aa):List aa:=if vs=[]then []else DC (λi j=>xn (ks.getD i []) (ks.getD j [])) vs
def Tv{its:List aa}{ks:List aD}(I:A.units+8<cLine)(f:its.length<64)
  (item:∀i,i<its.length->∃a p q t v,its[i]?=U (.ref a)/\ks.getD i []=[p,q]/\dS s.heap a #[.str p t,.str q v]) (j:s.heap.get? l=U (seqObj "list" its.toArray n))
  (h:∀h' e,AF l s.heap h'->h'.get? l=U (seqObj "list" (Tt ks its).toArray e)->P (.done (.ret .none)) { s with heap:=h' }):
  av (model prog w) A (dA.«list.sort» #v[[.ref l],[]]) P E s:=by
 delta Tt at h;by_cases h0:its=[]
 .subst h0;rw[af J]at h;calc qM rB j PyProof.Rows.StrsAre.nil.keysOf (λx y eu e=>by ext e) #[] λc a1 B=>?_;let#v[m,r,C,M]:=qY PyProof.Rows.StrsAre.nil a1 B;have F:m=[]:=C.eq_nil;subst F;have G:((arrOf c).map (·.2))=[].toArray:=by cases d:((arrOf c).map (·.2)).toList with
   |nil=>show Array.toList_eq_nil_iff.1 d
   |cons a b=>rw[d]at r;ext r
  let#v[e,u]:=rD (vs:=[]) (out:=(arrOf c).map (·.2)) j
  rw[G]at u ⊢;show h _ e (λb o H z=>by rw[qZ H (aQ z)];show z) u
 .rw[ai h0]at h;show Qy I (eX.2 h0) f item j h
end
section
def NH{L:List (aD×Addr)}(M:A.handled=Z)(hu:A.units+64<cLine)(d:L.length=n)(x:CJ s.heap S (L.map λq=>(T' q.1,q.2)) (!w.params.followText "set-order") n o es ep t)
  (tk:∀q∈L,∃p r,q.1=[p,r]/\TK prog w s.heap (T' q.1) q.2)
  (hQ:∀(a:List (aD×Addr)) (p:Addr) (h2:Heap) (h:Nat) (d2:Drawn) (e:Nat),a.Perm L-> ~~~s<=p->(∀b o,s.heap.get? b=U o->h2.get? b=U o)->h2.get? p=U (seqObj "list" (Tt (a.map aj) (a.map λq=>Value.ref q.2)).toArray e)->Q (.ref p) { s with heap:=h2,toks:=h,drawn:=d2 }):
  av (model prog w) A (call (.builtin "sorted") [.ref S]) Q E s:=by
 have n9:n<=63:=by let#v[m,T,c]:=x.c;delta T1 at c;omega
 calc lF nM ng ni (nu _) ?_;calc ar (aC ?_);calc ar (LY (by simp[M]) x (by rw[ah];show d) λg h d2 acc N j u=>?_);rw[aT]at u;let#v[a,pL,rfl]:=LZ (λq:aD×Addr=>Value.ref q.2) u;have len:(a.map λq=>Value.ref q.2).length=n:=by rw[ah,pL.length_eq,d]
 calc ar (kH ?_ (by rw[len,bS];omega));have on:(g.push (seqObj "list" (a.map λq=>Value.ref q.2).toArray 0)).get? g.objs.size=U (seqObj "list" (a.map λq=>Value.ref q.2).toArray 0):=bz _ J;calc ar (dt (fN mO #v[_,on,J] mH ?_ (mP _)));refine Tv (ks:=a.map aj) (by change A.units+1+1+8<cLine;omega) () (λi hi=>?_) on λh' e O I=>?_
 .rw[ah]at hi;let#v[p,r,l,X]:=tk a[i] (pL.mem_iff.1 (cG hi));let#v[ob,its,nn,P,R,W,f]:=X;rw[l]at f;cases d:its.toList with
  |nil=>rw[d]at f;cases f
  |cons Y r1=>
   rw[d]at f;cases f with
   |cons a1 C=>
    cases C with
    |@cons _ v2 _ r2 F G=>
     ext G;let#v[y,rfl]:∃t,Y=.str p t:=Dl a1;let#v[B,rfl]:∃t,v2=.str r t:=Dl F;have H:its=#[.str p y,.str r B]:=by rw[<-Array.toList_inj,d]
     refine#v[a[i].2,p,r,y,B,by rw[br,aI hi];rfl,by rw[bV,br,aI hi];show l,ob,aK _ (j _ _ P),R,nn,by rw[W,H]]
 .show#v[_,J,aC #v[_,J,hQ a g.objs.size h' h d2 e pL N (λb o z=>O b o (bf (aQ (j b o z))) (aK _ (j b o z))) I]]
end
section
def b9.drw(I:b9 X pins σ H s)(d:Drawn):b9 X pins σ H { s with drawn:=d }:=#v[I.ok,I.os,I.jl,I.a7,I.B',I.cell,I.free,I.j?,I.x4,I.e8,I.len]
def HI(ks:List aD)(a:bC):bC:=if a=[]then []else (D2 (λi j=>xn (ks.getD i []) (ks.getD j [])) a.length).map λi=>a.getD i V.I
end
section
variable{G:Bg}
theorem Jv:∀l:List (aD×Addr),df (l.map λq=>V.ref q.2) (l.map λq=>Value.ref q.2)
 |[]=>.nil
 |q::l=>.cons J (Jv l)
def fm(k:aD):D:=.bx (k.map D.str)
def Fp(a:List aD):List aD:=if a=[]then []else (D2 (λi j=>xn (a.getD i []) (a.getD j [])) a.length).map λi=>a.getD i []
theorem Ko:∀{b:aV} {f:List aD} {h:bC},a9 G H b h->DK b=U f->∃L:List (aD×Addr),h=L.map (λq=>V.ref q.2)/\f=L.map aj/\∀q∈L,∃p r,q.1=[p,r]/\fh G.K H q.2 [.str p,.str r]
 |[],f,h,r,e=>by ext e;delta a9 at r;subst r;show#v[[],J,J,λq o=>by ext o]
 |d::b,f,h,r,e=>by
  delta DK at e;cases c:WO d with
  |none=>rw[c]at e;cases e
  |some k=>
   cases i:DK b with
   |none=>rw[c,i]at e;cases e
   |some t=>
    rw[c,i]at e;ext e;delta a9 at r;let#v[v,x,rfl,u,w]:=r;let#v[L,rfl,rfl,m]:=Ko w i;let#v[a,p,q,rfl,rfl,l]:=Ta u c;calc#v[([p,q],a)::L,J,J,λz j=>?_];rcases aJ.1 j with rfl|j
    .show#v[p,q,J,l]
    .show m z j
theorem L0{a:Type}{f:a->D}{g:a->V}:∀is:List a,(∀i∈is,c3 G H (f i) (g i))->a9 G H (is.map f) (is.map g)
 |[],_=>vO
 |i::is,h=>vM (h i aX) (L0 is λj b=>h j (bg _ b))
def O1{a:List aD}(p:a.Perm b)(i:b.Nodup)(d:∀k∈b,∃p q,k=[p,q]):Fp a=Fp b:=by
 delta Fp;by_cases h:b=[]
 .subst h;rw[p.eq_nil]
 .have c:a≠[]:=λe=>h (by subst e;show p.symm.eq_nil);rw[ai h,ai c];show(Tf p (p.nodup_iff.2 i) (λk f=>d k (p.mem_iff.1 f)) (eX.2 c))
def Tw{L:List (aD×Addr)}(h:∀q∈L,∃p r,q.1=[p,r]/\fh G.K H q.2 [.str p,.str r]):a9 G H ((Fp (L.map aj)).map fm) (HI (L.map aj) (L.map λq=>V.ref q.2)):=by
 delta Fp HI;by_cases hL:L=[]
 .subst hL;show vO
 .rw[ai (by exists hL),ai (by exists hL),aT,ah,ah];have c:0<L.length:=eX.2 hL;calc L0 _ λi a=>?_;have a:=Dn _ c i a;change c3 G H (fm ((L.map aj).getD i [])) ((L.map λq=>V.ref q.2).getD i V.I);rw[bV,bV,br,br,aI a];change c3 G H (fm L[i].1) (V.ref L[i].2);let#v[p,r,e,b]:=h L[i] (cG a);rw[e];show zM b (vM (zN p) (vM (zN r) vO))
end
end L4
namespace L4
open PySem PySem.Spec PyProof.Rows L2 L3
section
def Tx(O:tF G (wY g i a) σ H Q):Cq (Mi G g) [] E (Nr G i a) σ H Q:=by
 let#v[F,x,y,d,ρ',R,e,k]:=O;delta wY at e;rcases vT (f:=a) (ρ:=x)with p|⟨o,j,p⟩<;>erw[p]at e
 .ext e
 .cases l:xb j i with
  |none=>erw[l]at e;cases e
  |some t=>
   erw[l]at e;cases r:g t o with
   |none=>erw[r]at e;cases e
   |some q=>let#v[d1,u]:=q;erw[r]at e;ext e;calc#v[F,x,y,o,j,t,R,p,l,λI b z M s m rs A=>?_];let#v[s,c,h]:=yq l;let#v[b',w,B,P,S,T]:=(m.sl i s c).ax h;rw[yb B]at A;ext A;calc#v[b,I,bF _,b,I,w,z,t,o,d,u,J,P,S,m.sub,T,rs,r,λv zs H2 N C W X fr Y w1 w2 w3=>?_];calc k _ _ _ (vw.t ‹vw y z› C) ?_ w3;delta putAt;rw[c];show m.call1 c h B C W X fr Y w1 w2
end
end L4
namespace L4
open PySem PySem.Spec PySem.Calls PyProof.Rows PySem.W L2 L3
noncomputable abbrev cS(s:Str):FE:=cC (.str s)
noncomputable abbrev a1(e:FE):FA:=ab e vG
section
structure Mk0(K:ay)(C:Addr):Prop where
 U?:makesIn K C=γ
 init:findIn K (.ref C) "__init__" = U (U (.builtin "object.__init__"))
 kp:keepIn K (.ref C)=γ
def Qz(M:Mk0 X.K C)(j:Gl X x)(l:X.mg x=U (.ref C))(c:(x==("__debug__" : Str))=δ):PE X (.Call (.Name x p) [] [] pos) (λr H Q=>∀y a,H y=Z->H a=Z->a≠y->Q (.ref y) (el (el H a (.gy y)) y (.l' C a []))):=by
 intro d s r H Q I h;calc dZ (Ec I j l ?_ c);calc mT I.n? M.kp ?_;have m:=h (~~~s+1) (~~~s) (I.e8.fresh (gK _)) (I.e8.fresh (aG _)) (bf (cY _));have f:=b9.made (C:=C) I;have Y:=nY (M:=model X.prog X.w) I.n? M.U?;calc kR (PM I.n? M.U? M.init (λself=>Looks.of_pure (oi_bind self)) ?_);have i:((s.heap.push emptyDict).push (instObj C (~~~s))).get? (~~~s+1)=U (instObj C (~~~s)):=by rw[<-c5 s.heap emptyDict];show bz _ J
 have q:Looks (model X.prog X.w) ((s.heap.push emptyDict).push (instObj C (~~~s))) (isInstance (.ref (~~~s+1)) (.type "object")) γ:=
  ((sG i).andThen .now:Looks (model X.prog X.w) _ (typeOf (.ref (~~~s+1))) (.ref C)).andThen (Y.top.keeps λb o e=>aK _ (aK _ e))
 calc pF oi_plain entry_oi (check_slot oi_kind oi_split q (oi_args _) ?_);rw[oi_run];show aC (And.intro rfl #v[V.ref (~~~s+1),_,f,rfl,m])
def cNew(c:Nat):FE:=λa=>U (.obj c [] [],a)
def QA(h:PE X e (λw H Q=>∀y a,H y=Z->H a=Z->a≠y->Q (.ref y) (el (el H a (.gy y)) y (.l' (G.ca c) a [])))):PE X e (tF G (cNew c)):=PE.cx h λw H Q r=>by
 let#v[F,B,A,d,u,R,e,k]:=r;ext e;intro x a f hdx ne;have j:(el H a (.gy x)) x=Z:=by rw[vt (λz=>ne z.symm)];show f
 have m:vw H (el (el H a (.gy x)) x (.l' (G.ca c) a [])):=(vE hdx _).t (vE j _);have R2:=R.gk m (λv v e=>e) (R.sub.t m) (λb o e=>.inl e);have l:=R.ey f;have p:=R2.l? vp l (R.gr f) (λi t q to z=>R.apart f i t q to z);calc k _ _ _ (vE l _) p ?_;delta c3;show#v[x,a,[],J,vp,J,vO]
end
section
class K0f(B:Bz)(x:Str)(c:Nat):Prop where p:Mk0 B.G.K (B.G.ca c)/\B.mg x=U (.ref (B.G.ca c))
def acb [C:Cz X B k][Q:K0f B x c](a:Gz X x)(hd:(x==("__debug__" : Str))=δ):ZE X B (.Call (.Name x p) [] [] pos) (cNew c):=#v[QA (Qz (by rw[C.K];show Q.p.1) a (by rw[C.mg];show Q.p.2) hd)]
end
end L4
namespace L4
open PySem PySem.Spec PyProof.Rows L2 L3
inductive IspJ(G:Bg) (j:Nat) (g:aV->aV->Option (D×aV)) (vs:bC) (H:Hp) (Q:VK) (E:XK):Prop
 |i (a:Addr) (us:bC) (h0:vs=us.take j++.ref a::us.drop j) (h1:π G g (.ref a::us) H Q E):IspJ G j g vs H Q E
def spJ(G:Bg)(j:Nat)(g:aV->aV->Option (D×aV)):Sp:=λa H Q E=>IspJ G j g a H Q E
def stJ(j n:Nat)(b a:aV):aU:=(a.take j).map Sl.q++.pm b::((a.drop j).map Sl.q++fR (n - a.length - 1) .un)
def fnJ(j e n:Nat)(f:FS):aV->aV->Option (D×aV):=λc b=>if b.length=e then match f (stJ j n c b)with
 |some (.rt d h)=>match LM j h with
  |some a=>U (d,a)
  |none=>Z
 |_=>Z
 else Z
#print h
def L1(h:fnJ j m n f i c=U (d,es')):c.length=m/\∃a,f (stJ j n i c)=U (.rt d a)/\a[j]?=U (.pm es'):=by
 delta fnJ at h;split at h
 .rename_i l;calc#v[l,?_];split at h
  .rename_i x a e;cases b:LM j a with
   |none=>erw[b]at h;cases h
   |some q=>erw[b]at h;ext h;show#v[a,e,Fh b]
  .ext h
 .ext h
#print f
def Kp{a:aV}(r:j<=a.length)(h:(stJ j n o a)[i]?=U t):(i=j/\t=.pm o)\/t=.un\/∃(m:Nat) (d:D),a[m]?=U d/\t=.q d/\∀(b:bC) (v w:V),b.length=a.length->b[m]?=U v->(b.take j++w::b.drop j)[i]?=U v:=by
 delta stJ at h;have lt:(a.take j).length=j:=by rw[bJ];omega
 by_cases e:i<j
 .rw[cU (by rw[ah,lt];show e),br,l5,af e,aI ()]at h;ext h;calc .inr (.inr #v[i,_,aI (),J,λb v w p f=>?_]);rw[cU (by rw[bJ];omega),l5,af e];show f
 .rw[cR (by rw[ah,lt];omega),ah,lt]at h;cases q:i - j with
  |zero=>rw[q]at h;ext h;show .inl #v[by omega,J]
  |succ m=>
   rw[q,iU]at h;by_cases l:m<(a.drop j).length
   .have c:j+m<a.length:=by rw[cJ]at l;omega
    rw[cU (by rw[ah];show l),br,dG,aI c]at h;ext h;calc .inr (.inr #v[j+m,_,aI c,J,λb v w p f=>?_]);rw[cR (by rw[bJ];omega),bJ,eB (),q,iU,dG];show f
   .rw[cR (by rw[ah];omega),hX]at h;split at h
    .ext h;show .inr (.inl J)
    .ext h
section
def W0{N:aD}{ds:aV}(f:j<=ds.length)(ha:H a=U (.ax xs))(h0:H0 a=Z)(s:vw H0 H)(r1:a9 G H0 es xs)(r:a9 G H0 ds us)(hN:us.length+1<=N.length):bc G #v[H0,H,[a]] (L2.start N (us.take j++.ref a::us.drop j)) (stJ j N.length es ds) H0 H:={
  sub:=s
  g0:=vw.refl _
  keep:=λb o e n=>e
  fr:=λb o e=>.inl e
  am:=λb h=>by rw[aN]at h;subst h;show#v[_,ha]
  len:=by
   have c:=vv r;delta L2.start stJ;simp only[aH,ah,cP,aL,dr,bJ,cJ,<- c];rw[eB f];rw[<-c]at hN;clear c ha h0 s r1 r;generalize ds.length=x at *
   generalize N.length=y at *
   omega
  sl:=λi t e=>by
   have c:=vv r;rcases Kp f e with ⟨rfl,rfl⟩|rfl|⟨m,d,p,rfl,z⟩
   .show#v[a,xs,yp (by rw[cR (by rw[bJ];omega),bJ,eB (),iA];rfl),ha,h0,aN.2 J,r1]
   .trivial
   .let#v[v,q,w]:=xm r p;show#v[v,yp (z us v _ c.symm q),w]
  ap:=λi k t u b hij A B ht l=>by
   rcases Kp f A with ⟨rfl,rfl⟩|rfl|⟨_,_,_,rfl,_⟩
   .rcases Kp f B with ⟨rfl,rfl⟩|rfl|⟨_,_,_,rfl,_⟩
    .show au J hij
    .ext l
    .ext l
   .ext ht
   .cases ht }
def W2{N:aD}(hj:j<=l)(hN:l+1<=N.length)(h:spJ G j (fnJ j l N.length f) X H Q E):kb G f { nx:=λ_ i=>Q .I i,rt:=Q } (L2.start N X) H:=by let#v[a,us,rfl,b,W,xs,m,es,ds,d,y,t,B,A,s,P,r,e,k]:=h;ext t;let#v[C,ρ,u,w]:=L1 e;have R:=W0 (N:=N) (j:=j) () B A s P r (by rw[<-vv r,C];show hN);calc#v[_,_,m,_,R,u,λv σ' p i T c S=>?_,λ_=>J];let#v[q,Y,q1,F,I,M,O]:=c.sl j _ w;have x:q=a:=aN.1 M;subst x;show k _ Y _ _ T c.sub (λb o e n=>c.keep b o e (λz=>n (aN.1 z))) c.fr I F O S
inductive Yt(G:Bg) (j i:Nat) (a:FA) (σ:St) (H:Hp) (Q:(bC->Hp->Prop)):Prop
 |i (F ρ H0 ds ρ' es) (h0:bc G F σ ρ H0 H) (h1:a ρ=U (ds,ρ')) (h2:xb ρ' i=U es) (h3:∀xs b H0' H',vw H0 H0'->bc G F σ ρ' H0' H'->a9 G H0' ds xs->σ[i]?=U (U (.ref b))->Q (xs.take j++.ref b::xs.drop j) H'):Yt G j i a σ H Q
def QB(G:Bg)(j i:Nat)(a:FA):TA:=λb H Q=>Yt G j i a b H Q
def TB(t:PE X e (Aa i))(p:PE X a (tF G (cC d)))(r:aE [e,a] X.a8=(δ,eval e X.a8)::aE [a] X.a8)(c:aE [a] X.a8=[(δ,eval a X.a8)]):PA X [e,a] (QB G 0 i (ab (cC d) vG)):=PA.cx (wQ t (wQ p zd c) r) λB H Q q=>by let#v[F,h,j,y,w,z,R,e,o,k]:=q;ext e;let#v[b,A,f,_]:=xD R o;show#v[.ref b,f,F,h,j,d,h,R,J,λv x l s m u=>k [v] b _ _ s m (vM u vO) f]
def QC(z:PE X e (tF G f))(B:PA X a (QB G j i g))(C:aE (e::a) X.a8=(δ,eval e X.a8)::aE a X.a8:=by rfl):PA X (e::a) (QB G (j+1) i (ab f g)):=PA.cx (wQ z B C) λP H Q A=>by let#v[F,N,m,d,h,a,R,e,y,k]:=A;let#v[x,r,c,u,w,rfl]:=BB e;show#v[F,N,m,x,c,R,u,λv o p s t E=>#v[F,c,o,r,h,a,t,w,y,λM b O q l R2 rs I=>k (v::M) _ _ _ (s.t l) R2 (vM (c3.mono l _ _ E) rs) I]]
def TC(w:tF G (wY g i a) z H Q):Cq (spJ G j g) [] E (QB G j i a) z H Q:=by let#v[F,y,l,p,d,u,R,e,t,k]:=Tx (E:=E) w;calc#v[F,y,l,p,d,u,R,e,t,λh b m c s o rs x=>?_];let#v[A,B,f,q]:=k h b m c s o rs x;rw[bF]at f;let#v[rfl,r]:=List.append_inj' f J;ext r;show#v[b,h,bF _,q]
def W3(D:Bf X.prog X.w X.K X.mg X.a7 k x z (spJ G j g))(u:xg k X.A)(o:PA X (e::b) (QB G j i a))(r:Gl X x)(c:(x==("__debug__" : Str))=δ)(q:aE (e::b) X.a8=(δ,eval e X.a8)::aE b X.a8)(hpl:(bM pos (aE b X.a8)).any (·.1)=δ):
  PE X (.Call (.Name x p) (e::b) [] pos) (tF G (wY g i a)):=by
 let#v[f,y,d,h,l,m]:=D;show PE.cx (Eg (p:=p) (pos:=pos) m u r d h l .nil FK o c q hpl) λB H Q t=>TC t
end
section
variable{K:ay}{st:Stmt}
theorem aeo(m:g=fnJ j c n b)(o:j<=c)(t:e.length=c+1)(hN:N.length=n)(F:S2 K x qual st f l)(S:xc N e (vH st))(body:∀(cdv:aa) (A:bp) (b8:List Env) (s:aq) (H:Hp) (E:XK),xg k (A.deeper (envOfC qual (vH st) (~~~s) f cdv))->kv (DJ P w K q a7 N qual st f cdv A b8 s H E) (wa st) (kb G b)):
  yS P w K q a7 yy (k+1) f l e (spJ G j g):=by
 subst m hN;calc F.ok S (λr H Q E h=>?_) λcdv A b8 s H r Q E p h=>#v[_,body cdv A b8 s H E p,W2 o (by have:=aW cD S.pre;rw[bJ]at this;omega) h];let#v[a,u,rfl,h]:=h;have:=RU (λz z d h=>(L1 (d:=d.1) (es':=d.2) h).1) _ _ _ _ h;erw[aH,aL,bJ,cJ]at this ⊢;omega
end
section
structure ZJ(X:Cx)(B:Bz)(e:List Expr)(j i:Nat)(f:FA):Prop where p:PA X e (QB B.G j i f)
def acd(h:pa X i x=γ)(c:ZE X B a (cC d))(e:Sz X (.Name x p) [a])(b:S1 X a):ZJ X B [.Name x p,a] 0 i (ab (cC d) vG):=#v[TB (A? h) c.p e b]
def ace(c:ZE X B e f)(d:ZJ X B b j i a)(h:Sz X e b):ZJ X B (e::b) (j+1) i (ab f a):=#v[QC c.p d.p h]
class Dj(B:Bz)(j':outParam Nat)(x:Str)(j:outParam Nat)(g:aV->aV->Option (D×aV)):Prop where p:Df B j' x (spJ B.G j g)
def acf [C:Cz X B k][Q:Dj B m x j g](c:Gz X x)(hd:Dz x)(l:Sz X e b)(h:Lz X pos b)(d:ZJ X B (e::b) j i a)(f:eP m k=γ):ZE X B (.Call (.Name x p) (e::b) [] pos) (wY g i a):=by let#v[o,q]:=dz c hd (X:=X) (Q:=Q.p);show#v[W3 q (C.r.mono (eJ.mp f)) d.p c hd l h]
end
section
variable{B:Bz}[Y:Yb B]{st s0:Stmt}
def gJ5(d:g=fnJ j a n b)(e:j<=a)(q:GD B.G.K x st)(h:wa st=s0::l)(body:Xn B (D' st) x st (s0::l) k b)(S:okO (D' st) (N? st) st (a+1) n=γ:=by kernel_rfl)(c:N' x x st (N? st):=by (repeat intro _);rfl):Df B (k+1) x (spJ B.G j g):=
 #v[_,gD Y.y q c λf i F=>aeo d e (r? S).2.1 (r? S).2.2 F (r? S).1 (body.ok h f)]
end
section
def aep:ZB X B l Wl:=#v[λa s d H D I h=>by
 let#v[F,c,b,o,R,e,_]:=h;ext e]
#print h
def aeq(h:c2 g (cV m) (cC d) b=U (z,a)):a=b:=by
 delta c2 cV at h;split at h
 .rename_i e;split at e
  .ext e;delta cC at h;simp only at h;split at h
   .ext h;rfl
   .ext h
  .ext e
 .ext h
#print f
def acg(h:pa X i x=γ)(y:ZE X B a (c2 g (cV m) (cC d)))(C:Sz X (.Name x p) [a])(c:S1 X a):ZJ X B [.Name x p,a] 0 i (ab (c2 g (cV m) (cC d)) vG):=#v[PA.cx (wQ (A? h) (wQ y.p zd c) C) λT H Q A=>by
 let#v[F,S,l,N,G,O,R,e,w,k]:=A;let#v[z,r,I,f,u,rfl]:=BB e;ext u;have q:=aeq f;subst q;let#v[b,P,j,_]:=xD R w;show#v[.ref b,j,F,_,l,z,_,R,f,λv M o s t E=>k [v] b _ _ s t (vM E vO) j]]
end
theorem BD.mono(M:BD G P w i a7 j m c h)(e:eP j k=γ):BD G P w i a7 k m c h:=by let#v[f,d,l,a,b,c,F]:=M;show#v[f,d,l,a,b,c,F.mono (eJ.mp e)]
end L4
namespace L2
open PySem PySem.Spec PyProof.Rows
section
inductive TF(K:ay) (x:V) (y:V) (H:Hp) (Q:VK):Prop
 |i (a b xs ys) (h0:x=.ref a) (h1:y=.ref b) (h2:fh K H a xs) (h3:fh K H b ys) (h4:xs.length+ys.length<=aS) (h5:(xs=[]->Q (.ref b) H)) (h6:(ys=[]->Q (.ref a) H)) (h7:∀p,H p=Z->Q (.ref p) (el H p (.bx (xs++ys)))):TF K x y H Q
def aer(K:ay):R2:=λx y H Q=>TF K x y H Q
def W4:iE X (c8 .Add) (aer X.K):=by
 intro i s T H x y v u Q I w z h;let#v[a,b,A,S,rfl,rfl,p,q,C,M,N,O]:=h;by_cases l:A=[]
 .ext w;ext z;let#v[m,P,F,_]:=I.tuple p;let#v[f,W,G,_]:=I.tuple q;have B:=P.xo.2 l;let#v[#v[cls,dd,data,R],t,r,n,hd]:=id F;let#v[#v[cls2,j,data2,o],e,c,E,d]:=id G;simp only at r hd c d;subst r hd c d;show m9 #v[_,t,J] #v[_,e,J] mr mU mw l9 (lW _ _)
   (tuple_addW0 _ _ m.toArray f.toArray n E dd j R o (by simp[B])) #v[t,e,#v[.ref b,H,I,J,M l]]
 .show Om i s T H _ _ v u Q I w z #v[a,b,A,S,J,J,p,q,l,C,N,λ_=>O]
end
end L2
namespace L4
open PySem PySem.Spec PyProof.Rows L2 L3
section
variable{G:Bg}
def cSlU(f:FE)(lo e:FO):FE:=λi=>match f i with
 |some (.bx d,a)=>match lo a with
  |some (l,b)=>match e b with
   |some (h,c)=>U (.bx (gs d l h),c)
   |none=>Z
  |none=>Z
 |_=>Z
def Jw(f g:FE):FE:=λe=>match f e with
 |some (.bx c,a)=>match g a with
  |some (.bx d,b)=>if c.length+d.length<=900 then U (.bx (c++d),b)else Z
  |_=>Z
 |_=>Z
#print h
def W5(W:PE X a (tF G f))(Y:PE X b (tF G g))(hK:X.K=G.K:=by rfl):PE X (.BinOp a .Add b pos) (tF G (Jw f g)):=PE.cx (Of W4 W Y) λσ H Q hh=>by
 rw[hK];let#v[F,ρ,y,d,ρ',R,e,k]:=hh;delta Jw at e;split at e
 .rename_i xs c M;split at e
  .rename_i ys ρ2 N;split at e
   .rename_i hl;ext e;calc#v[F,ρ,y,_,c,R,M,λv A B s E r=>#v[F,c,A,_,_,E,N,λu H2 C h R2 o=>?_]];have m:=c3.mono h _ _ r;have r0:=m;have r3:=o;delta c3 at m o;let#v[a1,q,rfl,S,w]:=m;let#v[I,t,rfl,T,x]:=o;have j:=vv w;have l:=vv x;refine#v[a1,I,q,t,J,J,fh.mono R2.sub S,fh.mono R2.sub T,by rw[<-j,<- l];show ze (),λz=>?_,λz=>?_,λp i=>?_]
    .have O:xs=[]:=by rw[z]at j;show ib.1 j
     subst O;show k _ _ _ (s.t h) R2 r3
    .have P:ys=[]:=by rw[z]at l;show ib.1 l
     subst P;rw[bF]at k;show k _ _ _ (s.t h) R2 r0
    .show k _ _ _ ((s.t h).t (vE (R2.ey i) _)) (R2.J? i _) (zM (fh.of vp) (a9.mono (vE (R2.ey i) _) _ _ (xl w x)))
   .ext e
  .ext e
 .ext e
end
#print f
section
def ach [C:Cz X B k](c:ZE X B e f)(d:ZE X B a b):ZE X B (.BinOp e .Add a pos) (Jw f b):=#v[W5 c.p d.p C.K]
end
mutual
def aes:D->Bool
 |.I=>γ
 |.bl _=>γ
 |.int _=>γ
 |.str _=>γ
 |.bx a=>NI a
 |.ax a=>NI a
 |_=>δ
def NI:aV->Bool
 |[]=>γ
 |d::a=>aes d&&NI a
end
abbrev Upw(a:Array Nat):Prop:=a.toList.Pairwise (· < ·)
def NJ{c:Array Nat}(h:Upw c){i k a b:Nat}(hik:i<k)(d:c[i]?=U a)(e:c[k]?=U b):a<b:=by rw[<-cp]at d e;let#v[f,rfl]:=bZ.1 d;let#v[j,rfl]:=bZ.1 e;show hJ.1 h i k f j hik
theorem HJ(h:Upw c)(j:Nat):∀(f lo b:Nat),b<=c.size->lo<=b->b - lo<=f->(∀i a,i<lo->c[i]?=U a->a<j)->(∀i a,b<=i->c[i]?=U a->j<=a)->
  il c j f lo b<=c.size/\(∀i a,i<il c j f lo b->c[i]?=U a->a<j)/\∀i a,il c j f lo b<=i->c[i]?=U a->j<=a
 |0,lo,b,q,r,u,m,o=>#v[bW r q,m,λi a d=>o i a (bW () (show lo<=i from d))]
 |f+1,lo,b,q,r,u,m,o=>by
  delta il;by_cases t:lo<b
  .rw[af t];have w:(lo+b) / 2<c.size:=by omega
   have e:c[(lo+b) / 2]?=U c[(lo+b) / 2]:=di w;have g:c.getD ((lo+b) / 2) j=c[(lo+b) / 2]:=by rw[fJ,e];rfl
   dsimp only;rw[g];by_cases p:c[(lo+b) / 2]<j
   .rw[af p];calc HJ h j f _ b q () () (λi a d l=>?_) o;rcases rU i ((lo+b) / 2)with z|z
    .show kJ (NJ h z l e) p
    .have:i=(lo+b) / 2:=by omega
     rw[this,e]at l;ext l;show p
   .rw[ai p];calc HJ h j f lo _ () () () m λi a d l=>?_;rcases rU ((lo+b) / 2) i with z|z
    .have:=NJ h z e l;omega
    .have:i=(lo+b) / 2:=by omega
     rw[this,e]at l;ext l;omega
  .rw[ai t];show#v[by omega,m,λi a d=>o i a ()]
def HK(h:Upw b)(j:Nat):bO b j<=b.size/\(∀i a,i<bO b j->b[i]?=U a->a<j)/\∀i a,bO b j<=i->b[i]?=U a->j<=a:=
 HJ h j b.size 0 b.size (aG _) (bP _) () (λi a z=>au z ()) λi a z e=>by have:=(jY.1 e).1;omega
def below_at(h:Upw a)(e:a[i]?=U j):bO a j=i:=by
 let#v[l,c,d]:=HK h j;rcases jh (bO a j) i with z|z|z
 .have f:bO a j<a.size:=kJ z (jY.1 e).1;have b:a[bO a j]?=U a[bO a j]:=di f;have:=d _ _ (aG _) b;have:=NJ h z b e;omega
 .show z
 .have:=c i j z e;omega
def L6{b:Type}(a:Array b)(p:Nat)(x:b):(cX a p x).toList=a.toList.take p++x::a.toList.drop p:=by delta cX;simp;rw[j8];rw[cJ,bL];show aG _
def Bt{c:Type}(a:Array c){p:Nat}(d:p<=a.size)(x:c)(i:Nat):(cX a p x)[i]?=if i<p then a[i]? else if i=p then U x else a[i - 1]?:=by
 have len:(a.toList.take p).length=p:=by rw[bJ,bL];omega
 rw[<-cp,L6,List.getElem?_append,len];by_cases h:i<p
 .rw[af h,af h,l5,af h,cp]
 .rw[ai h,ai h];by_cases b:i=p
  .subst b;rw[af J,iA];rfl
  .rw[ai b];let#v[k,rfl]:∃k,i=p+(k+1):=#v[i - p - 1,by omega];rw[show p+(k+1) - p=k+1 by omega,iU,dG,cp];congr 1
def aci(h:Upw c)(r:j∉c.toList):Upw (cX c (bO c j) j):=by
 let#v[u,p,q]:=HK h j;have f:=h;delta Upw at f ⊢;rw[L6,pJ];rw[<-ic (bO c j) c.toList,pJ]at f;have lo:∀a∈c.toList.take (bO c j),a<j:=λa d=>by let#v[i,m,rfl]:=dY.1 d;have e:=m;rw[bJ]at e;calc p i _ () ?_;rw[<-cp,List.getElem_take,aI]
 have o:∀a∈c.toList.drop (bO c j),j<a:=λa d=>by
  have t:a∈c.toList:=kh d;let#v[i,m,rfl]:=dY.1 d;have e:=m;rw[cJ]at e;have:=q (bO c j+i) (c.toList.drop (bO c j))[i] () (by rw[<-cp,List.getElem_drop,aI]);rcases Nat.lt_or_eq_of_le this with z|z
  .show z
  .show au (z▸t) r
 calc#v[f.1,List.pairwise_cons.2 #v[o,f.2.1],λa d b l=>?_];rcases aJ.1 l with rfl|l
 .show lo a d
 .show kJ (lo a d) (o b l)
structure Tu(t:cH)(m n:Nat):Prop extends Tb t m n where
 up:Upw t.place
section
theorem Tu.live(T:Tu t m n)(e:t.place[i]?=U j):t.slot j=.live i:=by delta rE;rw[below_at T.up e];dsimp only;rw[e];simp
def Tu.emp(T:Tu t m n)(e:t.slot j=.empty):j∉t.place.toList:=λh=>by let#v[i,a,rfl]:=dY.1 h;rw[T.live (i:=i) (by rw[<-cp,aI a])]at e;ext e
def tM(m:Nat):cH:=#v[m,[].toArray,[].toArray,0,δ,0,δ]
def Wy(m:Nat)(O:Nat->Prop)(j:Nat):Nat->dE->Prop
 |0,_=>False
 |f+1,p=>p.j=j\/(O p.j/\Wy m O j f ((tM m).advance p))
theorem Wy.mono(h:∀x,O x->b x):∀{f a:Nat} {p:dE},Wy m O j f p->f<=a->Wy m b j a p
 |0,_,_,w,_=>w.elim
 |f+1,0,_,_,l=>au l ()
 |f+1,a+1,p,w,l=>w.imp id λw=>#v[h _ w.1,w.2.mono h ()]
#print "Kq p dE advance;Yu h Int probeStart" in def ϑ0(T:Tb t m n)(ϑ1:ϑ2):t.ϑ3 ϑ1=(tM m).ϑ3 ϑ1:=by let#v[rfl,_,_]:=T;rfl
abbrev Oc(t:cH)(x:Nat):Prop:=x∈t.place.toList
def acj(h:Oc t x):∃i:Nat,t.place[i]?=U x:=by let#v[i,a,rfl]:=dY.1 h;show#v[i,by rw[<-cp,aI a]]
theorem Yv(T:Tu t m n)(F:Nat->Int)(h:Int)(q:t.place[l]?=U o)(r:F l=h):∀(f:Nat) (p:dE),p.dummy=Z->Wy m (Oc t) o f p->∀g,f<=g->
  ∃j i next b,b<f/\t.slot j=.live i/\t.place[i]?=U j/\F i=h/\eZ t F h g p=U (.candidate j i next)/\next.dummy=Z/\(i=l\/Wy m (Oc t) o b next)
 |0,p,_,c,g,_=>c.elim
 |f+1,p,hd,c,0,u=>au u ()
 |f+1,p,hd,c,g+1,u=>by
  delta eZ;let#v[i,a,x]:∃i:Nat,t.place[i]?=U p.j/\(i=l\/Wy m (Oc t) o f ((tM m).advance p)):=by
   rcases c with e|⟨e,w⟩
   .show#v[l,by rw[e];show q,.inl J]
   .let#v[i,a]:=acj e;show#v[i,a,.inr w]
  rw[T.live a];dsimp only;rw[Kq T.toTb];by_cases d:F i=h
  .show#v[p.j,i,(tM m).advance p,f,cY f,T.live a,a,d,by rw[af (by rw[d];simp)],Kj hd,x]
  .rw[ai (by exists d)];have w:=x.resolve_left λe=>d (by rw[e];show r);let#v[j,z,A,b,B,y]:=Yv T F h q r f _ (Kj hd) w g ();show#v[j,z,A,b,by omega,y]
theorem Yy(T:Tu t m n)(F:Nat->Int)(h:Int):∀(f:Nat) (p:dE),p.dummy=Z->p' t f p->∀g,f<=g->(∃j,t.slot j=.empty/\eZ t F h g p=U (.empty j Z)/\Wy m (Oc t) j f p)\/
  ∃j i next c,c<f/\t.slot j=.live i/\t.place[i]?=U j/\F i=h/\eZ t F h g p=U (.candidate j i next)/\next.dummy=Z/\p' t c next/\∀x,Wy m (Oc t) x c next->Wy m (Oc t) x f p
 |0,p,_,a,g,_=>a.elim
 |f+1,p,hd,a,0,y=>au y ()
 |f+1,p,hd,a,g+1,y=>by
  delta eZ;rcases T.slot p.j with ⟨i,b,d⟩|b
  .have a:p' t f (t.advance p):=a.resolve_left λe=>by rw[b]at e;ext e
   have r:Oc t p.j:=by rw[<-cp]at d;show ck d
   rw[b];dsimp only;by_cases q:F i=h
   .right;show#v[p.j,i,t.advance p,f,cY f,b,d,q,by rw[af (by rw[q];simp)],Kj hd,a,λx w=>.inr #v[r,by rw[<-Kq T.toTb];show w]]
   .rw[ai (by exists q)];rcases Yy T F h f (t.advance p) (Kj hd) a g ()with ⟨j,u,l,o⟩|⟨j,G,H,c,u,l,o,z,A,B,C,E⟩
    .show .inl #v[j,u,l,.inr #v[r,by rw[<-Kq T.toTb];show o]]
    .show .inr #v[j,G,H,c,by omega,l,o,z,A,B,C,λx w=>.inr #v[r,by rw[<-Kq T.toTb];show E x w]]
  .left;rw[b];show#v[p.j,b,by rw[hd],.inl J]
end
noncomputable abbrev hkE(prog:bj) (w:aR) (q:List ef×Addr):Int×aa:=(tupleKeyHash (vB prog w) q.1,.ref q.2)
structure Eh(prog:bj)(w:aR)(h:Heap)(L:List (List ef×Addr))(es:Array (Int×aa)):Prop where
 tk:∀q∈L,TK prog w h q.1 q.2
 p:es.toList.Perm (L.map (hkE prog w))
section
variable{s:aq}
theorem Eh.at(l:Eh prog w s.heap L es){i:Nat}{e:Int×aa}(a:es[i]?=U e):∃q∈L,e=hkE prog w q:=by rw[<-cp]at a;let#v[q,b,rfl]:=aw.1 (l.p.mem_iff.1 (ck a));show#v[q,b,J]
theorem HL{Q:SetFound->aq->Prop}{R:Nat->dE->Prop}{At:Nat->Prop}(O:A.units<cLine)(T:Tb t m n)(N:m % 2=1)(u:t.fits b.size=γ)(l:Eh prog w s.heap L b)(G:TK prog w s.heap C W)
  (F:s.heap.get? S=U o) (hd:o.data=.set b ep t) (hZ:∀j,At j->Q (.free j δ) s) (hT:C∈L.map aj->Q (.there Z) s)
  (step:∀f p,p.dummy=Z->R f p->f<=10 * cv m->(∃j,eZ t (λi=>(b[i]?.map (·.1)).getD 0) h (10 * cv m) p=U (.empty j Z)/\At j)\/∃j i next y,y<f/\t.slot j=.live i/\t.place[i]?=U j/\
   eZ t (λi=>(b[i]?.map (·.1)).getD 0) h (10 * cv m) p=U (.candidate j i next)/\next.dummy=Z/\((∃q∈L,b[i]?=U (hkE prog w q)/\q.1=C)\/R y next)):∀(fuel f:Nat) (st:Option dE),f<fuel->f<=10 * cv m->(st.getD (t.probeStart h)).dummy=Z->R f (st.getD (t.probeStart h))->
   av (model prog w) A (setSearchFrom S (.ref W) h γ fuel st) Q E s
 |0,f,st,M,_,_,_=>au M ()
 |fuel+1,f,st,M,hg,hdm,r=>by
  have sz:b.size=n:=by delta iy at u;rw[bA,beq_iff_eq,T.pl]at u;show u.1.symm
  delta setSearchFrom;calc ar (dO F hd u ?_);dsimp only;rw[ai (by delta SetTable.gaveWay;rw[T.mask,N];decide)];delta SetTable.probe;rw[ab7 (F':=λi=>(b[i]?.map (·.1)).getD 0),T.mask]
  rotate_left
  .intro i;rfl
  rcases step f _ hdm r hg with ⟨j,X,z⟩|⟨j,i,P,y,h1,Y,h3,h5,h6,h7⟩
  .rw[X];show aC (hZ j z)
  .rw[h5];dsimp only;have I:i<b.size:=by rw[sz,<- T.pl];show(jY.1 h3).1
   let#v[q,d,H,c]:∃q∈L,b[i]?=U (hkE prog w q)/\(q.1=C\/R y P):=by
    rcases h7 with ⟨q,d,e,k⟩|h7
    .show#v[q,d,e,.inl k]
    .let#v[q,d,e]:=l.at (di I);show#v[q,d,by rw[<-e,di I],.inr h7]
   have t1:=l.tk q d;have si:t.sameMemory t.moves m=U γ:=by delta SetTable.sameMemory;simp
   have sb:∀v∈oa (λx:Int×aa=>x.snd) (Array.filter (λx=>x.fst==h) b).toList,∃k a,v=Value.ref a/\TK prog w s.heap k a:=λv hv=>by
    let#v[e,r,rfl]:=aw.1 hv;have r:e∈b.toList:=by rw[Array.toList_filter]at r;show(bE.1 r).1
    let#v[q,d,rfl]:=aw.1 (l.p.mem_iff.1 r);show#v[q.1,q.2,J,l.tk q d]
   cases hb:t.led;refine ar (To sb G ?_)
   all_goals
    rw[H];calc ar (dt (wpAny_eqBool_tuple O t1 G ?_));calc ar (dO F hd u ?_);by_cases B:q.1=C
    .rw[aM B];show aC (hT (aw.2 #v[q,d,B]))
    rw[aP B];dsimp only;rw[ai #[],si];dsimp only;rw[af J,Y];dsimp only;rw[H];calc ar (wpAny_isSame_ref_self ?_);calc ar (aC ?_);show HL O T N u l G F hd hZ hT step fuel y (U P) () () h6 (c.resolve_left B)
def W6(m:Nat)(t:cH)(a:Array (Int×aa)):Prop:=∀(i:Nat) (e:Int×aa) (j:Nat),a[i]?=U e->t.place[i]?=U j->Wy m (Oc t) j (10 * cv m) ((tM m).probeStart e.1)
def TH{Q:SetFound->aq->Prop}(P:A.units<cLine)(T:Tu t m n)(h:m % 2=1/\10 * cv m<100000)(d:t.fits a.size=γ)(l:Eh prog w s.heap L a)(W:W6 m t a)(Y:TK prog w s.heap u y)(O:s.heap.get? S=U o)(hd:o.data=.set a ep t)
  (M:u∈L.map aj) (hT:Q (.there Z) s):av (model prog w) A (setSearchFrom S (.ref y) (tupleKeyHash (vB prog w) u) γ 100000 Z) Q E s:=by
 let#v[q,r,rfl]:=aw.1 M;let#v[b,e,c]:=dY.1 (l.p.mem_iff.2 (bT (f:=hkE prog w) r));have c:a[b]?=U (hkE prog w q):=by rw[<-cp,aI e,c]
 have sz:a.size=t.place.size:=by delta iy at d;rw[bA,beq_iff_eq]at d;show d.1.symm
 rw[bL]at e;have x:t.place[b]?=U t.place[b]:=di ();refine HL (At:=λv=>False) (R:=λf p=>Wy m (Oc t) t.place[b] f p) P T.toTb h.1 d l Y O hd (λj z=>z.elim) (λv=>hT) (λf p hdm wy N=>.inr ?_) 100000 _ Z h.2 (aG _) J (by
  rw[qC,Yu T.toTb];show W b _ _ c x)
 let#v[j,i,X,B,C,F,G,h4,H,I,h7]:=Yv T (λi=>(a[i]?.map (·.1)).getD 0) (tupleKeyHash (vB prog w) q.1) x (by change (a[b]?.map (·.1)).getD 0=_;rw[c];rfl) f p hdm wy _ N
 calc#v[j,i,X,B,C,F,G,H,I,?_];rcases h7 with rfl|h7
 .show .inl #v[q,r,c,J]
 .show .inr h7
def TJ(O:A.units<cLine)(T:Tu t m n)(q:m % 2=1/\10 * cv m<100000)(I:t.fits a.size=γ)(l:Eh prog w s.heap L a)(Y:TK prog w s.heap W r)(N:s.heap.get? S=U o)(hd:o.data=.set a ep t)
  (H:W∉L.map aj) (u:p' t (10 * cv m) (t.probeStart h)) (hZ:∀j,t.slot j=.empty->Wy m (Oc t) j (10 * cv m) ((tM m).probeStart h)->Q (.free j δ) s):av (model prog w) A (setSearchFrom S (.ref r) h γ 100000 Z) Q E s:=by
 refine HL (At:=λj=>t.slot j=.empty/\Wy m (Oc t) j (10 * cv m) ((tM m).probeStart h)) (R:=λf p=>p' t f p/\∀x,Wy m (Oc t) x f p->Wy m (Oc t) x (10 * cv m) ((tM m).probeStart h)) O T.toTb q.1 I l Y N hd (λj z=>hZ j z.1 z.2) (λz=>au z H) (λf p hdm e M=>?_) 100000 _ Z q.2 (aG _) J #v[u,λx w=>by
  rw[qC,Yu T.toTb]at w;show w]
 rcases Yy T (λi=>(a[i]?.map (·.1)).getD 0) h f p hdm e.1 _ M with ⟨j,b,c,d⟩|⟨j,P,X,y,b,c,d,h4,B,C,F,G⟩
 .show .inl #v[j,c,b,e.2 j d]
 .show .inr #v[j,P,X,y,b,c,d,B,C,.inr #v[F,λx z=>e.2 x (G x z)]]
end
def Mm(m:Nat):Prop:=m=7\/m=31\/m=127
def orbM(m:Nat):Nat->Nat->Nat->Nat
 |0,_,z=>z
 |k+1,i,z=>orbM m k ((i * 5+1) % (m+1)) (z|||2 ^ i)
theorem O2:∀(k i z:Nat),(orbM m k i z).testBit r=γ->r∈orb m k i\/z.testBit r=γ
 |0,i,z,h=>.inr h
 |k+1,i,z,h=>by
  rcases O2 k _ _ h with h|h
  .show .inl (bg _ h)
  .rw[Nat.testBit_or,Nat.testBit_two_pow,kF,bU]at h;rcases h with h|rfl
   .show .inr h
   .show .inl aX
def TL(a:Mm m)(b:i<=m)(c:r<=m):r∈orb m (m+1) i:=by
 have h:∀m∈[7,31,127],((bh (m+1)).all λi=>orbM m (m+1) i 0==2 ^ (m+1) - 1)=γ:=by decide +kernel
 have:=bH.1 (h m (by rcases a with rfl|rfl|rfl<;>simp)) i (bY.2 ());calc(O2 (m+1) i 0 ?_).resolve_right (by simp);rw[gO this,Nat.testBit_two_pow_sub_one,bU];omega
def Mm.odd(h:Mm m):m % 2=1/\10 * cv m<100000:=by rcases h with rfl|rfl|rfl<;>decide
section
theorem p'.al(T:Tb t m n)(c:Mm m)(d:n<=m):∀(k i q:Nat),i<=m->q<32 ^ k->p' t (10 * (k+(m+1))) (rs m i q)
 |0,i,q,b,a=>by
  let#v[r,f,e]:=T.free d;have h:q=0:=by exists a
  rw[h,kI];show p'.orb T e _ _ (TL c b f)
 |k+1,i,q,b,a=>by have:=p'.leap T (p'.al T c d k ((i * 5+1+q / 32) % (m+1)) (q / 32) (gq (eK _ (fC m))) (by rw[rV]at a;omega));show this.mono ()
def O3(h:Int):du h<32 ^ 13:=by delta du;omega
def p'.st(T:Tb t m n)(a:Mm m)(b:n<=m)(h:Int):p' t (10 * cv m) (t.probeStart h):=by
 have:=p'.al T a b 13 (du h % (m+1)) (du h) (gq (eK _ (fC m))) (O3 h);have e:t.probeStart h=rs m (du h % (m+1)) (du h):=by delta SetTable.probeStart;rw[T.mask];rfl
 rw[e];show this.mono (by delta cv;omega)
variable{ow:Array (Option Nat)}
theorem TM:∀(k a x:Nat),k<=a->(∀b,b<k->O (x+b))->x+k=j->Wy m O j (k+1) #v[x,a,i,q,Z]
 |0,a,x,_,_,e=>.inl e
 |k+1,0,x,h,_,_=>au h ()
 |k+1,a+1,x,h,c,e=>.inr #v[c 0 (),by
   have d:(tM m).advance #v[x,a+1,i,q,Z]=#v[x+1,a,i,q,Z]:=by delta ip;rw[af (fC a)];rfl
   rw[d];show TM k a (x+1) () (λb f=>by rw[show x+1+b=x+(b+1) by omega];show c _ ()) ()]
theorem O4(h:Wy m O j f (rs m ((i * 5+1+q / 32) % (m+1)) (q / 32))):∀(mo x:Nat),(∀k,k<=mo->O (x+k))->Wy m O j (f+mo+1) #v[x,mo,i,q,Z]
 |0,x,a=>.inr #v[a 0 (aG _),by
   have e:(tM m).advance #v[x,0,i,q,Z]=rs m ((i * 5+1+q / 32) % (m+1)) (q / 32):=by delta ip rF;rfl
   rw[e];show h]
 |mo+1,x,a=>.inr #v[a 0 (),by
   have b:(tM m).advance #v[x,mo+1,i,q,Z]=#v[x+1,mo,i,q,Z]:=by delta ip;rw[af (fC mo)];rfl
   rw[b];show O4 h mo (x+1) λk c=>by rw[show x+1+k=x+(k+1) by omega];show a _ ()]
abbrev Oo(m:Nat)(ow:Array (Option Nat))(x:Nat):Prop:=x<=m/\¬Nn ow x
def Yz(a:i<=m):i<=cM m i/\cM m i<=m/\cM m i<=i+9:=by delta cM;split<;>omega
def Kr(A:i<=m):(∃k,k<=cM m i - i/\Nn ow (i+k)/\(∀c,c<k->¬Nn ow (i+c))/\dX m ow (f+1) i q=U (i+k))\/
  ((∀k,k<=cM m i - i->¬Nn ow (i+k))/\dX m ow (f+1) i q=dX m ow f ((i * 5+1+q / 32) % (m+1)) (q / 32)):=by
 have r:dX m ow (f+1) i q=match (bh (cM m i+1 - i)).find? λk=>(ow.getD (i+k) (U 0)).isNone with
  |some k=>U (i+k)
  |none=>dX m ow f ((i * 5+1+q / 32) % (m+1)) (q / 32):=rfl
 have F:=Yz A;rw[r];cases e:(bh (cM m i+1 - i)).find? λk=>(ow.getD (i+k) (U 0)).isNone with
 |some k=>
  let#v[u,a,b,l,w]:=List.find?_eq_some_iff_append.1 e;have B:a.length=k/\∀x,x<k->x∈a:=by
   have t:(bh (cM m i+1 - i))[a.length]?=U k:=by rw[l];simp
   let#v[C,p]:=bZ.1 t;rw[l4]at p;calc#v[p,λx E=>?_];have j:(bh (cM m i+1 - i))[x]?=U x:=by rw[lR];rw[cI]at C;omega
   rw[l,cU ()]at j;show ck j
  have o:k∈bh (cM m i+1 - i):=lG e;rw[bY]at o;have y:∀c,c<k->¬Nn ow (i+c):=λc d z=>by have:=w c (B.2 c d);delta Nn at z;rw[z]at this;ext this
  show .inl #v[k,by omega,u,y,J]
 |none=>calc .inr #v[λk o h=>?_,J];have:=kr.1 e k (bY.2 ());show this h
theorem Jx(b:Nn ow r):∀(k f i:Nat),k<=f->i<=m->r∈orb m k i->∃j,dX m ow f i 0=U j
 |0,f,i,_,_,h=>by cases h
 |k+1,0,i,a,_,_=>au a ()
 |k+1,f+1,i,a,l,h=>by
  rcases Kr (ow:=ow) (f:=f) (q:=0) l with ⟨o,_,_,_,e⟩|⟨c,d⟩
  .show#v[_,e]
  .rcases aJ.1 h with e|h
   .show au (e▸b) (c 0 (bP _))
   .rw[d];show Jx b k f _ () (gq (eK _ (fC m))) h
theorem O5(h:Mm m)(l:Nn ow r)(a:r<=m):∀(k f i q:Nat),k+(m+1)<=f->i<=m->q<32 ^ k->∃j,dX m ow f i q=U j
 |0,f,i,q,c,b,d=>by
  have p:q=0:=by exists d
  rw[p];show Jx l (m+1) f i () b (TL h b a)
 |k+1,0,i,q,c,_,_=>au c ()
 |k+1,f+1,i,q,c,b,d=>by
  rcases Kr (ow:=ow) (f:=f) (q:=q) b with ⟨t,_,_,_,e⟩|⟨_,o⟩
  .show#v[_,e]
  .rw[o];show O5 h l a k f _ _ () (gq (eK _ (fC m))) (by rw[rV]at d;omega)
theorem O6:∀(f i q:Nat),i<=m->dX m ow f i q=U j->Nn ow j/\Wy m (Oo m ow) j (10 * f) (rs m i q)
 |0,i,q,_,e=>by cases e
 |f+1,i,q,o,e=>by
  have r:=Yz o;rcases Kr (ow:=ow) (f:=f) (q:=q) o with ⟨k,a,b,c,d⟩|⟨a,b⟩
  .rw[d]at e;ext e;show#v[b,(TM k _ i a (λp l=>#v[by omega,c p l]) J).mono (λz h=>h) ()]
  .rw[b]at e;let#v[c,d]:=O6 f _ _ (gq (eK _ (fC m))) e;show#v[c,(O4 d (cM m i - i) i λk l=>#v[by omega,a k l]).mono (λz h=>h) ()]
def O?(m:Nat)(ow:Array (Option Nat)):List (Nat×Nat):=(bh (m+1)).filterMap λj=>(ow.getD j Z).map (j,·)
def nn_m(b:ow.size=m+1)(h:Nn ow j):j<m+1/\ow.getD j Z=Z:=by
 delta Nn at h;by_cases a:j<ow.size
 .calc#v[by omega,?_];rw[fJ,di a]at h ⊢;exists h
 .rw[fJ,Array.getElem?_eq_none ()]at h;ext h
def TN(b:ow.size=m+1)(a:j<=m)(e:ow.getD j Z=Z):Nn ow j:=by delta Nn;rw[fJ,di ()]at e ⊢;exists e
def O7(b:j<ow.size)(i:Nat):(ow.setIfInBounds j (U k)).getD i Z=if i=j then U k else ow.getD i Z:=by
 rw[fJ,fJ,Array.getElem?_setIfInBounds];by_cases a:j=i
 .subst a;rw[af J,af (),af J];rfl
 .rw[ai a,ai (λe=>a e.symm)]
def W7(q:ow.size=m+1)(h:Nn ow j):(O? m (ow.setIfInBounds j (U k))).Perm ((j,k)::O? m ow):=by
 let#v[p,e]:=nn_m q h;have get:=O7 (ow:=ow) (k:=k) (j:=j) ();let#v[a,b,o]:=p9 (bY.2 p);have c:(bh (m+1)).Nodup:=mC;rw[o,cq,cu]at c;delta O?;rw[o,pD,pD,dF,dF,get j,af J,e];have d:∀l:List Nat,j∉l->l.filterMap (λi=>((ow.setIfInBounds j (U k)).getD i Z).map (i,·))=l.filterMap λi=>(ow.getD i Z).map (i,·):=λl f=>by
  induction l with
  |nil=>rfl
  |cons i l r=>rw[dF,dF,r λz=>f (bg _ z),get i,ai λe=>f (by rw[<-e];show aX)]
 rw[d a λz=>c.2.2 j z j aX J,d b c.2.1.1];show kB
def TQ(c:ow.size=m+1)(a:(O? m ow).length<=m):∃r,r<=m/\Nn ow r:=by
 apply hU;intro no;have:∀l:List Nat,(∀j∈l,j<=m)->(l.filterMap λj=>(ow.getD j Z).map (j,·)).length=l.length:=λl a=>by
  induction l with
  |nil=>rfl
  |cons j l f=>
   have b:=a j aX;cases e:ow.getD j Z with
   |none=>show au #v[j,b,TN c b e] no
   |some x=>rw[dF,e];change (List.filterMap _ l).length+1=l.length+1;rw[f λz d=>a z (bg _ d)]
 have:=this (bh (m+1)) λj b=>by have:=bY.1 b;omega
 delta O? at a;rw[this,cI]at a;omega
def Lw(m:Nat)(ow:Array (Option Nat))(a:List Int):Prop:=∀j k,j<=m->ow.getD j Z=U k->∃h,a[k]?=U h/\Wy m (Oo m ow) j (10 * cv m) ((tM m).probeStart h)
#print h
theorem YA(p:Mm m):∀(b pre:List Int) (ow:Array (Option Nat)),ow.size=m+1->((O? m ow).map cb).Perm (bh pre.length)->Lw m ow pre->pre.length+b.length<=m->∃a,a.size=m+1/\((O? m a).map cb).Perm (bh (pre.length+b.length))/\Lw m a (pre++b)/\
  (b.foldl (λacc h=>do
   let (owner,k)<-acc;let j<-dX m owner (cv m) (du h % (m+1)) (du h)
   pure (owner.setIfInBounds j (U k),k+1)) (U (ow,pre.length)))=U (a,pre.length+b.length)
 |[],pre,ow,c,f,i,_=>#v[ow,c,f,by rw[bF];show i,J]
 |h::b,pre,ow,c,f,i,F=>by
  rw[aL]at F;have H:=f.length_eq;rw[ah,cI]at H;let#v[r,G,I]:=TQ c ();have q:du h % (m+1)<=m:=gq (eK _ (fC m));let#v[j,o]:=O5 p I G 13 (cv m) (du h % (m+1)) (du h) (by delta cv;omega) q (O3 h);let#v[t,N]:=O6 _ _ _ q o;have O:=(nn_m c t).1;have get:=O7 (ow:=ow) (k:=pre.length) (j:=j) ();have B:∀x,Oo m ow x->Oo m (ow.setIfInBounds j (U pre.length)) x:=λx d=>#v[d.1,λz=>by
   have:=(nn_m (m:=m) (by rw[o5];show c) z).2;rw[get x]at this;split at this
   .ext this
   .show d.2 (TN c d.1 this)]
  let#v[a,M,u,A,y]:=YA p b (pre++[h]) (ow.setIfInBounds j (U pre.length)) (by rw[o5];show c) (by
   calc((W7 c t).map cb).t ?_;rw[aA,aH,bq,List.range_succ];show((List.Perm.cons _ f).t (jZ _ _).symm)) (λx k d e=>by
    rw[get x]at e;split at e
    .rename_i C;ext e;subst C;show#v[h,by rw[cR (aG _),iA];rfl,N.mono B (aG _)]
    .let#v[E,l,w]:=i x k d e;show#v[E,by rw[cU (bZ.1 l).1];show l,w.mono B (aG _)]) (by rw[aH,bq];omega)
  rw[aH,bq]at u y;calc#v[a,M,by rw[aL,show pre.length+(b.length+1)=pre.length+1+b.length by omega];show u,by rw[bN]at A;show A,?_];rw[c4,aL,show pre.length+(b.length+1)=pre.length+1+b.length by omega,<- y];congr 1;change (dX m ow (cv m) (du h % (m+1)) (du h)).bind _=_;rw[o];rfl
#print f
def acn(F:Mm m)(a:Array Int)(G:a.size<=m):∃t order,rH m fg mv led pl a=U (t,order)/\Tu t m a.size/\t.led=led/\t.plain=pl/\order.toList.Perm (bh a.size)/\
  ∀(i j k:Nat),t.place[i]?=U j->order[i]?=U k->∃h,a[k]?=U h/\Wy m (Oc t) j (10 * cv m) ((tM m).probeStart h):=by
 have no:∀j,(mI (m+1) (Z:Option Nat)).getD j Z=Z:=λj=>by rw[fJ,Array.getElem?_replicate];split<;>rfl
 let#v[ow,C,d,E,u]:=YA F a.toList [] (mI (m+1) Z) (by simp) (by
  have:O? m (mI (m+1) Z)=[]:=by delta O?;rw[List.filterMap_eq_nil_iff];intro j w;rw[no j];rfl
  rw[this];show .nil) (λj k v e=>by rw[no j]at e;ext e) (by rw[bL];exists G)
 rw[dr,kI,bL]at d u;have e:qk m a=U ow:=by delta qk;rw[<-Array.foldl_toList];show aW (kW aj) u
 have mem:∀q∈O? m ow,q.1<=m/\ow.getD q.1 Z=U q.2:=λq z=>by
  delta O? at z;let#v[j,w,e]:=ja.1 z;cases b:ow.getD j Z with
  |none=>rw[b]at e;cases e
  |some x=>rw[b]at e;ext e;show#v[gq (bY.1 w),b]
 refine#v[#v[m,((O? m ow).map (·.1)).toArray,[].toArray,fg,led,mv,pl],((O? m ow).map (·.2)).toArray,by delta rH;rw[e];rfl,#v[#v[J,J,?_],?_],J,J,d,λi j k p c=>?_]
 .have:=d.length_eq;rw[ah,cI]at this;rw[bI,ah,this]
 .change List.Pairwise _ ((O? m ow).map (·.1))
  have sub:∀l:List Nat,((l.filterMap λj=>(ow.getD j Z).map (j,·)).map (·.1)).Sublist l:=λl=>by
   induction l with
   |nil=>show .slnil
   |cons x l A=>
    rw[dF];cases ow.getD x Z with
    |none=>show A.cons x
    |some y=>show A.cons_cons x
  show uy (sub _) List.pairwise_lt_range
 .rw[j9,br]at p c;let#v[q,o,rfl]:=o8.1 p;rw[o]at c;ext c;let#v[H,I]:=mem q (ck o);let#v[h,r,B]:=E q.1 q.2 H I;calc#v[h,by rw[bQ,cp]at r;show r,B.mono (λx f=>?_) (aG _)];change x∈(O? m ow).map (·.1)
  cases b:ow.getD x Z with
  |none=>show au (TN C f.1 b) f.2
  |some y=>show aw.2 #v[(x,y),ja.2 #v[x,bY.2 (by have:=f.1;omega),by rw[b];rfl],J]
end
theorem YB{c j:Type}(f:c->Option j):∀(l:List c),(∀k∈l,∃e,f k=U e)->∀i:Nat,(l.filterMap f)[i]?=l[i]?.bind f
 |[],_,i=>rfl
 |a::l,h,i=>by
  let#v[e,b]:=h a aX;rw[dF,b];cases i with
  |zero=>show b.symm
  |succ i=>show YB f l (λk d=>h k (bg _ d)) i
section
def W8(y:(t.mask=7/\es.size=5/\m=31)\/(t.mask=31/\es.size=19/\m=127))(c:s.heap.get? S=U o)(hd:o.data=.set es ep t)(z:t.fits es.size=γ)
  (hQ:∀h' es' t',gH S s.heap h'->h'.get? S=U { o with data:=.set es' (ep+1) t' }->Tu t' m es.size->W6 m t' es'->t'.led=t.led->t'.plain=t.plain->es'.toList.Perm es.toList->Q Unit.unit { s with heap:=h' }):av (model prog w) A (setRelay S (jt es.size)) Q E s:=by
 have hm:Mm m:=by delta Mm;omega
 have B:qa (jt es.size) - 1=m/\¬qa (jt es.size) > 1000:=by rcases y with ⟨_,e,rfl⟩|⟨_,e,rfl⟩<;>rw[e]<;>decide
 delta setRelay;calc ar (dO c hd z ?_);dsimp only;rw[ai (by rw[bS];omega)];let#v[t',order,p,T,q,r,b,u]:=acn (fg:=t.finger) (mv:=t.movedTo m) (led:=t.led) (pl:=t.plain) hm (es.map (·.1)) (by rw[q9];omega)
 rw[q9]at T b;have all:∀k∈order.toList,∃e,es[k]?=U e:=λk F=>#v[es[k]'(bY.1 (b.mem_iff.1 F)),di _];have l:(order.filterMap (es[·]?)).toList.Perm es.toList:=by rw[pd];show(b.filterMap _).t (by rw[lH])
 have x:t.relaid (es.map (·.1)) (jt es.size)=U (t',order):=by delta SetTable.relaid;rw[B.1];show p
 rw[x];have sz:(order.filterMap (es[·]?)).size=es.size:=by have:=l.length_eq;rw[bL,bL]at this;show this
 calc ar ?_;wp_delta;dsimp only;rw[ai (by rw[sz];simp)];calc aC ?_;refine ql c hd ?_ (by change (order.filterMap (es[·]?)).size<=aS;rw[sz,bS];omega)
 calc hQ _ _ _ (eW ..) (Sx c hd) T (λi e j a C=>?_) q r l;rw[<-cp,pd,YB _ _ all]at a;let#v[k,f,a]:=o6.1 a;rw[cp]at f;let#v[h,d,w]:=u i j k C f;rw[Array.getElem?_map,a]at d;ext d;show w
def Cw(m n:Nat)(t:cH)(a:Array (Int×aa)):Prop:=Tu t m n/\T1 m n/\W6 m t a
def cz_m(h:T1 m n):Mm m/\n<=m/\n+1<=m:=by delta T1 at h;delta Mm;omega
def cz_g(h:T1 m n)(b:n<63)(c:(n+1) * 5 >= m * 3):∃a,((m=7/\n+1=5/\a=31)\/(m=31/\n+1=19/\a=127))/\T1 a (n+1):=by
 delta T1 at h ⊢;by_cases z:m=7
 .show#v[31,by omega]
 .show#v[127,by omega]
def cz_n(h:T1 m n)(a:n<63)(b:¬(n+1) * 5 >= m * 3):T1 m (n+1):=by delta T1 at h ⊢;omega
#print h
def aet(R:A.units<cLine)(C:Cw m n t es)(u:n<63)(f:t.fits es.size=γ)(l:Eh prog w s.heap L es)(N:TK prog w s.heap (Sum.inr x::q) a)
  (p:s.heap.get? S=U o) (hd:o.data=.set es ep t) (hT:(Sum.inr x::q)∈L.map aj->Q δ s)
  (hQ:(Sum.inr x::q)∉L.map aj->∀h' es' t' H B,gH S s.heap h'->h'.get? S=U { o with data:=.set es' H t' }->Cw B (n+1) t' es'->t'.led=t.led->t'.plain=δ->es'.toList.Perm ((tupleKeyHash (vB prog w) (Sum.inr x::q),.ref a)::es.toList)->Q γ { s with heap:=h' }):
  av (model prog w) A (setAddHashed S (.ref a) (tupleKeyHash (vB prog w) (Sum.inr x::q))) Q E s:=by
 let#v[T,y,W]:=C;have hm:Mm m:=(cz_m y).1;have sz:es.size=n:=by delta iy at f;rw[bA,beq_iff_eq,T.pl]at f;show f.1.symm
 delta setAddHashed setAddHashedIn;calc dt (ar (dO p hd f ?_));dsimp only;rw[ai (by simp[byScan,Value.scannable])];have nm:n<=m:=(cz_m y).2.1;by_cases ne:(Sum.inr x::q)∈L.map aj
 .calc ar (TH R T hm.odd f l W N p hd ne ?_);show aC (hT ne)
 generalize hh:tupleKeyHash (vB prog w) (Sum.inr x::q)=h at hQ ⊢;calc ar (TJ R T hm.odd f l N p hd ne (p'.st T.toTb hm nm h) λj hj wj=>?_);dsimp only;calc ar (dO p hd f ?_);dsimp only;have p1:(t.put j).1.mask=m:=T.mask;have p2:(t.put j).1.dummies=[].toArray:=by change (if rR t.dummies j then _ else t.dummies)=_;rw[T.dm];rfl
 have bl:=(HK T.up j).1;have p3:(t.put j).1.place.size=n+1:=by have:=(lJ t.place (bO t.place j) j).length_eq;rw[bL,bL,Array.size_push,T.pl]at this;show this
 have M:(cX es (t.put j).2 (h,Value.ref a)).toList.Perm ((h,.ref a)::es.toList):=by calc(lJ es _ _).t ?_;rw[mj];show jZ _ _
 have z:(cX es (t.put j).2 (h,Value.ref a)).size=n+1:=by have:=M.length_eq;rw[bL,aL,bL,sz]at this;show this
 let d:cH:={ (t.put j).1 with plain:=δ };have c:Tu d m (n+1):=#v[#v[p1,p2,p3],aci T.up (T.emp hj)];have up:∀x,Oc t x->Oc d x:=λx hx=>by change x∈(cX t.place (bO t.place j) j).toList;rw[(lJ _ _ _).mem_iff,mj];show bw _ hx
 have X:W6 m d (cX es (t.put j).2 (h,Value.ref a)):=λi e r b hr=>by
  have b:(cX es (bO t.place j) (h,Value.ref a))[i]?=U e:=b;have hr:(cX t.place (bO t.place j) j)[i]?=U r:=hr;rw[Bt _ (by rw[sz,<- T.pl];show bl)]at b;rw[Bt _ bl]at hr;by_cases c1:i<bO t.place j
  .rw[af c1]at b hr;show(W i e r b hr).mono up (aG _)
  .rw[ai c1]at b hr;by_cases c2:i=bO t.place j
   .rw[af c2]at b hr;ext b;ext hr;show wj.mono up (aG _)
   .rw[ai c2]at b hr;show(W (i - 1) e r b hr).mono up (aG _)
 have f1:d.fits (cX es (t.put j).2 (h,Value.ref a)).size=γ:=by delta iy mY;rw[z,c.pl,c.dm,c.mask,bA];show#v[by simp,aM (by have:=(cz_m y).2.2;simp;first|show this|omega)]
 have fin:∀F:cH,F=d->av (model prog w) A (do
   storeSet S (cX es (t.put j).2 (h,.ref a)) F
   if (!δ&&F.tooFull)=γ then do setRelay S (jt (es.size+1));pure γ else pure γ) Q E s:=λF e=>by
  subst e;calc ar (ql p hd ?_ (by rw[z,bS];omega));have g1:=Sx (es':=cX es (t.put j).2 (h,Value.ref a)) (t':=d) p hd;have tf:d.tooFull=decide ((n+1) * 5 >= m * 3):=by delta SetTable.tooFull mY;rw[c.pl,c.dm,c.mask];rfl
  rw[tf];by_cases h5:(n+1) * 5 >= m * 3
  .rw[aM h5,af #[],sz,<- z];let#v[B,I,hz]:=cz_g y u h5;calc ar (W8 (m:=B) (s:={ s with heap:=s.heap.update S (nW (cX es (t.put j).2 (h,.ref a)) d) }) (by rw[z,c.mask];show I) g1 J f1 λh' es' t' Y b2 O G b4 b5 b6=>?_);rw[z]at O;show aC (hQ ne h' es' t' _ B ((eW ..).t Y) b2 #v[O,hz,G] b4 b5 (b6.t M))
  .rw[aP h5,ai #[]];show aC (hQ ne _ _ _ _ m (eW ..) g1 #v[c,cz_n y u h5,X] J J M)
 split
 .calc ar (Tq N ?_);show fin _ J
 .rename_i P;calc ar (aC (fin _ ?_));rw[qB]at P;rw[af J];change (t.put j).1={ (t.put j).1 with plain:=δ };rw[<-P]
end
#print f
section
variable{κ α:Type}[DecidableEq κ]
def Bx(acc:List (κ×α))(q:κ×α):List (κ×α):=if q.1∈acc.map aj then acc else acc++[q]
def i?(l:List (κ×α)):List (κ×α):=l.foldl Bx []
def Hj(l:List κ):List κ:=l.foldl (λacc k=>if k∈acc then acc else acc++[k]) []
theorem Ks(acc:List (κ×α)):∀l:List (κ×α),∃r,l.foldl Bx acc=acc++r/\∀q∈r,q∈l
 |[]=>#v[[],(bF _).symm,λq a=>by ext a]
 |q::l=>by
  let#v[r,e,h]:=Ks (Bx acc q) l;rw[c4,e];delta Bx;split
  .show#v[r,J,λq a=>bg _ (h q a)]
  .calc#v[q::r,by rw[bN];rfl,λx b=>?_];rcases aJ.1 b with rfl|b
   .show aX
   .show bg _ (h x b)
def TR(l:List (κ×α))(q:κ×α):i? (l++[q])=Bx (i? l) q:=by delta i?;rw[mf];rfl
def O8(l:List (κ×α))(i:Nat):(i? (l.take i)).length<=(i? l).length:=by
 have e:i? l=(l.drop i).foldl Bx (i? (l.take i)):=by delta i?;rw[<-mf,ic]
 let#v[r,h,_]:=Ks (i? (l.take i)) (l.drop i);rw[e,h,aH];omega
def Kt{l:List (κ×α)}{q:κ×α}(h:q∈i? l):q∈l:=by let#v[r,e,a]:=Ks ([]:List (κ×α)) l;delta i? at h;rw[e]at h;show a q h
theorem TU:∀(l:List (κ×α)) (acc:List (κ×α)),(l.foldl Bx acc).map aj=(l.map aj).foldl (λacc k=>if k∈acc then acc else acc++[k]) (acc.map aj)
 |[],acc=>rfl
 |q::l,acc=>by
  rw[c4,TU l,aA,c4];congr 1;delta Bx;split
  .rfl
  .rw[aZ];rfl
def EJ(l:List (κ×α)):(i? l).map aj=Hj (l.map aj):=TU l []
#print h
theorem GP:∀(l acc:List κ),acc.Nodup->(l.foldl (λacc k=>if k∈acc then acc else acc++[k]) acc).Nodup/\∀x,x∈l.foldl (λacc k=>if k∈acc then acc else acc++[k]) acc ↔ x∈acc\/x∈l
 |[],acc,h=>#v[h,λx=>#v[.inl,λh=>h.resolve_right (by simp)]]
 |k::l,acc,h=>by
  rw[c4];split
  .rename_i f;let#v[c,d]:=GP l acc h;calc#v[c,λx=>(d x).t #v[λh=>h.imp id (bg _),λh=>?_]];rcases h with h|h
   .show .inl h
   .rcases aJ.1 h with rfl|h
    .show .inl f
    .show .inr h
  .rename_i f;let#v[c,d]:=GP l (acc++[k]) (cq.2 #v[h,cu.2 #v[b0,.nil],λa i b j e=>f (by rw[<-aN.1 j,<- e];show i)]);calc#v[c,λx=>(d x).t ?_];rw[bt,aN,aJ,or_assoc]
#print f
def HM(l:List κ):(Hj l).Nodup:=(GP l [] .nil).1
def zP{l:List κ}{x:κ}:x∈Hj l ↔ x∈l:=((GP l [] .nil).2 x).t #v[λh=>h.resolve_left (by simp),.inr]
def W9{c:Type}[DecidableEq c]{g:κ->c}(h:∀a b,g a=g b->a=b)(l:List (κ×α)):i? (l.map λq=>(g q.1,q.2))=(i? l).map λq=>(g q.1,q.2):=by
 have:∀(l acc:List (κ×α)),(l.map λq=>(g q.1,q.2)).foldl Bx (acc.map λq=>(g q.1,q.2))=(l.foldl Bx acc).map λq=>(g q.1,q.2):=λl=>by
  induction l with
  |nil=>intro acc;rfl
  |cons q l i=>
   intro acc;rw[aA,c4,c4,<- i];congr 1;delta Bx;have:g q.1∈(acc.map λq=>(g q.1,q.2)).map aj ↔ q.1∈acc.map aj:=by rw[aT,aw,aw];show#v[λ#v[a,e,f]=>#v[a,e,h _ _ f],λ#v[a,e,f]=>#v[a,e,aW g f]]
   by_cases d:q.1∈acc.map aj
   .rw[af d,af (this.2 d)]
   .rw[ai d,ai λz=>d (this.1 z),aZ];rfl
 show this l []
end
structure Xa(prog:bj)(w:aR)(h:Heap)(S:Addr)(L:List (List ef×Addr))(led:Bool)(n:Nat)(o:Obj)(es:Array (Int×aa))(ep:Nat)(t:cH):Prop extends CJ h S L led n o es ep t where
 cw:∃m,Cw m n t es
 pe:es.toList.Perm (L.map (hkE prog w))
section
def QD(W:WalksS prog w A.in1 I fp F GG n PP SS)(hSf:S∉fp)(hu:A.in1.units<cLine)(L:List (List ef×Addr))(hn:L.length=n)(h8:(i? L).length<63)(hk:∀q∈L,∃x k,q.1=Sum.inr x::k)(far:∀q∈L,q.2∉S::F)
  (hval:∀i v,PP i v->∃q,L[i]?=U q/\v=.ref q.2):∀(k i:Nat) (s:aq) (o:Obj) (es:Array (Int×aa)) (ep:Nat) (t:cH),n - i=k->i<=n->SS i s->(∀q∈L,TK prog w s.heap q.1 q.2)->Xa prog w s.heap S (i? (L.take i)) led (i? (L.take i)).length o es ep t->
   (∀s' o es ep t,Moved (S::F) GG s s'->Xa prog w s'.heap S (i? L) led (i? L).length o es ep t->R (.ok (.ret .none)) s')->
   cK (model prog w) A (.builtin "set.update.loop" #v[[.ref S,.ref I],[]]) R s:=by
 have hSw:S∉F:=λz=>hSf (W.sub _ z);have up:∀b∈F,b∈S::F:=λb z=>bg _ z;intro k
 induction k with
 |zero=>
  intro i s o es ep t M hi hst tk x hR;obtain rfl:i=n:=by omega
  calc eD j6 ?_;rw[eV gb _];change av _ A.in1 (pyNext (.ref I)>>=_) _ _ s;calc ar (W.done s _ _ hst λs' hm=>?_);change av _ A.in1 (ret Value.none) _ _ s';rw[j8 ()]at x;show aC (hR s' o es ep t (hm.mono up) { x with k0:=hm.heap S _ hSw x.k0 })
 |succ k ih=>
  intro i s o es ep t M hi hst tk x hR;have hlt:i<n:=by omega
  calc eD j6 ?_;rw[eV gb _];change av _ A.in1 (pyNext (.ref I)>>=_) _ _ s;calc ar (W.item i s _ _ hlt hst λv s' hP hst' hm=>?_);let#v[q,X,rfl]:=hval i v hP;have O:q∈L:=ck X;have f:∀q∈L,TK prog w s'.heap q.1 q.2:=λq Y=>(tk q Y).gp λo=>hm.heap q.2 o λz=>far q Y (up _ z);change av _ A.in1 (holding _ (setAdd S _)>>=_) _ _ s';calc ar (dt ?_);delta setAdd;calc dt ?_;calc ar (wpAny_pyHash_tuple hu (f q O) ?_);let#v[m,C]:=x.cw;let#v[z,N,E]:=hk q O;have tq:TK prog w s'.heap (Sum.inr z::N) q.2:=by rw[<-E];show f q O
  have split:i? (L.take (i+1))=Bx (i? (L.take i)) q:=by rw[qc,X];show TR _ _
  have sub:∀r∈i? (L.take i),r∈L:=λr hr=>(je _ _).subset (Kt hr);have h:Xa prog w s'.heap S (i? (L.take i)) led (i? (L.take i)).length o es ep t:={ x with k0:=hm.heap S _ hSw x.k0 };have ul:=O8 L i;have ul1:=O8 L (i+1);rw[E];refine aet (s:={ s' with toks:=s'.toks+((Sum.inr z::N:List ef).length+1) }) (L:=i? (L.take i)) hu C () (CJ.fits #v[h.k0,h.ex,h.d,h.c,h.led,h.pl,h.p] J) #v[λr hr=>f r (sub r hr),h.pe] tq h.k0 h.d (λinn=>?_) λnin h' es' t' B m' G b2 H b5 b6 b7=>?_
  .rw[<-E]at inn;have e:i? (L.take (i+1))=i? (L.take i):=by rw[split];delta Bx;rw[af inn]
   calc aC #v[fS gb _,ih (i+1) _ o es ep t () hlt (W.frame _ s' s'.heap _ hst' (jj _ _) λb z o e=>e) f (by rw[e];show h) λu P l j Q a T=>?_];show hR u P l j Q (nJ W.gtrans ((hm.mono up).then_heap (jj _ _) λb o z e=>e) a) T
  rw[<-E]at nin;have e:i? (L.take (i+1))=i? (L.take i)++[q]:=by rw[split];delta Bx;rw[ai nin]
  have y:Xa prog w h' S (i? (L.take (i+1))) led (i? (L.take (i+1))).length { o with data:=.set es' B t' } es' B t':=by
   have pe:es'.toList.Perm ((i? (L.take (i+1))).map (hkE prog w)):=by rw[e,aZ];calc b7.t (.t ?_ (jZ _ _).symm);rw[show hkE prog w q=(tupleKeyHash (vB prog w) (Sum.inr z::N),.ref q.2) by delta hkE;rw[E]];show List.Perm.cons _ x.pe
   have hl:(i? (L.take (i+1))).length=(i? (L.take i)).length+1:=by rw[e,aH];rfl
   rw[hl];show#v[#v[b2,x.ex,J,#v[m',H.1.toTb,H.2.1],b5.t x.led,λ_=>b6,by have:=pe.map cb;rw[aT]at this;show this],#v[m',H],pe]
  refine aC #v[fS gb _,ih (i+1) _ _ _ _ _ () hlt (W.frame _ s' h' _ hst' (jj _ _) λb z o e=>?_) (λr hr=>(f r hr).gp λo e=>?_) y λu P l j Q a T=>?_]
  .rw[G.2 b (λy:b=S=>hSf (by rw[<-y];show z))];show e
  .rw[G.2 r.2 (λy:r.2=S=>far r hr (by rw[y];show aX))];show e
  .calc hR u P l j Q (nJ W.gtrans ((hm.mono up).then_heap (jj _ _) λb o z e=>?_) a) T;rw[G.2 b (λy:b=S=>z (by rw[y];show aX))];show e
end
end L4
namespace L4
open PySem PySem.Spec PySem.Calls PyProof.Rows PySem.W L2 L3
section
variable{s:aq}
def YC(L:List (aD×Addr)):i? (L.map λq=>(T' q.1,q.2))=(i? L).map λq=>(T' q.1,q.2):=W9 (g:=T') (λa b h=>(List.map_inj_right λz z h=>kM h).1 h) L
def TV{prog:bj}{w:aR}{A:bp}{h:Addr}{its:List aa}{L:List (aD×Addr)}{led:Bool}{itO:Obj}{SS:Nat->Heap->Prop}(hlt:h< ~~~s)(ht:∀q∈L,∃p r,q.1=[p,r])(tk:∀q∈L,TK prog w s.heap (T' q.1) q.2)
  (N:∀(i:Nat) (v:aa),its[i]?=U v->∃q,L[i]?=U q/\v=.ref q.2) (T:L.length=its.length) (O:(i? L).length<63) (Q:A.in1.units<cLine)
  (W:Walks prog w A.in1 (~~~s+1) [~~~s+1,h] [~~~s+1] its.toArray.size (λi v=>its.toArray[i]?=U v) SS) (st:SS 0 ((s.heap.push (AV led)).push itO)) {R:k6->aq->Prop}
  (hR:∀h2 u,(∃o es ep t,CJ h2 (~~~s) ((i? L).map λq=>(T' q.1,q.2)) led (i? L).length o es ep t)->(∀b o,b< ~~~s->s.heap.get? b=U o->h2.get? b=U o)->R (.ok (.ret .none)) { s with heap:=h2,toks:=u }) (y:Nat):
  cK (model prog w) A (.builtin "set.update.loop" #v[[.ref (~~~s),.ref (~~~s+1)],[]]) R { s with heap:=(s.heap.push (AV led)).push itO,toks:=y }:=by
 have notin: ~~~s∉[~~~s+1,h]:=by
  intro z;rcases aJ.1 z with z|z
  .show au z (bf (cY _))
  .show au (aN.1 z) (fz hlt)
 have C:∀{b:Addr} {E:Obj},s.heap.get? b=U E->((s.heap.push (AV led)).push itO).get? b=U E:=λe=>aK _ (aK _ e);refine QD (S:= ~~~s) (led:=led) W.toS notin Q (L.map λq=>(T' q.1,q.2)) (by rw[ah,bI,T]) (by rw[YC,ah];show O) ?_ ?_ ?_ (its.toArray.size - 0) 0 _ (AV led) [].toArray 0 (.fresh 0 0 led) J (bP _) st ?_ ?_ λs2 X m l Y mv a=>?_
 .intro q f;let#v[r,hr,rfl]:=aw.1 f;let#v[p,z,e]:=ht r hr;show#v[p,[.inr z],by change T' r.1=_;rw[e];rfl]
 .intro q f z;let#v[r,hr,rfl]:=aw.1 f;let#v[ob,_,_,e,_]:=tk r hr;have:=aQ e;rcases aJ.1 z with z|z
  .show au z (bf this)
  .show au (aN.1 z) (bf (dJ this))
 .intro i v e;rw[j9]at e;let#v[q,F,G]:=N i v e;show#v[(T' q.1,q.2),by rw[br,F];rfl,G]
 .intro q f;let#v[r,hr,rfl]:=aw.1 f;show(tk r hr).gp λo=>C
 .show#v[#v[aK _ (bz _ J),#v[J,J,J],J,#v[7,#v[J,J,J],.inl #v[J,bP 4]],J,λz=>au z (eE 0),.nil],#v[7,#v[#v[J,J,J],.nil],.inl #v[J,bP 4],λi e j P n=>by ext P],.nil]
 .let#v[h2,g2,d2,u,x]:=s2;have I:g2=s.gens:=mv.gens;have H:d2=s.drawn:=mv.drawn;have M:x=s.os:=mv.os;subst I H M;rw[YC,ah]at a;calc hR h2 u #v[X,m,l,Y,#v[a.k0,a.ex,a.d,a.c,a.led,a.pl,a.p]] λb o B e=>mv.heap b o (λz=>?_) (C e);rcases aJ.1 z with z|z
  .show au z (bf B)
  .show au (aN.1 z) (bf (dJ B))
def setU{A:bp}{L:List (aD×Addr)}(I:b9 X pins σ H s)(M:A.handled=Z)(S:A.units+8<cLine)(d:f? X.K H a (L.map λq=>V.ref q.2)\/fh X.K H a (L.map λq=>V.ref q.2))(F:(i? L).length<63)
  (ht:∀q∈L,∃p r,q.1=[p,r]/\fh X.K H q.2 [.str p,.str r])
  (h:∀h2 m o es ep t,CJ h2 (~~~s) ((i? L).map λq=>(T' q.1,q.2)) (!X.w.params.followText "set-order") (i? L).length o es ep t->(∀b o,b< ~~~s->s.heap.get? b=U o->h2.get? b=U o)->Q (.ref (~~~s)) { s with heap:=h2,toks:=m }):
  av (model X.prog X.w) A (call (.type "set") [.ref a]) Q E s:=by
 have h3:A.in1.in1.in1.handled=Z:=by simp[M]
 have h4:A.in1.in1.in1.units<cLine:=by change A.units+1+1+1<cLine;omega
 have tk:∀q∈L,TK X.prog X.w s.heap (T' q.1) q.2:=λq d=>by let#v[p,r,e,h1]:=ht q d;rw[e];show Yo (ks:=[.inr p,.inr r]) I h1
 have y:∀{its:List aa},df (L.map λq=>V.ref q.2) its->L.length=its.length/\∀(i:Nat) (v:aa),its[i]?=U v->∃q,L[i]?=U q/\v=.ref q.2:=λ{its} r=>by
  have G:L.length=its.length:=by have:=r.length;rw[ah]at this;show this
  calc#v[G,λi v e=>?_];have hi:i<L.length:=by rw[G];show(bZ.1 e).1
  let#v[u,C,O]:=r.get (i:=i) (x:=V.ref L[i].2) (by rw[br,aI hi];rfl);rw[e]at C;ext C;show#v[L[i],aI hi,O]
 have it:∀{o:Obj} {led:Bool},o.isFreed=δ->((s.heap.push (AV led)).push o).get? (~~~s+1)=U o:=λ{o led} z=>by rw[show ~~~s+1=(s.heap.push (AV led)).objs.size from(c5 _ _).symm];show bz _ z
 have l:∀q∈L,∃p r,q.1=[p,r]:=λq d=>by let#v[p,r,e,_]:=ht q d;show#v[p,r,e]
 rcases d with d|d
 .let#v[its,r,N,_]:=I.list d;let#v[o,c,f,n,hd]:=N.isList;have hne:a≠~~~s+1:=bf (dJ (aQ c));show EA (PS:=λh2=>∃o es ep t,CJ h2 (~~~s) ((i? L).map λq=>(T' q.1,q.2)) (!X.w.params.followText "set-order") (i? L).length o es ep t) c f qU pG #[] (itO:={ cls:=.type "list_iterator", data:=.fields #[.ref a,.int 0 0] })
   (λA Q E P e k=>jc #v[o,e,f,n,hd] k) (λj R hR=>TV (aQ c) l tk (y r).2 (y r).1 F h4 (kU h3 _ a hne its.toArray) #v[#v[_,it J,J,J],#v[o,aK _ (aK _ c),f,n,hd]] hR j) λh2 m #v[o,es,ep,t,x] B=>h h2 m o es ep t x B
 .let#v[its,r,p,_]:=I.tuple d;let#v[o,c,f,n,hd]:=p;have hne:a≠~~~s+1:=bf (dJ (aQ c));show EA (PS:=λh2=>∃o es ep t,CJ h2 (~~~s) ((i? L).map λq=>(T' q.1,q.2)) (!X.w.params.followText "set-order") (i? L).length o es ep t) c f oy js #[] (itO:={ cls:=.type "tuple_iterator", data:=.fields #[.ref a,.int 0 0] })
   (λA Q E P e k=>lV #v[o,e,f,n,hd] k) (λj R hR=>TV (aQ c) l tk (y r).2 (y r).1 F h4 (se h3 _ a hne its.toArray) #v[#v[_,it J,J,J],#v[o,aK _ (aK _ c),f,n,hd]] hR j) λh2 m #v[o,es,ep,t,x] B=>h h2 m o es ep t x B
def Jy(K:ay)(d:TE):TE:=λe H Q=>d e H λx b=>∃(a:Addr) (L:List (aD×Addr)),x=.ref a/\(f? K b a (L.map λq=>V.ref q.2)\/fh K b a (L.map λq=>V.ref q.2))/\(i? L).length<63/\(∀q∈L,∃p r,q.1=[p,r]/\fh K b q.2 [.str p,.str r])/\
 ∀(c:List (aD×Addr)) (p:Addr),c.Perm (i? L)->b p=Z->Q (.ref p) (el b p (.ax (HI (c.map aj) (c.map λq=>V.ref q.2))))
#print h
def L7{j d:Pos}(S:X.A.units+64<cLine)(m:X.k3=γ)(g1:Gl X "sorted")(m1:X.mg "sorted" = Z)(g2:Gl X "set")(m2:X.mg "set" = Z)(O:PE X e te)
  (C:aE [Expr.Call (.Name "set" j) [e] [] d] X.a8=[(δ,eval (.Call (.Name "set" j) [e] [] d) X.a8)]:=by rfl) (E:aE [e] X.a8=[(δ,eval e X.a8)]:=by rfl):PE X (.Call (.Name "sorted" p1) [.Call (.Name "set" j) [e] [] d] [] p4) (Jy X.K te):=by
 intro pins s σ H Q I h;calc dZ (Bs I g1 m1 nN ?_ #[] #[]);calc callWith_builtin1 ?_ C J;rw[C];change av _ _ (spliced [(δ,eval (.Call (.Name "set" j) [e] [] d) X.a8)]) _ _ s;calc gh ?_;calc dZ (Bs I g2 m2 sf ?_ #[] #[]);refine callWith_type1 (fb (wQ O zd E d pins s σ H (λvs H1=>match vs with
  |[x]=>∃(a:Addr) (L:List (aD×Addr)),x=.ref a/\(f? X.K H1 a (L.map λq=>V.ref q.2)\/fh X.K H1 a (L.map λq=>V.ref q.2))/\(i? L).length<63/\(∀q∈L,∃p r,q.1=[p,r]/\fh X.K H1 q.2 [.str p,.str r])/\
    ∀(c:List (aD×Addr)) (p:Addr),c.Perm (i? L)->H1 p=Z->Q (.ref p) (el H1 p (.ax (HI (c.map aj) (c.map λq=>V.ref q.2))))
  |_=>False) I h) λus B #v[vs,H1,f,r1,q1]=>?_) E J
 match vs,r1,q1 with
 |[x],r1,q1=>
 let#v[a,L,M,R,N,ht,q]:=q1;subst M;let#v[u,rfl,ru]:=lq r1;ext ru;calc setU f (f.ok.hd m) () R N ht λh2 y o es ep t x Y=>?_;calc ie ?_;have l:b9 X pins σ H1 { B with heap:=h2,toks:=y }:=f.gp λb o e=>Y b o (aQ e) e;refine NH (s:={ B with heap:=h2,toks:=y }) (L:=i? L) (f.ok.hd m) S J x (λr hr=>?_) λc p h3 T G e pL w W P=>?_
 .let#v[p,z,e,h1]:=ht r (Kt hr);calc#v[p,z,e,?_];rw[e];show Yo (ks:=[.inr p,.inr z]) l h1
 .have F:=l.laid (t':=T) (o:=.ax (HI (c.map aj) (c.map λq=>V.ref q.2))) W w (by
   refine#v[?_,Tt (c.map aj) (c.map λq=>Value.ref q.2),e,?_,P]
   .delta HI;split
    .show bP _
    .rename_i hne;have hn:0<(c.map λq=>V.ref q.2).length:=eX.2 hne;rw[ah,(zg _ hn).length_eq,cI,ah,pL.length_eq,bS];omega
   .delta HI Tt;by_cases hL:c=[]
    .subst hL;show .nil
    .rw[ai (by exists hL),ai (by exists hL)];have hn:0<(c.map λq=>V.ref q.2).length:=by rw[ah];show eX.2 hL
     delta DC;rw[show (c.map λq=>Value.ref q.2).length=(c.map λq=>V.ref q.2).length by rw[ah,ah]];show Fk (Jv c) _ λi hi=>Dn _ hn i hi)
  show#v[.ref p,_,b9.drw F G,J,q c p pL (l.e8.fresh w)]
#print f
def sqD:D->Option aV
 |.ax a=>U a
 |.bx a=>U a
 |_=>Z
def zi(f:FE):FA:=λc=>match f c with
 |some (d,a)=>match (sqD d).bind DK with
  |some b=>if (Hj b).length<63 then U ((Fp (Hj b)).map fm,a)else Z
  |none=>Z
 |_=>Z
#print h
def Ku(h:PE X e (Jy G.K (tF G f))):PE X e (y0 G (zi f)):=PE.cx h λσ H Q O=>by
 let#v[F,P,B,W,S,R,e,k]:=O;delta zi at e;split at e
 .rename_i d T I;cases j:(sqD d).bind DK with
  |none=>erw[j]at e;cases e
  |some Y=>
   erw[j]at e;split at e
   .rename_i N;ext e;let#v[E,x,j]:=o6.1 j;calc#v[F,P,B,_,_,R,I,λv z i s c r=>?_];let#v[a,b,rfl,m,o]:∃a b,v=.ref a/\(f? G.K i a b\/fh G.K i a b)/\a9 G z E b:=by
     cases d with
     |ax l=>ext x;delta c3 at r;let#v[a,b,rfl,m,o]:=r;show#v[a,b,J,.inl (f?.of (c.sub _ _ m)),o]
     |bx l=>ext x;delta c3 at r;let#v[a,b,rfl,m,o]:=r;show#v[a,b,J,.inr (fh.mono c.sub m),o]
     |_=>ext x
    let#v[L,rfl,rfl,y]:=Ko o j;have two:∀k∈L.map aj,∃p q,k=[p,q]:=λk u=>by let#v[q,t,rfl]:=aw.1 u;let#v[p,r,e,_]:=y q t;show#v[p,r,e]
    refine#v[a,L,J,m,by rw[<-ah (f:=aj),EJ];show N,λq t=>?_,λC p pL w=>?_]
    .let#v[p,r,e,M]:=y q t;show#v[p,r,e,fh.mono c.sub M]
    .have A:=Tw (G:=G) (H:=z) (L:=C) λq t=>y q (Kt (pL.mem_iff.1 t));rw[O1 (pL.map aj) (by rw[EJ];show HM _) (λk u=>two k (by rw[EJ,zP]at u;show u)),EJ]at A;show k p _ _ _ s (c.gi w _) vp (c.ey w) (c.gr w) (c.apart w) A
   .ext e
 .ext e
end
#print f
section
def acp [C:Cz X B k][N:Nb B "sorted"][h:Nb B "set"](l:S1 X e)(j:Gz X "sorted")(a:Gz X "set")(i:ZE X B e f)(z:aE [Expr.Call (.Name "set" b) [e] [] d] X.a8=[(δ,eval (.Call (.Name "set" b) [e] [] d) X.a8)]):ZN X B (.Call (.Name "sorted" p) [.Call (.Name "set" b) [e] [] d] [] pos) (zi f):=#v[Ku (by rw[<-C.K];show L7 C.r.units C.c j (C.mg▸N.p) a (C.mg▸h.p) i.p z l)]
end
section
theorem QE(h:Q 0xFCA86420 { s with toks:=s.toks+1 }):av (model prog w) A (pyHash .none) Q E s:=by
 calc ar ?_;rw[cRoomFor,ai (by rw[show [Value.none].any Value.onHeap=δ from J];show bB)];calc aC ?_;calc ar (iq (kP s) kj.lookup ?_);rw[ai (by rw[beq_builtin_none];show bB)];calc ar (iq (kP s) kj.lookup ?_);refine ar (wpAny_callSpecialIfBoundUnlessNone?_slot (kP s) kj
  (fN kj (kP s) F.entry_NoneType_hash
   (show av _ _ (do ret (<-mkInt 0xFCA86420)) _ _ s from wpAny_ret_mkInt ?_) (F.args_NoneType_hash_1 _)))
 show aC h
def Xb(h:Q γ s):av (model prog w) A (eqBool .none .none) Q E s:=by calc dt ?_;rw[af (show (Value.none==Value.none)=γ from J)];show ar (nX (aC h))
def oIs:Option ef->aa->Bool
 |none,.none=>γ
 |none,_=>δ
 |some k,v=>GT k v
def z8(h:oIs k v=γ):(k=Z/\v=.none)\/(∃i t,k=U (Sum.inl i)/\v=Value.int i t)\/∃x t,k=U (Sum.inr x)/\v=Value.str x t:=by
 cases k with
 |none=>ext v<;>first|show .inl #v[J,J]|cases h
 |some k=>
  rcases wC h with ⟨i,t,rfl,rfl⟩|⟨x,t,rfl,rfl⟩
  .show .inr (.inl #v[i,t,J,J])
  .show .inr (.inr #v[x,t,J,J])
def T3(prog:bj)(w:aR):rb prog w (Option ef) where
 is:=oIs
 hash:=λk=>match k with|none=>0xFCA86420|some k=>keyH w k
 inj:=λv a b ha d=>by rcases z8 ha with ⟨rfl,rfl⟩|⟨i,t,rfl,rfl⟩|⟨x,t,rfl,rfl⟩<;>rcases z8 d with ⟨rfl,e⟩|⟨j,u,rfl,e⟩|⟨y,u,rfl,e⟩<;>first|rfl|(ext e;rfl)|ext e
 byValue:=λk v h=>by rcases z8 h with ⟨rfl,rfl⟩|⟨i,t,rfl,rfl⟩|⟨x,t,rfl,rfl⟩<;>rfl
 pyHash:=λ{A E s k v Q} hv h=>by
  cases k with
  |some k=>show(vB prog w).pyHash (k:=k) hv h
  |none=>
   rcases z8 hv with ⟨_,rfl⟩|⟨i,t,e,_⟩|⟨x,t,e,_⟩
   .show QE h
   .ext e
   .ext e
 eqBool:=λ{A E s a b u v Q} c hv h=>by
  rcases z8 c with ⟨rfl,rfl⟩|⟨i,t,rfl,rfl⟩|⟨x,t,rfl,rfl⟩<;>rcases z8 hv with ⟨rfl,rfl⟩|⟨j,u,rfl,rfl⟩|⟨y,u,rfl,rfl⟩
  .show Xb h
  .show pN j u _ _ _ _ h
  .show pO y u _ _ _ _ h
  .show pP i t _ _ _ _ h
  .show(vB prog w).eqBool (a:=Sum.inl i) (b:=Sum.inl j) c hv (by exists h)
  .show(vB prog w).eqBool (a:=Sum.inl i) (b:=Sum.inr y) c hv (by exists h)
  .show pR x t _ _ _ _ h
  .show(vB prog w).eqBool (a:=Sum.inr x) (b:=Sum.inl j) c hv (by exists h)
  .show(vB prog w).eqBool (a:=Sum.inr x) (b:=Sum.inr y) c hv (by exists h)
 «strs»:=λk x t v h=>by
  cases k with
  |none=>cases h
  |some k=>show(vB prog w).strs k x t v h
def Xc{h:Heap}(m:h.MapOf (vB prog w) a f):h.MapOf (T3 prog w) a (λk=>match k with|none=>Z|some k=>f k):=by
 let#v[o,p,l,q,r,u,j,y]:=m;refine#v[o,p,l,q,r,u,λe b=>?_,λk=>?_]
 .let#v[k,c,z]:=j e b;show#v[U k,c,z]
 .cases k with
  |some k=>show y k
  |none=>
   delta findBy;rw[Array.find?_eq_none.2 λe b=>?_]
   .rfl
   .let#v[k,c,_]:=j e b;rcases wC c with ⟨i,t,_,d⟩|⟨x,t,_,d⟩<;>(rw[d];show bB)
end
section
def acq(I:b9 X b d H s)(e:Rd H a (.dK kvs))(h:∀c,b9 X b d H c->Q .none c):av (model X.prog X.w) A (call (.builtin "dict.get") [.ref a,.none]) Q E s:=by let#v[z,hd,f,rel,dd]:=El I.e8 e;show jw jn dd.typeIs mx (md _ _) (qT (T3 X.prog X.w) a (k:=Z) J hd) #v[_,Xc dd.mapOf,h _ (I.w? _)]
def acr(e ty:TE):TE:=λd H Q=>e d H λx c=>∃a,x=.ref a/\IsD c a/\ty d c λy b=>(∃o,x3 b a y o/\Q (o.getD .I) b)\/(y=.I/\(∃kvs,Rd b a (.dK kvs))/\Q .I b)
def TX(E:X.A.units+1<cLine)(C:PE X o S)(B:PE X e ty)(m:M1 X o "get" apos e cpos):PE X (.Call (.Attribute o "get" apos) [e] [] cpos) (acr S ty):=by
 intro b s t H Q I h;calc me m.a7 m.few m.line ku jn qE (fb (C b s t H _ I h) λu N f=>?_);let#v[x,w,p,M,a,z,d,G]:=f;subst z;obtain rfl:u=Value.ref a:=M;let#v[P,R,_]:=JX p d;calc#v[P,R,?_];rw[m.V0];calc iW J (kc (gh (fb (B b N t w _ p G) λF W f=>ie ?_)));obtain⟨y,l,q,r,⟨T,g,i⟩|⟨rfl,⟨kvs,e⟩,i⟩⟩:=f
 .show Ru E q g r λY O c j=>#v[_,l,c,j,i]
 .obtain rfl:F=.none:=r;show acq q e λO c=>#v[.I,l,c,J,i]
def F4:D->D->Option D:=λx y=>match y with
 |.I=>match x with
  |.M _ _=>U .I
  |_=>Z
 |y=>Ex x y
def TY(hu:X.A.units+1<cLine)(ha:PE X a (tF G f))(hb:PE X b (tF G f'))(m:M1 X a "get" apos b cpos):PE X (.Call (.Attribute a "get" apos) [b] [] cpos) (tF G (c2 F4 f f')):=PE.cx (TX hu ha hb m) λσ H Q hh=>by
 let#v[F,ρ,P,d,C,R,e,k]:=hh;let#v[x,y,l,Y,e2,c]:=GE e;cases x with
 |M N W=>
  calc#v[F,ρ,P,_,l,R,Y,λv S T B E r1=>?_];have t:=r1;let#v[p,ob,xs,rfl,r,h2,h3]:=t;calc#v[p,J,.inl #v[_,.inr #v[_,E.sub _ _ r]],F,l,S,y,C,E,e2,λu o h i R2 O=>?_];by_cases M:y=.I
  .subst M;ext c;subst O;show .inr #v[J,#v[_,.inr #v[_,R2.sub _ _ (i _ _ r)]],k _ o h (B.t i) R2 BA]
  .left;have c:=by
    delta F4 at c;split at c
    .show au J M
    .show c
   delta Ex at c;cases q:DB y with
   |none=>erw[q]at c;cases c
   |some j=>
    erw[q]at c;ext c;have lv:=Ew j (a9.mono i _ _ h3) h2;refine#v[zc (N.zip xs) j,?_,?_]
    .rw[BH O q];show x3.kf (R2.sub _ _ (i _ _ r))
    .cases I:xX N W j with
     |none=>rw[I]at lv k;rw[lv];show k _ o h (B.t i) R2 BA
     |some z=>rw[I]at lv k;let#v[w,w1,w2]:=lv;rw[w1];show k _ o h (B.t i) R2 w2
 |_=>
  delta F4 at c;split at c
  .ext c
  .delta Ex at c;ext c
end
section
def acs [C:Cz X B k](i:ZE X B e f)(j:ZE X B a c)(d:Az X e "get")(h:Ez apos pos)(b:S1 X a):ZE X B (.Call (.Attribute e "get" apos) [a] [] pos) (c2 F4 f c):=#v[TY (Le C.r) i.p j.p #v[d,by rw[b];rfl,h,by rw[b];rfl]]
end
def tOr(t a:Ty->Option Bool):Ty->Option Bool:=λy=>match t y with
 |some γ=>match a y with
  |some _=>U γ
  |none=>Z
 |some δ=>a y
 |none=>Z
section
theorem I?{K:ay}:∀{l:List L3.Dq} {f:bC} {c:List aa},L3.a9 K H l f->df f c->(∀u∈c,∃e∈l,∃x,L3.c3 K H e x/\d? x u)/\∀e∈l,∃u∈c,∃x,L3.c3 K H e x/\d? x u
 |[],f,c,r,v=>by delta L3.a9 at r;subst r;ext v;show#v[λu b=>(by ext b),λe a=>(by ext a)]
 |d::l,f,c,r,v=>by
  delta L3.a9 at r;let#v[x,q,rfl,h,j]:=r;cases v with
  |cons i p=>
   let#v[m,o]:=I? j p;refine#v[λu b=>?_,λe a=>?_]
   .rcases aJ.1 b with rfl|b
    .show#v[d,aX,x,h,i]
    .let#v[e,a,z]:=m u b;show#v[e,bg _ a,z]
   .rcases aJ.1 a with rfl|a
    .show#v[_,aX,x,h,i]
    .let#v[u,b,z]:=o e a;show#v[u,bg _ b,z]
end
end L4
namespace L4
open PySem PySem.Spec PyProof.Rows L2 L3
section
variable{B:Bz}[Y:Yb B]{st s0:Stmt}
omit Y in
end
end L4
namespace L4
open PySem PySem.Spec PySem.Calls PyProof.Rows PySem.W L2 L3
theorem uqP_K{a b:Type}[DecidableEq a]:∀(l acc:List (a×b)),(l.foldl Bx acc).map aj=(l.map aj).foldl (λacc k=>if k∈acc then acc else acc++[k]) (acc.map aj)
 |[],_=>rfl
 |q::l,acc=>by rw[c4,uqP_K l,aA,c4];congr 1;delta Bx;split<;>simp
section
variable{X:Cx}
def SrcU(K:ay)(H:Hp)(a:Addr)(n:Nat):Prop:=SrcO K H a n\/
 ∃L:List (aD×Addr),f? K H a (L.map λq=>V.ref q.2)/\L.length<=40/\(∀q∈L,∃p r,q.1=[p,r]/\fh K H q.2 [.str p,.str r])/\n=(i? L).length
theorem uqP_le{a b:Type}[DecidableEq a]:∀(l acc:List (a×b)),(l.foldl Bx acc).length<=acc.length+l.length
 |[],_=>aG _
 |q::l,acc=>by
  have h:=uqP_le l (Bx acc q);have c:(Bx acc q).length<=acc.length+1:=by delta Bx;split<;>simp
  rw[c4,aL];omega
def set_U2:SetV X SrcU:=by
 intro f y H s A E Q a n I c e b h;rcases b with b|⟨L,l,u,p,rfl⟩
 .show ad5 I c e b h
 .have w:(i? L).length<=40:=bW (uqP_le L []) (by rw[dr];omega);calc setU I c e (.inl l) () p λm q o j i t x r=>?_;calc h m q #v[o,j,i,t,x.k0,x.ex,x.d,?_,x.fits (ah _),x.sz.t (ah _)] r;rw[x.sz,ah];delta scanBound;omega
def Gn(a:aV):Option D:=match DK a with
 |some b=>if a.length<=40 then U (.int (Hj b).length)else Z
 |none=>Z
#print h
def pairs_U(hK:X.K=G.K):∀{c d f b a j},Gn c=U d->f? X.K b a j->a9 G f c j->vw f b->∃n:Nat,SrcU X.K b a n/\d=.int n:=λ{c d f b a j} e i l s=>by
 delta Gn at e;cases h:DK c with
 |none=>erw[h]at e;cases e
 |some w=>
  erw[h]at e;split at e
  .rename_i u;ext e;let#v[L,rfl,rfl,o]:=Ko l h;have t:=vv l;rw[ah]at t;refine#v[_,.inr #v[L,i,by omega,λq i=>?_,J],?_]
   .let#v[p,r,e,m]:=o q i;rw[<-hK]at m;show#v[p,r,e,fh.mono s m]
   .have:=aW cD (uqP_K L []);rw[ah]at this;change D.int _=D.int _;rw[show (i? L).length=_ from this];rfl
  .ext e
end
#print f
section
def zr_l2I [C:Cz X B k][N:Nb B "len"][h:Nb B "set"](l:S1 X e)(j:Gz X "len")(a:Gz X "set")(i:ZE X B e f)(z:aE [Expr.Call (.Name "set" b) [e] [] d] X.a8=[(δ,eval (.Call (.Name "set" b) [e] [] d) X.a8)]):ZE X B (.Call (.Name "len" p) [.Call (.Name "set" b) [e] [] d] [] pos) (c1 (EB Gn) f):=#v[Nj C.K .inl (pairs_U C.K) (Qo set_U2 C.r.units C.c j (C.mg▸N.p) a (C.mg▸h.p) i.p z l)]
end
end L4
namespace L4
open PySem PySem.Spec PyProof.Rows L2 L3
def dV(g:aV->Option (Option D)):aV->Option D:=λa=>match g a with
 |some (U d)=>U d
 |_=>Z
mutual
def noFz:D->Bool
 |.O _=>δ
 |.dit _ _=>δ
 |.bx a=>G' a
 |.ax a=>G' a
 |.obj _ _ a=>G' a
 |.M _ a=>G' a
 |_=>γ
def G':aV->Bool
 |[]=>γ
 |d::a=>noFz d&&G' a
end
end L4
namespace L4
open PySem PySem.Spec PySem.Calls PyProof.Rows PySem.W L2 L3
def kN(K:ay):Bool:=K.all λp=>p.2.dict.isNone
class Hz(B:Bz):Prop where
 h:B.G.hs=tupleKeyHash (vB B.P B.w)
 k:kN B.G.K=γ
end L4
namespace L4
open PySem PySem.Spec PySem.Calls PySem.SeqAt PyProof.Rows PySem.W L2 L3
section
def cSpl(f c:FE):FA:=λd=>match f d with
 |some (.str z,a)=>match c a with
  |some (.str y,b)=>if (y.length==0)=δ/\z.length<=100000 then U ((Txt.split z y).map D.str,b)else Z
  |_=>Z
 |_=>Z
def dIndexU:D->D->Option D:=λx y=>match x,y with
 |.bx b,.str k=>match Jn b with
  |some a=>if k∈a/\a.length<=1000 then U (.int (a.idxOf k:Nat))else Z
  |none=>Z
 |_,_=>Z
inductive IrInU(K:ay) (x:V) (y:V) (H:Hp) (Q:VK):Prop
 |i (p xs d l) (h0:y=.ref p) (h1:fh K H p xs) (h2:L3.c3 K H d x) (h3:L3.a9 K H l xs) (h4:ij d<=20) (h5:(∀e∈l,ij e<=20)) (h6:Q (.bl (l.any λe=>n3 e d)) H):IrInU K x y H Q
def rInU(K:ay):R2:=λx y H Q=>IrInU K x y H Q
def op_inU(T:X.A.units+64<cLine):iE X (bD .In) (rInU X.K):=by
 intro C s σ H x y v u Q I R S h;let#v[p,Y,d,l,rfl,G,O,P,hd,F,q]:=h;ext S;let#v[j,r,pl,W]:=I.tuple G;let#v[M,N]:=I? P r;have B:∀e∈l,∀z w,L3.c3 X.K H e z->d? z w->jz X.A.in1 s w v (n3 e d):=λe a z w b c=>MX I e d z x w v X.A.in1 b O c R (by have:=F e a;change X.A.units+1+_+_<_;omega);let f:aa->Bool:=λw=>@decide (∃e∈l,∃z,L3.c3 X.K H e z/\d? z w/\n3 e d=γ) (iV _);refine qq f pl (λw o=>?_) #v[.bl _,H,I,J,?_]
 .by_cases m:∃e∈l,∃z,L3.c3 X.K H e z/\d? z w/\n3 e d=γ
  .have t:f w=γ:=@aM _ (iV _) m;let#v[e,a,z,b,c,i]:=m;have:=B e a z w b c;rw[i]at this;rw[t];show this
  .have t:f w=δ:=@aP _ (iV _) m;let#v[e,a,z,b,c]:=M w (by exists o);have:=B e a z w b c;rw[jg.2 λi=>m #v[e,a,z,b,c,i]]at this;rw[t];show this
 .have E:j.toArray.any f=l.any λe=>n3 e d:=by
   rw[show j.toArray.any f=j.any f by simp];calc dj.2 ?_;rw[eA,eA];constructor
   .rintro⟨w,o,m⟩;let#v[e,a,z,b,c,i]:=@ba _ (iV _) m;show#v[e,a,i]
   .rintro⟨e,a,i⟩;let#v[w,o,z,b,c]:=N e a;show#v[w,o,@aM _ (iV _) #v[e,a,z,b,c,i]]
  rw[E];show q
def D?:D->D->Option D:=λx y=>match y with
 |.bx a=>match p? x,CA a with
  |some d,U l=>if decide (ij d<=20)&&l.all (λe=>decide (ij e<=20))then U (.bl (l.any λe=>n3 e d))else Z
  |_,_=>Z
 |_=>Z
#print h
def od_inU:ki G (rInU G.K) D?:=λx y z r H v u Q e s q c k=>by
 delta D? at e;split at e
 .rename_i i;cases b:p? x with
  |none=>erw[b]at e;cases e
  |some d=>
   cases f:CA i with
   |none=>erw[b,f]at e;cases e
   |some l=>
    erw[b,f]at e;split at e
    .rename_i h;ext e;rw[bA,bU,bH]at h;have c:=c3.mono s _ _ c;delta c3 at c;let#v[a,j,rfl,m,o]:=c;show#v[a,j,d,l,J,m,GH x v d (c3.mono s _ _ q) b,Es i j l o f,h.1,λe p=>ba (h.2 e p),k _ λw w=>ya _]
    .ext e
 .ext e
#print f
instance inU2:F? .In D?:=#v[λX G h a=>#v[_,by rw[<-h];show op_inU a,od_inU]]
end
end L4
namespace L4
inductive Al{α β:Type} (P:α->β->Prop):List α->List β->Prop
 |nil:Al P [] []
 |cons (h:P x y) (t:Al P l m):Al P (x::l) (y::m)
theorem Al.at{c d:Type}{P:c->d->Prop}:∀{l:List c} {m:List d} {x:c} {y:d} (n:Nat),Al P l m->l[n]?=U x->m[n]?=U y->P x y
 |_,_,_,_,0,.cons h _,a,b=>by ext a;ext b;show h
 |_,_,_,_,n+1,.cons _ t,a,b=>t.at n a b
end L4
namespace L4
open PySem PySem.Spec PyProof.Rows L2 L3
def oz(a:aU):Bool:=a.all λs=>!s.gy
def ke{s:Sl}{i:Nat}(n:oz a=γ)(e:a[i]?=U s):s.gy=δ:=by have:=bH.1 n s (ck e);exists this
def tz(n:oz b=γ)(i:Nat)(d:D):oz (b.set i (.q d))=γ:=bH.2 λs a=>by
 rcases oU a with h|h
 .show bH.1 n s h
 .subst h;rfl
def bc.k3(R:bc G F σ ρ H0 H)(n:oz ρ=γ):bc G #v[H0,H,[]] σ ρ H0 H where
 sub:=R.sub
 g0:=vw.refl _
 keep:=λb o e w=>e
 fr:=λb o e=>.inl e
 am:=λa h=>by ext h
 len:=R.len
 sl:=λi s e=>by have ok:=R.sl i s e;have z:=ke n e;ext s<;>first|show ok|ext z
 ap:=λi j s t a w e w so=>by rw[ke n e]at so;ext so
abbrev DD:=List ef×aV
def p5(G:Bg)(F:Fr)(c H:Hp)(a:Addr)(A:DD):Prop:=(∃b,H a=U (.dK (A.1.zip b))/\A.1.length=b.length/\a9 G c A.2 b)/\c a=Z/\F.B a=Z
structure Mx(G:Bg)(F:Fr)(x:Nat)(t a b:Addr)(A:DD×DD)(σ:St)(ρ:aU)(H0 H:Hp):Prop where
 R:bc G F σ ρ H0 H
 n:oz ρ=γ
 sx:σ[x]?=U (U (.ref t))
 ht:H0 t=U (.bx [.ref a,.ref b])
 ne:a≠b
 a:p5 G F H0 H a A.1
 b:p5 G F H0 H b A.2
section
variable{X:Cx}{G:Bg}{F:Fr}{x:Nat}{t a b:Addr}{A A':DD×DD}{σ:St}{ρ ρ':aU}{H0 H H0' H':Hp}
def p5.gk{A:DD}(h:p5 G F H0 H a A)(f:vw H H')(c:vw H0 H0')(d:∀b o,H0' b=U o->H0 b=U o\/H b=Z):p5 G F H0' H' a A:=by
 let#v[#v[i,e,l,r],n,m]:=h;calc#v[#v[i,f _ _ e,l,a9.mono c _ _ r],?_,m];cases z:H0' a with
 |none=>rfl
 |some o=>
  rcases d a o z with y|y
  .rw[y]at n;ext n
  .rw[y]at e;ext e
theorem Mx.gk(M:Mx G F x t a b A σ ρ H0 H)(e:vw H H')(c:vw H0 H0')(sub':vw H0' H')(d:∀b o,H0' b=U o->H0 b=U o\/H b=Z):Mx G F x t a b A σ ρ H0' H':=
 #v[M.R.gk e c sub' d,M.n,M.sx,c _ _ M.ht,M.ne,M.a.gk e c d,M.b.gk e c d]
def Mx.mu(M:Mx G F x t a b A σ ρ H0 H)(c:bc G #v[H0,H,[]] σ ρ' H0' H')(s:vw H0 H0'):Mx G F x t a b A σ ρ H0' H':=
 M.gk (λb o e=>c.keep b o e (by simp)) s c.sub c.fr
theorem Mx.tF{f:FE}{Q:VK}(M:Mx G F x t a b A σ ρ H0 H)(e:f ρ=U (d,ρ'))(k:∀v H0' H',vw H0 H0'->Mx G F x t a b A σ ρ H0' H'->c3 G H0' d v->Q v H'):tF G f σ H Q:=
 #v[#v[H0,H,[]],ρ,H0,d,ρ',M.R.k3 M.n,e,λv h c s i r=>k v h c s (M.mu i s) r]
def Mx.item(M:Mx G F x t a b A σ ρ H0 H)(c:i≠x)(r:c3 G H0 d v):Mx G F x t a b A (σ.set i (U v)) (ρ.set i (.q d)) H0 H:=
 #v[M.R.V? i r,tz M.n i d,by rw[cc,ai c];show M.sx,M.ht,M.ne,M.a,M.b]
def ll(A:DD)(k:ef)(d:D):Option DD:=if A.1.length<1000/\A.2.length=A.1.length then U (if Eu A.1 k=γ then (A.1,Na A.1 A.2 k d)else (A.1++[k],A.2++[d]))else Z
def Dx(c f e:FE)(ρ:aU)(A:DD×DD):Option (DD×DD):=match e ρ,c ρ,f ρ with
 |some (d,_),U (.int i,_),U (q,_)=>match DB q with
  |some k=>if i=0 then (ll A.1 k d).map λz=>(z,A.2)else if i=1 then (ll A.2 k d).map λz=>(A.1,z)else Z
  |none=>Z
 |_,_,_=>Z
#print h
def p5.put{A B:DD}(h:p5 G F H0 H a A)(e:ll A k d=U B)(r:c3 G H0 d v):∃H',Lb H a (kV k) v H'/\H' a≠Z/\(∀c,c≠a->H' c=H c)/\p5 G F H0 H' a B:=by
 let#v[#v[p,i,l,rs],n,m]:=h;delta ll at e;split at e
 .rename_i o;ext e;calc#v[_,Lb.k i (by rw[fQ];show jb (qG _ _) (Bb (gG o.1))),by rw[vp];simp,λc j=>vt j,?_];delta g?;rw[GK l];by_cases f:Eu A.1 k=γ
  .rw[af f,af f,J3 l];show#v[#v[_,vp,by rw[kl,l,fA],Ho r rs l],n,m]
  .rw[ai f,ai f];calc#v[#v[p++[v],?_,by rw[aH,aH,l];rfl,xl rs (vM r vO)],n,m];rw[vp,mG l];rfl
 .ext e
#print f
def p5.v?{A:DD}(h:p5 G F H0 H a A)(e:H' a=H a):p5 G F H0 H' a A:=by let#v[#v[d,c,q],r]:=h;show#v[#v[d,by rw[e];show c,q],r]
theorem bc.other(R:bc G F σ ρ H0 H)(n:oz ρ=γ)(h0:H0 c=Z)(d:F.B c=Z)(hn:H' c≠Z)(hs:∀b,b≠c->H' b=H b):bc G F σ ρ H0 H' where
 sub:=λb o e=>by rw[hs b λz=>by rw[z,h0]at e;ext e];show R.sub _ _ e
 g0:=R.g0
 keep:=λb o e m=>by rw[hs b λz=>by rw[z,d]at e;ext e];show R.keep b o e m
 fr:=R.fr
 am:=λb hm=>by
  by_cases z:b=c
  .subst z;cases q:H' b with
   |none=>show au q hn
   |some o=>show#v[o,J]
  .rw[hs b z];show R.am b hm
 len:=R.len
 sl:=λi s e=>by have ok:=R.sl i s e;have z:=ke n e;ext s<;>first|show ok|ext z
 ap:=R.ap
#print h
def mx_put{fc T fe:FE}{E:zE}(M:Mx G F x t a b A σ ρ H0 H)(e:Dx fc T fe ρ A=U A')(k:∀H0' H',vw H0 H0'->Mx G F x t a b A' σ ρ H0' H'->E.nx σ H'):
  Ou (tOp (Rj G.K) (Aa x) (L4.tF G fc)) (L4.tF G T) (L4.tF G fe) E σ H:=by
 delta Dx at e;split at e
 .rename_i d _ i _ q _ e1 e2 e3;cases S:DB q with
  |none=>rw[S]at e;cases e
  |some j=>
   erw[S]at e;calc M.tF e1 λv H1 H1' s1 M1 r1=>#v[.ref t,M1.sx,M1.tF e2 λw P B Y M2 r2=>?_];subst r2;have st:fh G.K B t [.ref a,.ref b]:=.inl (.inl (M2.R.sub _ _ M2.ht));have fin:∀(c:Addr) (C:DD),(c=a\/c=b)->p5 G F P B c C->(∀u l h,vw P l->Mx G F x t a b A σ ρ l h->ll C j d=U u->∀m,m c≠Z->(∀z,z≠c->m z=h z)->p5 G F l m c u->E.nx σ m)->(∃u,ll C j d=U u)->(∀l h,vw P l->Mx G F x t a b A σ ρ l h->p5 G F l h c C)->
     L4.tF G T σ B λy l=>∃a m,V.ref c=.ref a/\Lb l a y v m/\E.nx σ m:=λc C hc dc kk #v[u,o] Q=>
    M2.tF e3 λy l h N f r3=>by let#v[m,p,O,I,q]:=(Q l h N f).put o (c3.mono (Y.t N) _ _ r1);rw[BH r3 S];show#v[c,m,J,p,kk u l h N f o m O I q]
   split at e
   .rename_i W;subst W;cases o:ll A.1 j d with
    |none=>rw[o]at e;cases e
    |some C=>rw[o]at e;ext e;calc#v[t,_,0,.ref a,J,J,st,J,fin a A.1 (.inl J) M2.a (λu l h N f r m O I q=>?_) #v[C,o] λl h s f=>f.a];rw[o]at r;ext r;show k l m (s1.t (Y.t N)) #v[f.R.other f.n f.a.2.1 f.a.2.2 O I,f.n,f.sx,f.ht,f.ne,q,f.b.v? (I _ (cg f.ne))]
   .split at e
    .rename_i W;subst W;cases o:ll A.2 j d with
     |none=>rw[o]at e;cases e
     |some C=>rw[o]at e;ext e;calc#v[t,_,1,.ref b,J,J,st,J,fin b A.2 (.inr J) M2.b (λu l h N f r m O I q=>?_) #v[C,o] λl h s f=>f.b];rw[o]at r;ext r;show k l m (s1.t (Y.t N)) #v[f.R.other f.n f.b.2.1 f.b.2.2 O I,f.n,f.sx,f.ht,f.ne,f.a.v? (I _ f.ne),q]
    .ext e
 .ext e
#print f
def mxL(n:Nat)(st:aU->DD×DD->Option (aU×(DD×DD))):aV->aU->DD×DD->Option (aU×(DD×DD))
 |[],ρ,A=>U (ρ,A)
 |d::r,ρ,A=>match st (ρ.set n (.q d)) A with
  |some (ρ',A')=>mxL n st r ρ' A'
  |none=>Z
def MxB(G:Bg)(F:Fr)(x:Nat)(t a b:Addr)(d:TS)(st:aU->DD×DD->Option (aU×(DD×DD))):Prop:=∀(E:zE) σ ρ H0 H A ρ' A',Mx G F x t a b A σ ρ H0 H->st ρ A=U (ρ',A')->
 (∀c H0' H',vw H0 H0'->Mx G F x t a b A' c ρ' H0' H'->E.nx c H')->d E σ H
def M'(c e d:FE):aU->DD×DD->Option (aU×(DD×DD)):=λρ A=>(Dx c e d ρ A).map λA'=>(ρ,A')
def mxB_put{d h f:FE}:MxB G F x t a b (Ou (tOp (Rj G.K) (Aa x) (L4.tF G d)) (L4.tF G h) (L4.tF G f)) (M' d h f):=λE σ ρ H0 H A ρ' A' M e k=>by
 delta M' at e;cases c:Dx d h f ρ A with
 |none=>rw[c]at e;cases e
 |some B=>rw[c]at e;ext e;show mx_put M c λH0' H' s i=>k σ H0' H' s i
def j2(n:Nat)(d:FA)(st:aU->DD×DD->Option (aU×(DD×DD))):aU->DD×DD->Option (aU×(DD×DD)):=λρ A=>match d ρ with
 |some (c,_)=>mxL n st c ρ A
 |none=>Z
def mxB_for{C:FA}{Q:TS}{n:Nat}{st:aU->DD×DD->Option (aU×(DD×DD))}(hn:n≠x)(hb:MxB G F x t a b Q st):MxB G F x t a b (Ve (S? G C) (Ab n) Q) (j2 n C st):=λE σ ρ H0 H A ρ' A' M e k=>by
 delta j2 at e;rcases vT (f:=C) (ρ:=ρ)with z|⟨d,I,z⟩<;>erw[z]at e
 .ext e
 calc#v[#v[H0,H,[]],ρ,H0,d,I,M.R.k3 M.n,z,λA_ w W O R1 S=>?_];calc#v[λi m σ H=>m=d.length - i/\i<=d.length/\∃c l h,vw w h/\Mx G F x t a b l σ c h H/\mxL n st (d.drop i) c l=U (ρ',A'),#v[_,J,bP _,ρ,A,w,vw.refl _,M.mu R1 O,e],?_];rintro i m σi p ⟨rfl,hi,c,l,h,u,r,j⟩;by_cases hlt:i<d.length
 .have ed:=iR hlt;rw[ed]at j;delta mxL at j;let#v[go,yl]:=(S i h p u r.R.sub).1 d[i] (aI hlt);calc .inr #v[go,λo H'=>∃c l h,vw w h/\Mx G F x t a b l o c h H'/\mxL n st (d.drop (i+1)) c l=U (ρ',A'),λo H' q=>#v[d.length - (i+1),by omega,J,hlt,q],λv H' y=>?_];let#v[H2,P,t2,t3,t4,t5]:=yl v H' y;cases B:st (c.set n (.q d[i])) l with
  |none=>erw[B]at j;cases j
  |some q=>let#v[N,T]:=q;erw[B]at j;show hb _ _ _ _ _ _ _ _ ((r.gk t3 P t2 t4).item hn t5) B λo H0' H' s' Y=>#v[N,T,H0',u.t (P.t s'),Y,j]
 .have ez:d.drop i=[]:=lI ();rw[ez]at j;ext j;show .inl #v[(S i h p u r.R.sub).2 (),k _ _ _ (O.t u) r]
def dcT(A:DD×DD):D:=.bx [.M A.1.1 A.1.2,.M A.2.1 A.2.2]
def Mx.frz2(M:Mx G F x t a b A σ ρ H0 H)(f:EH H [a,b] H'):(∀c o,H0 c=U o->c≠a/\c≠b/\H' c=U o)/\∀d,vw H0 d->d t=U (.bx [.ref a,.ref b])->d a=H' a->d b=H' b->c3 G d (dcT A) (.ref t):=by
 refine#v[λc o e=>?_,λd I r p q=>?_]
 .have h:c≠a:=λz=>by rw[z,M.a.2.1]at e;ext e
  have i:c≠b:=λz=>by rw[z,M.b.2.1]at e;ext e
  show#v[h,i,by rw[f.1 c (by simp[h,i])];show M.R.sub _ _ e]
 .have one:∀(c:Addr) (C:DD),c∈[a,b]->p5 G F H0 H c C->d c=H' c->c3 G d (.M C.1 C.2) (.ref c):=λc C u l m=>by let#v[#v[N,w,y,B],_]:=l;let#v[o,kvs,j,E]:=f.2 c u;rw[w]at j;ext j;show#v[c,o,N,J,by rw[m];show E,y,a9.mono I _ _ B]
  show zM (.inl (.inl r)) (vM (one a A.1 (by simp) M.a p) (vM (one b A.2 (by simp) M.b q) vO))
def Mx.lend(M:Mx G F x t a b A σ ρ H0 H)(l:EH H [a,b] H'):bc G #v[H',H',[]] σ (ρ.set x (.q (dcT A))) H' H':=by
 let#v[m,p]:=M.frz2 l;have f:=λc o e=>(m c o e).2.2;show {
  sub:=vw.refl _,g0:=vw.refl _
  keep:=λb o e w=>e
  fr:=λb o e=>.inl e
  am:=λa h=>by ext h
  len:=by rw[eC];show M.R.len
  sl:=λi s e=>by
   rw[cc]at e;by_cases h:x=i
   .subst h;rw[af J]at e;split at e
    .ext e;show#v[_,by rw[M.sx];rfl,p H' f (f _ _ M.ht) J J]
    .ext e
   .rw[ai h]at e;have ok:=M.R.sl i s e;have z:=ke M.n e;cases s with
    |un=>trivial
    |q d=>let#v[v,h1,h2]:=ok;show#v[v,h1,c3.mono f _ _ h2]
    |_=>ext z
  ap:=λi j s t a w e w so=>by rw[ke (tz M.n x _) e]at so;cases so }
#print h
def Mx.thaw(M:Mx G F x t a b A σ ρ H0 H)(d:EH H [a,b] H')(f:bc G #v[H',H',[]] i ρ' j c):Mx G F x t a b A σ ρ H0 (Ci H c [a,b]):=by
 have s:vw H (Ci H c [a,b]):=λb o e=>by
  delta Ci;split
  .show e
  .rename_i h;show f.keep b o ((d.1 b h).t e) (by simp)
 show M.gk s (vw.refl _) (λb o e=>s b o (M.R.sub _ _ e)) λb o e=>.inl e
#print f
def Mx.dk(M:Mx G F x t a b A σ ρ H0 H):∀c∈[a,b],∃kvs,H c=U (.dK kvs):=λc d=>by
 rcases aJ.1 d with z|z
 .let#v[f,e,_]:=M.a.1;show#v[_,by rw[z];show e]
 .let#v[f,e,_]:=M.b.1;show#v[_,by rw[aN.1 z];show e]
theorem Mx.good(M:Mx G F x t a b A σ ρ H0 H)(p:EH H [a,b] H'):∃H0',vw H0 H0'/\bc G F σ (ρ.set x (.q (dcT A))) H0' H':=by
 let#v[r,w]:=M.frz2 p;have q:∀c o,(if c∈[a,b]then H' c else H0 c)=U o->H' c=U o:=λc o e=>by
  split at e
  .show e
  .show(r c o e).2.2
 have l:=λc o e=>by let#v[na,u,y]:=r c o e;change (if c∈[a,b]then H' c else H0 c)=U o;rw[ai (by simp[na,u])];show e
 have nF:∀c,c∈[a,b]->F.B c=Z:=λc f=>by
  rcases aJ.1 f with z|z
  .rw[z];show M.a.2.2
  .rw[aN.1 z];show M.b.2.2
 calc#v[_,l,?_];show {
  sub:=q,g0:=M.R.g0.t l
  keep:=λc o e m=>by rw[p.1 c λz=>by rw[nF c z]at e;ext e];show M.R.keep c o e m
  fr:=λc o e=>by
   by_cases f:c∈[a,b]
   .show .inr (nF c f)
   .rw[ai f]at e;show M.R.fr c o e
  am:=λc h=>by
   by_cases f:c∈[a,b]
   .let#v[o,kvs,_,e]:=p.2 c f;show#v[_,e]
   .rw[p.1 c f];show M.R.am c h
  len:=by rw[eC];show M.R.len
  sl:=λi s e=>by
   rw[cc]at e;by_cases h:x=i
   .subst h;rw[af J]at e;split at e
    .ext e;show#v[_,by rw[M.sx];rfl,w _ l (l _ _ M.ht) (af (by simp)) (af (by simp))]
    .ext e
   .rw[ai h]at e;have ok:=M.R.sl i s e;have z:=ke M.n e;cases s with
    |un=>trivial
    |q d=>let#v[v,h1,h2]:=ok;show#v[v,h1,c3.mono l _ _ h2]
    |_=>ext z
  ap:=λi j s t a _ e _ so=>by rw[ke (tz M.n x _) e]at so;cases so }
def kv.frz2{eu:List Stmt}{t:TS}(h:kv X eu t):kv X eu (λE σ H=>∃as:List Addr,(∀a∈as,∃kvs,H a=U (.dK kvs))/\∀H',EH H as H'->t E σ H'):=λc s σ H D I #v[as,hd,e]=>by let#v[H',F,d]:=I.E' as hd;show h c s σ H' D d (e H' F)
def lentT(t:TT):TT:=λσ H Q=>∃as:List Addr,(∀a∈as,∃kvs,H a=U (.dK kvs))/\∀H',EH H as H'->t σ H' λb c=>(∀a∈as,c a=H' a)/\Q b (Ci H c as)
def Q?(x:Nat)(c:FT)(st:aU->DD×DD->Option (aU×(DD×DD))):aU->DD×DD->Option (aU×(DD×DD)):=λρ A=>match c (ρ.set x (.q (dcT A)))with
 |some (γ,_)=>st ρ A
 |some (δ,_)=>U (ρ,A)
 |none=>Z
def mxB_if{i:FT}{p:TS}{st:aU->DD×DD->Option (aU×(DD×DD))}(u:MxB G F x t a b p st):MxB G F x t a b (tIfS (lentT (m? G i)) p X2) (Q? x i st):=λE σ ρ H0 H A ρ' A' M e k=>by
 delta Q? at e;calc#v[[a,b],M.dk,λH' d=>?_];rcases vT (f:=i) (ρ:=ρ.set x (.q (dcT A)))with h|⟨y,j,h⟩<;>erw[h]at e
 .ext e
 refine#v[_,_,H',y,j,M.lend d,h,λz r s m=>#v[λc w=>?_,?_]]
 .let#v[o,kvs,_,q]:=d.2 c w;rw[q];show m.keep c _ q (by simp)
 .have l:=M.thaw d m;cases y with
  |true=>show Iw (u E _ _ _ _ _ _ _ l e k)
  |false=>ext e;show Iv (k _ _ _ (vw.refl _) l)
def Y'(x:Nat)(h i:aU->DD×DD->Option (aU×(DD×DD)))(fr:FS):FS:=λρ=>if (oz ρ&&decide (x<ρ.length))=γ then match h (ρ.set x .un) (([],[]),([],[]))with
 |some (c,e)=>match i c e with
  |some (d,f)=>fr (d.set x (.q (dcT f)))
  |none=>Z
 |none=>Z
 else Z
def noOwn_un(n:oz ρ=γ)(i:Nat):oz (ρ.set i .un)=γ:=bH.2 λs c=>by
 rcases oU c with h|h
 .show bH.1 n s h
 .subst h;rfl
#print h
def pss_mix{f h i:Stmt}{eu:List Stmt}{y B:TS}{m p:aU->DD×DD->Option (aU×(DD×DD))}{fr:FS}(h1:PS X f (Ee (tTup (Ef G1 (Ef G1 JM))) (Ab x)))(h2:PS X h y)(h3:PS X i B)
  (T:∀F t a b,MxB G F x t a b y m) (W:∀F t a b,MxB G F x t a b B p) (hr:kv X eu (kb G fr)):kv X (f::h::i::eu) (kb G (Y' x m p fr)):=
 kv.cx (A9 h1 (A9 h2 (A9 h3 (kv.frz2 hr)))) λE σ H hh=>by
  let#v[F,ρ,H0,o,R,e,k,k2]:=hh;delta Y' at e;split at e
  .rename_i Y;let#v[hn,r]:=Bool.and_eq_true_iff.1 Y;have r:=ba r;intro a ha b c;have hba:b≠a:=λz=>by rw[z,vp]at c;ext c
   calc#v[by rw[bS];simp,λt ht=>?_];have hta:t≠a:=λz=>by rw[z,vt (cg hba),vp]at ht;ext ht
   have htb:t≠b:=λz=>by rw[z,vp]at ht;ext ht
   have Q:=((R.gi ha (.dK [])).gi c (.dK [])).J? ht (.bx [.ref a,.ref b]);have d:=by rw[vt hba]at c;show c
   have M:Mx G F x t a b (([],[]),([],[])) (σ.set x (U (.ref t))) (ρ.set x .un) (el H0 t (.bx [.ref a,.ref b])) (el (el (el H a (.dK [])) b (.dK [])) t (.bx [.ref a,.ref b])):={
    R:=Q.set trivial λz=>by ext z
    n:=noOwn_un hn x
    sx:=by rw[cc,af J,af (by rw[R.len];show r)]
    ht:=vp
    ne:=cg hba
    a:=#v[#v[[],by rw[vt (cg hta),vt (cg hba),vp];rfl,J,vO],by rw[vt (cg hta)];show R.ey ha,R.gr ha]
    b:=#v[#v[[],by rw[vt (cg htb),vp];rfl,J,vO],by rw[vt (cg htb)];show R.ey d,R.gr d] }
   have s0:vw H0 (el H0 t (.bx [.ref a,.ref b])):=vE (((R.gi ha (.dK [])).gi c (.dK [])).ey ht) _;cases j:m (ρ.set x .un) (([],[]),([],[]))with
   |none=>erw[j]at e;cases e
   |some q=>
    let#v[u,C]:=q;erw[j]at e;cases l:p u C with
    |none=>erw[l]at e;cases e
    |some q=>let#v[ρ2,A2]:=q;erw[l]at e;calc T F t a b _ _ _ _ _ _ _ _ M j λσ2 H2 N s2 M2=>?_;calc W F t a b _ _ _ _ _ _ _ _ M2 l λσ3 H3 O s3 w=>?_;calc#v[[a,b],w.dk,λH' I=>?_];let#v[P,s4,S]:=w.good I;show#v[F,_,P,o,S,e,k.mu (s0.t (s2.t (s3.t s4))),k2]
  .ext e
end
#print f
structure ZMx(X:Cx)(B:Bz)(x:Nat)(st:Stmt)(f:aU->DD×DD->Option (aU×(DD×DD))):Prop where p:∃t2,PS X st t2/\∀F t a b,MxB B.G F x t a b t2 f
section
variable{X:Cx}{B:Bz}{k x n:Nat}{y z:Str}{e ec ek it c:Expr}{p p1 p2 p3 p4 pos apos:Pos}{fc fk fe:FE}{fi:FA}{ft:FT}{st st2 st3:Stmt}{eu:List Stmt}{f f2 f3:aU->DD×DD->Option (aU×(DD×DD))}{fr:FS}
def zr_mP [C:Cz X B k](h:pa X x y=γ)(a:ZE X B ec fc)(d:ZE X B ek fk)(l:ZE X B e fe)(b:Iz ec)(j:Wz X e (.Subscript (.Subscript (.Name y p) ec p2) ek apos) pos):ZMx X B x (.Assign [.Subscript (.Subscript (.Name y p) ec p2) ek apos] e pos) (M' fc fk fe):=
 #v[_,Ov (Le C.r) (Rh (VB _ C.K) (A? h) a.p λo i=>congrFun (congrFun b o) i) d.p l.p j,λz z z z=>mxB_put]
def zr_mF [C:Cz X B k](l:jA (model X.prog X.w) X.A X.a8 X.xe)(h:vr X n y=γ)(j:ZI X B (.Name y p) it fi)(i:ZMx X B x st f)(d:iH n x=δ)(m:Fz X it):ZMx X B x (.For (.Name y p) it [st] [] pos) (j2 n fi f):=by let#v[r,o,q]:=i.p;show#v[_,MK l C.c j.p (pgI h) (Ed o) λx=>congrFun m x,λF t a b=>mxB_for (λz=>by subst z;rw[rJ]at d;ext d) (q F t a b)]
def zr_mI(h:ZT X B c ft)(d:ZMx X B x st f):ZMx X B x (.If c [st] [] pos) (Q? x ft f):=by let#v[l,i,j]:=d.p;show#v[_,X4 (PT.lend h.p) (Ed i) N9,λF t a b=>mxB_if (j F t a b)]
def zr_mS{a:Nat}(h:vr X x y=γ)(l:ZMx X B x st2 f2)(m:ZMx X B x st3 f3)(r:ZB X B eu fr)(t:Wz X (.Tuple [.Dict [] [] p1,.Dict [] [] p2] a p3) (.Name y p4) pos)(o:Sz X (.Dict [] [] p1) [.Dict [] [] p2])(q:Sz X (.Dict [] [] p2) []):ZB X B (.Assign [.Name y p4] (.Tuple [.Dict [] [] p1,.Dict [] [] p2] a p3) pos::st2::st3::eu) (Y' x f2 f3 fr):=by let#v[E,u,w]:=l.p;let#v[F,A,C]:=m.p;let#v[b,d,i,j]:=GO h;show#v[pss_mix (QX b d i (Q9 (wQ Cs (wQ Cs zd q) o)) t j) u A w C r.p]
end
end L4
namespace K24x
open PySem L2 L3 L4
abbrev D:=L4.D
def top(i:Nat):Stmt:=PySem.Challenge.pw_tellworld_k24_whole_tests_hang_on_their.main.body.getD i (.Pass ⟨0,0,0,0⟩)
#print "zj 14;L8 2;Fq 9;CK 2;DL 14;Cj 14;CL 14" in def ϑ0:Nat->Bool:=λc=>c==ϑ1
def vV:Nat->Bool:=λc=>c==0||c==1||c==2
#print "Kv 10;Fs 10;D3 2" in def ϑ0:Nat->Bool:=λc=>c==ϑ1
def CM:Nat->Bool:=λc=>c==3||c==4||c==5||c==6||c==7||c==11||c==12
#print "Am 1;AG 14;zk 14;Bk 14;An 14" in def ϑ0:Nat->Bool:=λc=>c==ϑ1
#print "wo 0 7;Jz 3 11;xj 0 1;Ft 6 12" in def ϑ0:Nat->Bool:=λc=>c==ϑ1||c==ϑ2
#print "L9 13;AH 14;CN 8;xT 0;zp 14" in def ϑ0:Nat->Bool:=λc=>c==ϑ1
abbrev TZ:Ty->Option Bool:=Js 16 1
abbrev O9:Ty->Option Bool:=Js 16 0
def CO:L4.D:=(D.int 8)
def CP:L4.D:=(D.int 12)
def HN:L4.D:=(D.bx [(D.str "it"),(D.str "other"),(D.str "here"),(D.str "the"),(D.str "a"),(D.str "undo"),(D.str "restart")])
def Kw:L4.D:=(D.bx [(D.str "room"),(D.str "plain"),(D.str "fixed"),(D.str "box"),(D.str "lamp"),(D.str "you")])
def AI:L4.D:=(D.bx [(D.str "room"),(D.str "box"),(D.str "you")])
#print "HP the a;AJ box lamp;DM room you" in def ϑ0:L4.D:=(D.bx [(D.str "ϑ1"),(D.str "ϑ2")])
#print "EK 5;DN 7;BM 4;CQ 3;F5 10;EL 6;BN 4" in def ϑ0:L4.D:=(D.int ϑ1)
def Ao:L4.D:=(D.bx [(D.str "the"),(D.str "a"),(D.str "undo"),(D.str "restart")])
def EM:L4.D:=(D.int 20)
abbrev ae:=(cV 0)
abbrev ao:=(cV 1)
abbrev aO:=(cC (.int 1))
def yJ:=e? 2 2 (vz (xB (c1 (zL (yC "str")) ae) (xB (yI AU AU aO (c1 wW ae) ao) (c1 Ay (cL (vS 1 [] (iS ae) (gN 0) wJ (yI RZ RZ (cS "a") ae (cS "z"))))))))
#print "Dp O N;yM P P" in def ϑ0:=e? 1 1 (vz (xB (vo yJ (ab ae (a1 (cC Cϑ1)))) (c2 (k? γ) ae (cC Hϑ2))))
def wI:=e? 2 2 (vz (xB (c1 (zL (yC "str")) ae) (c2 (k? δ) ae ao)))
def D4:=e? 1 1 (vz (xB (c1 (zL (yC "int")) ae) (Gq (c1 (zL (yC "bool")) ae))))
def xk:=e? 2 2 (vz (xB (c1 (zL (yC "list")) ae) (c2 AU (c1 wW ae) ao)))
def D5:=e? 1 1 (vz (Y? (cT (c1 (zL (yC "list")) ae)) (cL (CB ae)) ae))
abbrev az:=(cV 2)
abbrev aB:=(cV 3)
abbrev aF:=(cV 4)
def EN:FS:=(a0 (we 0 0 "name" ao)
 (a0 (we 0 0 "words" az)
 (a0 (we 0 0 "kind" aB)
 (we 0 0 "start" aF))))
def EO:=vf 0 4 5 EN
def F6:=vf 1 3 4 (a0 (we 1 0 "name" ao)
 (a0 (we 1 0 "start" az)
 (we 1 0 "most" aB)))
abbrev bu:=(cC D.I)
def CS:FS:=(a0 (we 2 0 "name" ao)
 (a0 (we 2 0 "others" (Y? (cT (c2 Be az bu)) (v8 vG) az))
 (a0 (we 2 0 "form" aB)
 (we 2 0 "joining" aF))))
def yh:=vf 2 4 5 CS
def Ds:=vf 3 2 3 (a0 (we 3 0 "term" ao)
 (we 3 0 "place" az))
#print "a 6 value;K 7 kind" in def xϑ0:=vf ϑ1 2 3 (a0 (we ϑ1 0 "term" ao)
 (we ϑ1 0 "ϑ2" az))
#print "BO 4 term;F7 5 term;CT 8 word;xO 9 inner" in def ϑ0:=vf ϑ1 1 2 (we ϑ1 0 "ϑ2" ao)
#print "F8 10 one other;zz 11 term place;Ap 12 term value" in def ϑ0:=vf ϑ1 2 3 (a0 (we ϑ1 0 "ϑ2" ao)
 (we ϑ1 0 "ϑ3" az))
abbrev aY:=(cV 5)
abbrev f9:=(a1 az)
abbrev jV:=(a1 aB)
def F9:FS:=(a0 (we 13 0 "verb" ao)
 (a0 (we 13 0 "tests" (vo D5 f9))
 (a0 (we 13 0 "deeds" (vo D5 jV))
 (a0 (we 13 0 "text" aF)
 (we 13 0 "refuses" aY)))))
def CU:=vf 13 5 6 F9
def Bl:=e? 1 1 (vz (c2 (k? δ) (c1 (vP wo "kind") ae) (cC AI)))
def xE:Nat->Option (List D->Option D):=λc=>match c with
 |0=>U Bl
 |_=>Z
def Bm:=e? 1 1 (vz (c2 (k? δ) (c1 (vP wo "kind") ae) (cC AJ)))
def xF:Nat->Option (List D->Option D):=λc=>match c with
 |0=>U Bm
 |_=>Z
def Aq:=e? 1 1 (vz (c2 (k? γ) (c1 (vP wo "kind") ae) (cC DM)))
def xG:Nat->Option (List D->Option D):=λc=>match c with
 |0=>U Aq
 |_=>Z
def vC:=e? 2 2 (fx (zK (cT ae)) Wl vJ)
def BP:=e? 2 2 (vz (c1 wW (cL (vS 1 [1] (iL ae) (gN 0) (cT (c2 (eo δ) (c1 (vP wo "kind") ae) ao)) ae))))
def yY:=wh 1 1 (xC (vS 1 [] (iL ae) (gN 0) (cT (vZ xG "is_plainly" ae vG)) ae))
abbrev bo:=(cC (.int 0))
abbrev dB:=(cC (.bl δ))
def Fu:FS:=(a0 (fx (Ah (zK (cT (c1 (zL TZ) ae))) (Ah (zK (cT (vo D4 (a1 (c1 (vP xj "start") ae))))) (zK (cT (vo D4 (a1 (c1 (vP Am "most") ae))))))) (vz dB) vJ)
 (vz (xB (yI AU AU aO (c1 (vP Am "most") ae) (cC CQ)) (yI AU AU bo (c1 (vP xj "start") ae) (c1 (vP Am "most") ae)))))
def Fv:=e? 1 1 Fu
abbrev dW:=(cS "room")
abbrev f7:=(cS "you")
abbrev bX:=(a1 ae)
def Ar:FS:=(a0 (vR 1 (xB (c1 (zL (yC "list")) ae) (c1 Ay (cL (vS 1 [] (iL ae) (gN 0) wJ (c1 (zL O9) ae))))))
 (a0 (vY (vo vC (ab ao (a1 (cS "things are a list of things")))))
 (a0 (vY (vo vC (ab (c1 Ay (cL (vS 1 [] (iL ae) (gN 0) wJ (vo wI (ab (c1 (vP wo "kind") ae) (a1 (cC Kw))))))) (a1 (cS "a thing is of no kind")))))
 (a0 (vY (vo vC (ab (yI AU AU aO (vo BP (ab ae (a1 dW))) (cC EK)) (a1 (cS "a world has 1 to 5 rooms")))))
 (a0 (vY (vo vC (ab (c2 (eo δ) (vo BP (ab ae (a1 f7))) aO) (a1 (cS "a world has just one you")))))
 (vY (vo vC (ab (c2 AU (c1 wW (cL (wb yY bX))) (cC DN)) (a1 (cS "a world has at most 7 things beside rooms and you"))))))))))
def As:=e? 1 2 Ar
def AW:FS:=(a0 (vR 1 (xB (vo xk (ab ae (a1 (cC BM)))) (c1 Ay (cL (vS 1 [] (iL ae) (gN 0) wJ (vo Fv bX))))))
 (vY (vo vC (ab ao (a1 (cS "marks are a list of at most 4 marks, each from 0 to at most 3"))))))
def AX:=e? 1 2 AW
def w6:=e? 1 1 (vz (c2 (eo δ) (c1 (EB Gn) ae) (c1 wW ae)))
def AY:=e? 2 3 (a0 (vR 2 (cL (xi (cL (vS 1 [] (iL ae) (gN 0) wJ (c1 (vP vV "name") ae))) (cL (vS 1 [] (iL ao) (gN 0) wJ (c1 (vP vV "name") ae))))))
 (a0 (vY (vo vC (ab (c1 Ay (cL (vS 1 [] (iL az) (gN 0) wJ (vo Dp bX)))) (a1 (cS "a name is no name")))))
 (vY (vo vC (ab (vo w6 f9) (a1 (cS "two things or marks have one name")))))))
def BQ:=wh 2 2 (xC (xi (cL (vS 1 [] (iL ae) (gN 0) (cT (vZ xF "has_mark" ae vG)) (c1 (vP vV "name") ae))) (cL (vS 1 [] (iL ao) (gN 0) wJ (c1 (vP vV "name") ae)))))
def D6:FS:=(a0 (fx (cT (c2 (eo δ) (c1 (vP wo "kind") ao) dW)) (vz (c2 Be (c1 (vP xj "start") ao) bu)) vJ)
 (a0 (fx (cT (c2 (eo δ) (c1 (vP wo "kind") ao) f7)) (vz (vo wI (ab (c1 (vP xj "start") ao) (a1 (cL (vS 1 [] (iL ae) (gN 0) (cT (c2 (eo δ) (c1 (vP wo "kind") ae) dW)) (c1 (vP vV "name") ae))))))) vJ)
 (vz (vo wI (ab (c1 (vP xj "start") ao) (a1 (cL (vS 1 [] (iL ae) (gN 0) (cT (vZ xE "can_hold" ae vG)) (c1 (vP vV "name") ae)))))))))
def D7:=e? 2 2 D6
abbrev cN:=(cC (.bl γ))
def zG:=e? 2 4 (a0 (vR 2 (c2 wX ae ao))
 (a0 (yA (B? (c1 wW ae)) (gN 3) (a0 (fx (cT (c2 Be az bu)) (vz cN) vJ)
 (vR 2 (c2 wX ae az))))
 (vz (c2 Be az bu))))
abbrev lD:=(ab ao bX)
def Au:=e? 1 3 (a0 (vY (vo vC (ab (c1 Ay (cL (vS 1 [0] (iL ae) (gN 0) wJ (vo D7 lD)))) (a1 (cS "a start is none")))))
 (a0 (Ey 1)
 (a0 (yA (iL ae) (gN 2) (wK 1 (c1 (vP vV "name") az) (c1 (vP xj "start") az)))
 (vY (vo vC (ab (c1 Ay (cL (vS 1 [1] (iD (t9 1)) (gN 0) wJ (vo zG lD)))) (a1 (cS "a thing starts within itself"))))))))
def CV:=e? 1 1 (a0 (fx (Ah (zK (cT (c1 (zL (yC "tuple")) ae))) (zK (cT (yI AU AU aO (c1 wW ae) (cC BN))))) (vz dB) vJ)
 (vz (xB (c1 Ay (cL (vS 1 [] (iT ae) (gN 0) wJ (vo yM bX)))) (vo w6 bX))))
def Dt:=e? 2 2 (vz (c1 Ay (cL (vS 1 [0] (iT ao) (gN 0) wJ (c2 (k? δ) ae ao)))))
def zH:=e? 2 3 (a0 (vR 2 (cL (vS 1 [1] (iL ae) (gN 0) (cT (c2 (eo γ) (c1 (vP vV "name") ae) (c1 (vP vV "name") ao))) ae)))
 (vz (Gq (c1 Gr (cL (vS 1 [1] (iL az) (gN 0) wJ (vo Dt (ab (c1 (vP xT "words") ae) (a1 (c1 (vP xT "words") ao))))))))))
def xH:=e? 1 2 (a0 (vY (vo vC (ab (c1 Ay (cL (vS 1 [] (iL ae) (gN 0) wJ (vo CV (a1 (c1 (vP xT "words") ae)))))) (a1 (cS "a thing has 1 to 4 unlike words, as a tuple")))))
 (a0 (vR 1 (cL (wb yY bX)))
 (vY (vo vC (ab (c1 Ay (cL (vS 1 [1] (iL ao) (gN 0) wJ (vo zH lD)))) (a1 (cS "one thing has all words of another")))))))
abbrev cO:=(ab ae (a1 ao))
def BR:FS:=(a0 (vR 2 (xB (c1 (zL (yC "list")) ae) (xB (c1 Ay (cL (vS 1 [1] (iL ae) (gN 0) wJ (vo wI cO)))) (vo w6 bX))))
 (vY (vo vC (ab az (a1 (cS "dark is a list of rooms' names, each once"))))))
def BS:=e? 2 3 BR
#print "cz 2;fX 4;fY 3" in abbrev ϑ0:=(cC (.int ϑ1))
abbrev cA:=(a1 ao)
abbrev hE:=(a1 (c2 e7 ae aO))
def HQ:=e? 3 4 (a0 (fx (Ah (zK (cT (c1 (zL (yC "tuple")) ae))) (cT (c2 (eo γ) (c1 wW ae) fX))) (vz dB) vJ)
 (a0 (vR 3 (cOr (c2 Be (c2 e7 ae fY) bu) (vo wI (ab (c2 e7 ae fY) f9))))
 (vz (xB (vo wI (ab (c2 e7 ae bo) cA)) (xB (vo yM hE) (xB (vo wI (ab (c2 e7 ae cz) cA)) aB))))))
abbrev iN:=(ab ao (a1 az))
abbrev lE:=(ab ae iN)
def BU:FS:=(a0 (vR 3 (xB (vo xk (ab ae (a1 (cC F5)))) (c1 Ay (cL (vS 1 [1,2] (iL ae) (gN 0) wJ (vo HQ lE))))))
 (a0 (vY (vo vC (ab aB (a1 (cS "ways are a list of at most 10 tuples (room, word, room, mark)")))))
 (vY (vo vC (ab (vo w6 (a1 (cL (vS 1 [] (iL ae) (gN 0) wJ (v8 (ab (c2 e7 ae bo) hE)))))) (a1 (cS "two ways lead from one room by one word")))))))
def BV:=e? 3 4 BU
def DO:=e? 1 2 (a0 (vR 1 (xB (vo xk (ab ae (a1 (cC EL)))) (c1 Ay (cL (vS 1 [] (iL ae) (gN 0) wJ Hr)))))
 (vY (vo vC (ab ao (a1 (cS "verbs are a list of at most 6 verbs"))))))
def zA:=e? 2 2 (vz (Gq (c1 Gr (cL (vS 1 [1] (iL ae) (gN 0) wJ (c2 (k? δ) ae ao))))))
abbrev bK:=(cV 6)
abbrev cj:=(cV 7)
def yK:=e? 3 8 (a0 (yc 3 (vL vG))
 (a0 (yA (iL (cL (wb yY bX))) (gN 4) (vY (Ht 3 (c1 (vP xT "words") aF))))
 (a0 (yc 5 (vL vG))
 (a0 (yA (iL az) (gN 6) (vY (Ht 5 (FQ (v8 (a1 (c1 (vP vV "name") bK))) (c1 (vP D3 "others") bK)))))
 (a0 (vR 7 (cL (xi (cL (vS 1 [] (iL az) (gN 0) (cT (c2 zy (c1 (vP CK "joining") ae) bu)) (c1 (vP CK "joining") ae))) (cL (vS 1 [] (iL ao) (gN 0) wJ (c2 e7 ae aO))))))
 (a0 (vY (vo vC (ab (vo w6 (a1 (t9 5))) (a1 (cS "two verbs' names are alike")))))
 (a0 (vY (vo vC (ab (vo zA (ab (cL (xi (t9 5) cj)) (a1 (t9 3)))) (a1 (cS "a verb's, way's or joining word is a word of a thing")))))
 (a0 (vY (vo vC (ab (vo zA (ab (cL (xi (t9 5) cj)) (a1 (cC Ao)))) (a1 (cS "the, a, undo or restart is a word of the world")))))
 (vY (vo vC (ab (vo zA (ab cj (a1 (t9 5)))) (a1 (cS "a way's or joining word is a verb's name")))))))))))))
abbrev iQ:=(a1 aF)
def AZ:=e? 6 7 (a0 (vY (vo As bX))
 (a0 (vY (vo AX cA))
 (a0 (vY (vo AY cO))
 (a0 (vY (vo Au bX))
 (a0 (vY (vo xH bX))
 (a0 (vR 6 (cL (vS 1 [] (iL ae) (gN 0) (cT (c2 (eo δ) (c1 (vP wo "kind") ae) dW)) (c1 (vP vV "name") ae))))
 (a0 (vY (vo BS (ab az (a1 bK))))
 (a0 (vY (vo BV (ab aB (ab bK (a1 (cL (wb BQ cO)))))))
 (a0 (vY (vo DO iQ))
 (vY (vo yK (ab ae (ab aB (a1 (cL (xi aF aY))))))))))))))))
def A0:=e? 4 4 (vz (v7 13 (λa=>CU (a++[])) (ab ae (ab ao (ab az (ab aB (a1 dB)))))))
def wH:=e? 3 3 (vz (v7 13 (λa=>CU (a++[])) (ab ae (ab ao (ab (cL (vL vG)) (ab az (a1 cN)))))))
#print "cn it;f6 here;jJ fixed;jL take" in abbrev ϑ0:=(cS "ϑ1")
def ER:=wh 1 1 (xC (vL (ab (vo wH (ab jL (ab (cL (vL (a1 (v7 7 (λa=>xK (a++[])) (ab cn (a1 jJ)))))) (a1 (cS "That stays."))))) (ab (vo wH (ab jL (ab (cL (vL (a1 (v7 3 (λa=>Ds (a++[])) (ab cn bX))))) (a1 (cS "You have that."))))) (ab (vo A0 (ab jL (ab (cL (vL vG)) (ab (cL (vL (a1 (v7 11 (λa=>zz (a++[])) (ab cn bX))))) (a1 (cS "Taken.")))))) (ab (vo A0 (ab (cS "drop") (ab (cL (vL (a1 (v7 4 (λa=>BO (a++[])) (a1 cn))))) (ab (cL (vL (a1 (v7 11 (λa=>zz (a++[])) (ab cn (a1 f6)))))) (a1 (cS "Dropped.")))))) (a1 (vo wH (ab (cS "drop") (ab (cL (vL vG)) (a1 (cS "You lack that."))))))))))))
abbrev eR:=(cS "box")
abbrev eS:=(cS "other")
abbrev iM:=(cS "put")
abbrev jR:=(a1 eR)
def Ga:=wh 0 0 (xC (vL (ab (vo wH (ab iM (ab (cL (vL (a1 (v7 9 (λa=>xO (a++[])) (a1 (v7 4 (λa=>BO (a++[])) (a1 cn))))))) (a1 (cS "You lack that."))))) (ab (vo wH (ab iM (ab (cL (vL (a1 (v7 9 (λa=>xO (a++[])) (a1 (v7 7 (λa=>xK (a++[])) (ab eS jR))))))) (a1 (cS "It holds nothing."))))) (ab (vo wH (ab iM (ab (cL (vL (a1 (v7 6 (λa=>xa (a++[])) (ab eS (a1 bo)))))) (a1 (cS "It is shut."))))) (a1 (vo A0 (ab iM (ab (cL (vL vG)) (ab (cL (vL (a1 (v7 11 (λa=>zz (a++[])) (ab cn (a1 eS)))))) (a1 (cS "Done."))))))))))))
abbrev ly:=(ab cn (a1 aO))
abbrev lA:=(ab cn (a1 bo))
def Gb:=wh 0 0 (xC (vL (ab (vo wH (ab (cS "open") (ab (cL (vL (a1 (v7 9 (λa=>xO (a++[])) (a1 (v7 7 (λa=>xK (a++[])) (ab cn jR))))))) (a1 (cS "It has no lid."))))) (ab (vo wH (ab (cS "open") (ab (cL (vL (a1 (v7 6 (λa=>xa (a++[])) ly)))) (a1 (cS "It is open."))))) (ab (vo A0 (ab (cS "open") (ab (cL (vL vG)) (ab (cL (vL (a1 (v7 12 (λa=>Ap (a++[])) ly)))) (a1 (cS "Opened.")))))) (ab (vo wH (ab (cS "shut") (ab (cL (vL (a1 (v7 9 (λa=>xO (a++[])) (a1 (v7 7 (λa=>xK (a++[])) (ab cn jR))))))) (a1 (cS "It has no lid."))))) (ab (vo wH (ab (cS "shut") (ab (cL (vL (a1 (v7 6 (λa=>xa (a++[])) lA)))) (a1 (cS "It is shut."))))) (a1 (vo A0 (ab (cS "shut") (ab (cL (vL vG)) (ab (cL (vL (a1 (v7 12 (λa=>Ap (a++[])) lA)))) (a1 (cS "Shut."))))))))))))))
abbrev iK:=(a1 (cS "lamp"))
def DP:=wh 0 0 (xC (vL (ab (vo wH (ab (cS "light") (ab (cL (vL (a1 (v7 9 (λa=>xO (a++[])) (a1 (v7 7 (λa=>xK (a++[])) (ab cn iK))))))) (a1 (cS "It burns not."))))) (ab (vo wH (ab (cS "light") (ab (cL (vL (a1 (v7 6 (λa=>xa (a++[])) ly)))) (a1 (cS "It is lit."))))) (ab (vo A0 (ab (cS "light") (ab (cL (vL vG)) (ab (cL (vL (a1 (v7 12 (λa=>Ap (a++[])) ly)))) (a1 (cS "Lit.")))))) (ab (vo wH (ab (cS "douse") (ab (cL (vL (a1 (v7 9 (λa=>xO (a++[])) (a1 (v7 7 (λa=>xK (a++[])) (ab cn iK))))))) (a1 (cS "It burns not."))))) (ab (vo wH (ab (cS "douse") (ab (cL (vL (a1 (v7 6 (λa=>xa (a++[])) lA)))) (a1 (cS "It is out."))))) (a1 (vo A0 (ab (cS "douse") (ab (cL (vL vG)) (ab (cL (vL (a1 (v7 12 (λa=>Ap (a++[])) lA)))) (a1 (cS "Doused."))))))))))))))
def Gc:=wh 2 3 (a0 (yc 2 (vL (ab (v7 3 (λa=>Ds (a++[])) (ab ae (a1 (c2 e7 ao bo)))) (a1 (v7 8 (λa=>CT (a++[])) (a1 (c2 e7 ao aO)))))))
 (a0 (fx (cT (c2 zy (c2 e7 ao fY) bu)) (vY (zF 2 (v7 9 (λa=>xO (a++[])) (a1 (v7 6 (λa=>xa (a++[])) (ab (c2 e7 ao fY) (a1 bo))))))) vJ)
 (xC (Qd 2))))
abbrev oH:=(a1 (c2 e7 ae cz))
def HR:=wh 2 3 (a0 (vR 2 (cL (vS 1 [0] (iL ao) (gN 0) wJ (vo A0 (ab (cS "go") (ab (cL (wb Gc lD)) (ab (cL (vL (a1 (v7 11 (λa=>zz (a++[])) (ab ao oH))))) (a1 (cS "You go.")))))))))
 (xC (xi az (cL (vL (a1 (vo wH (ab (cS "go") (ab (cL (vL vG)) (a1 (cS "No way there.")))))))))))
def ES:=wh 0 0 (xC (vL (a1 (vo A0 (ab (cS "wait") (ab (cL (vL vG)) (ab (cL (vL vG)) (a1 (cS "Time goes by.")))))))))
def yi:=wh 2 2 (xC (xi (cL (xi (cL (xi (cL (xi (cL (xi (cL (wb ER bX)) (cL (wb Ga vG)))) (cL (wb Gb vG)))) (cL (wb DP vG)))) (cL (wb HR cO)))) (cL (wb ES vG))))
abbrev jG:=(cS "two")
abbrev jN:=(cS "way")
def yZ:=wh 0 0 (xC (xi (cL (vS 1 [] (iT (v8 (ab jL (ab (cS "drop") (ab (cS "open") (ab (cS "shut") (ab (cS "light") (a1 (cS "douse"))))))))) (gN 0) wJ (v7 2 (λa=>yh (a++[D.I,(D.str "one"),D.I])) bX))) (cL (vL (ab (v7 2 (λa=>yh (a++[])) (ab iM (ab (v8 vG) (ab jG (a1 (cS "in")))))) (ab (v7 2 (λa=>yh (a++[D.I])) (ab (cS "go") (ab (v8 vG) (a1 jN)))) (a1 (v7 2 (λa=>yh (a++[D.I])) (ab (cS "wait") (ab (v8 vG) (a1 (cS "alone"))))))))))))
def Fw:=e? 1 3 (a0 (Ey 1)
 (a0 (yA (iL ae) (gN 2) (wK 1 (c1 (vP vV "name") az) az))
 (vz (t9 1))))
def xQ:=e? 2 5 (a0 (Ey 2)
 (a0 (yA (iL ae) (gN 3) (fx (cT (vZ xF "has_mark" aB vG)) (wK 2 (c1 (vP vV "name") aB) aO) vJ))
 (a0 (yA (iL ao) (gN 4) (wK 2 (c1 (vP vV "name") aF) (c1 (vP Am "most") aF)))
 (vz (t9 2)))))
def xR:=e? 1 4 (a0 (Ey 1)
 (a0 (yA (iL ae) (gN 2) (yA (iT (FQ (v8 (a1 (c1 (vP vV "name") az))) (c1 (vP D3 "others") az))) (gN 3) (wK 1 aB az)))
 (vz (t9 1))))
def JA:FS:=(Np (vP L9 "verb"))
def Bn:=e? 1 3 JA
def zI:=e? 2 2 (xC (vS 1 [1] (iL (c1 (vP Cj "kept_things") ae)) (gN 0) (cT (c2 (eo δ) (c1 (vP wo "kind") ae) ao)) (c1 (vP vV "name") ae)))
def wG:Nat->Option (List D->Option D):=λc=>match c with
 |14=>U zI
 |_=>Z
def AK:=e? 1 1 (xC (xi (c1 (vP CL "kept_verbs") ae) (c1 (vP Bk "shared_verbs") ae)))
def yF:Nat->Option (List D->Option D):=λc=>match c with
 |14=>U AK
 |_=>Z
def zQ:FS:=(a0 (vY (vo AZ (ab ao (ab az (ab aB (ab aF (ab aY (a1 (cL (wb yZ vG))))))))))
 (a0 (we 14 0 "kept_things" (cL (CB ao)))
 (a0 (we 14 0 "kept_marks" (cL (CB az)))
 (a0 (we 14 0 "kept_dark" (cL (CB aB)))
 (a0 (we 14 0 "kept_ways" (cL (CB aF)))
 (a0 (we 14 0 "kept_verbs" (cL (CB aY)))
 (a0 (we 14 0 "shared_verbs" (cL (wb yZ vG)))
 (a0 (we 14 0 "your_name" (Bh 16 (c2 e7 (vZ wG "of_kind" ae (a1 f7)) bo)))
 (a0 (we 14 0 "things_by_name" (vo Fw cA))
 (a0 (we 14 0 "mosts_by_name" (vo xQ iN))
 (a0 (we 14 0 "verbs_by_word" (Bh 16 (vo xR (a1 (vZ yF "all_verbs" ae vG)))))
 (a0 (vR 7 (Bh 16 (xB (vo xk (ab bK (a1 (cC EM)))) (c1 Ay (cL (vS 1 [0] (iL bK) (gN 0) wJ Hr))))))
 (a0 (vY (vo vC (ab cj (a1 (cS "rules are a list of at most 20 rules, each as it may be")))))
 (a0 (we 14 0 "kept_rules" (cL (CB bK)))
 (a0 (we 14 0 "shared_rules" (Bh 16 (cL (wb yi (ab (c1 (vP zp "your_name") ae) iQ)))))
 (a0 (we 14 0 "copied_rules" (cL (vS 1 [] (iL bK) (gN 0) wJ Hr)))
 (we 14 0 "rules_by_verb" (Bh 16 (vo Bn (a1 (cL (xi (c1 (vP zj "copied_rules") ae) (c1 (vP zk "shared_rules") ae)))))))))))))))))))))))
def zR:=vf 14 6 8 zQ
def Gd:=e? 1 1 (vz (c1 (vP zp "your_name") ae))
def z9:Nat->Option (List D->Option D):=λc=>match c with
 |14=>U Gd
 |_=>Z
def Bo:=e? 2 2 (vz (c2 F4 (c1 (vP An "things_by_name") ae) ao))
def wN:Nat->Option (List D->Option D):=λc=>match c with
 |14=>U Bo
 |_=>Z
def zJ:=e? 2 2 (vz (c2 Ex (c1 (vP AG "mosts_by_name") ae) ao))
def yD:Nat->Option (List D->Option D):=λc=>match c with
 |14=>U zJ
 |_=>Z
def Ck:=e? 2 2 (vz (c2 (k? δ) ao (c1 (vP DL "kept_dark") ae)))
def zq:Nat->Option (List D->Option D):=λc=>match c with
 |14=>U Ck
 |_=>Z
def Kz:FS:=(a0 (fx (cT (c2 (eo δ) ae cn)) (vz ao) vJ)
 (a0 (fx (cT (c2 (eo δ) ae eS)) (vz az) vJ)
 (vz (Y? (cT (c2 (eo δ) ae f6)) bu ae))))
def BW:=e? 3 3 Kz
abbrev jH:=(cS "at")
abbrev tu:=(a1 (v8 (ab jH cA)))
def xu:=e? 2 3 (a0 (vR 2 (vZ wN "thing_of" ae cA))
 (vz (Y? (Ah (cT (c2 Be az bu)) (cT (c2 (eo δ) (c1 (vP wo "kind") az) dW))) (cL (vL vG)) (cL (vL tu)))))
abbrev lb:=(cS "mark")
abbrev tD:=(a1 (v8 (ab lb cA)))
def y3:=e? 2 2 (vz (Y? (cT (c2 Be (vZ yD "most_of" ae cA) bu)) (cL (vL vG)) (cL (vL tD))))
abbrev oI:=(ab jH bX)
def CW:=e? 1 1 (xC (vS 1 [] (iL (vZ wG "of_kind" ae jR)) (gN 0) wJ (v8 oI)))
abbrev lp:=(a1 (vZ z9 "you" ae vG))
def zr:=e? 1 3 (a0 (vR 1 (cL (xi (vZ wG "of_kind" ae jR) (vZ wG "of_kind" ae iK))))
 (a0 (vR 2 (cL (vS 1 [] (iL ao) (gN 0) wJ (v8 (ab lb bX)))))
 (xC (xi (cL (vS 1 [] (iL (cL (xi ao (cL (vL lp))))) (gN 0) wJ (v8 oI))) az))))
def BX:=e? 1 1 (vz (FN (cL (zi ae))))
abbrev jO:=(ab ao (a1 (vo BW (ab (c1 (vP CM "term") ae) (ab az jV)))))
abbrev sZ:=(a1 (c1 (vP Jz "place") ae))
abbrev oh:=(ab (c1 (vP CM "term") ae) sZ)
abbrev sT:=(ab ao (a1 (vZ z9 "you" ao vG)))
def HS:=e? 4 5 (a0 (vR 4 (vo xu jO))
 (a0 (fx (cT (c2 (k? δ) f6 (v8 oh))) (vR 4 (cL (xi aF (vo xu sT)))) vJ)
 (vz (vo BX iQ))))
#print "Ge CW;ET zr" in def ϑ0:=e? 4 4 (vz (vo BX (a1 (cL (xi (vo xu jO) (vo ϑ1 cA))))))
def CY:=e? 4 4 (vz (vo BX (a1 (vo y3 jO))))
def EU:=e? 4 4 (vz (v8 vG))
def EV:=e? 4 4 (vz (v8 vG))
def Gf:=e? 4 4 (vz (vo BX (a1 (vo zr cA))))
abbrev sM:=(ab az jV)
abbrev hG:=(ab ao sM)
def AL(g:Nat->Option (List D->Option D)):FS:=(vz (vZ g "reads" (c1 (vP Fq "inner") ae) hG))
def zS(g:Nat->Option (List D->Option D)):FS:=(vz (vo BX (a1 (Jw (vZ g "reads" (c1 (vP Kv "one") ae) hG) (vZ g "reads" (c1 (vP Fs "other") ae) hG)))))
def BY:Nat->Option (List D->Option D):=λc=>match c with
 |3=>U HS
 |4=>U Ge
 |5=>U ET
 |6=>U CY
 |7=>U EU
 |8=>U EV
 |15=>U Gf
 |_=>Z
def Av:=e? 2 3 (a0 (yA (iT ae) (gN 2) (fx (cT (c2 (eo δ) (c2 e7 az bo) ao)) (vz (c2 e7 az aO)) vJ))
 (vz bu))
def yt:=e? 2 2 (vz (vo Av (ab ae tu)))
def yN:=e? 2 2 (vz (vo Av (ab ae tD)))
def zT:=wh 3 5 (a0 (yc 3 (vL vG))
 (a0 (vR 4 (vo yt iN))
 (a0 (K' (cT (c2 zy aF bu)) (a0 (vY (zF 3 aF))
 (vR 4 (vo yt (ab ao iQ)))) 50)
 (xC (Qd 3)))))
def yO:=e? 2 2 (vz (vo yt (ab ao lp)))
def yP:=e? 3 3 (vz (xB (c2 (eo δ) (c1 (vP wo "kind") (vZ wN "thing_of" ae f9)) eR) (c2 (eo δ) (vo yN iN) bo)))
def yQ:=e? 4 5 (a0 (yA (iL (cL (wb zT lE))) (gN 4) (a0 (fx (cT (c2 (eo δ) aF aB)) (vz cN) vJ)
 (fx (cT (vo yP (ab ae (ab ao iQ)))) (vz dB) vJ)))
 (vz dB))
def YD:=e? 3 3 (vz (c2 (k? δ) (vZ z9 "you" ae vG) (cL (wb zT lE))))
def BZ:=e? 4 4 (vz (xB (c2 (eo δ) (vo yN iN) aO) (vo yQ (ab ae hG))))
def EW:=e? 2 3 (a0 (vR 2 (vo yO cO))
 (a0 (fx (zK (cT (vZ zq "is_dark" ae f9))) (vz cN) vJ)
 (vz (c1 Gr (cL (vS 1 [0,1,2] (iL (vZ wG "of_kind" ae iK)) (gN 0) wJ (vo BZ (ab ao (ab az (ab ae jV))))))))))
def Fy:=e? 3 4 (a0 (vR 3 (vZ wN "thing_of" ae f9))
 (a0 (fx (Ah (cT (c2 Be aB bu)) (zK (cT (vZ xG "is_plainly" aB vG)))) (vz dB) vJ)
 (a0 (fx (cT (vo yQ (ab ae (ab ao (ab az lp))))) (vz cN) vJ)
 (vz (xB (vo yQ (ab ae (ab ao (ab az (a1 (vo yO cO)))))) (vo EW cO))))))
def Gs:=e? 2 2 (vz (c2 Ex (c1 (vP AH "verbs_by_word") ae) ao))
def A4:Nat->Option (List D->Option D):=λc=>match c with
 |14=>U Gs
 |_=>Z
def AM:=e? 2 3 (a0 (vR 2 (Y? (cT (c2 Be ao bu)) bu (vZ A4 "verb_of" ae (a1 (c2 e7 ao bo)))))
 (vz (xB (c2 zy az bu) (c2 (eo δ) (c1 (vP L8 "form") az) jN))))
abbrev iP:=(a1 bu)
abbrev oJ:=(ab bu iP)
def yj:=e? 2 2 (a0 (fx (Ah (cT (c2 Be ao bu)) (cT (vo AM cO))) (vz (v8 oJ)) vJ)
 (vz (v8 (ab (c2 e7 ao aO) (a1 (c2 e7 ao cz))))))
def yG:=e? 4 4 (a0 (fx (cT (c2 (eo δ) aB f6)) (vz (vo yO cO)) vJ)
 (a0 (fx (cT (c2 (eo δ) aB cn)) (vz (c2 e7 (vo yj (ab ae f9)) bo)) vJ)
 (a0 (fx (cT (c2 (eo δ) aB eS)) (vz (c2 e7 (vo yj (ab ae f9)) aO)) vJ)
 (vz aB))))
abbrev og:=(ab ao (ab az (ab aB (a1 (c1 (vP CM "term") ae)))))
abbrev vc:=sZ
abbrev sX:=(ab ao (ab az (ab aB vc)))
def B2:=e? 4 6 (a0 (vR 4 (vo yG og))
 (a0 (vR 5 (vo yt (ab az iQ)))
 (vz (xB (c2 zy aY bu) (c2 (eo δ) aY (vo yG sX))))))
abbrev oG:=(ab az (a1 (vo yG og)))
def CZ:=e? 4 4 (vz (vo YD (ab ao oG)))
def B3:=e? 4 4 (vz (vo Fy (ab ao oG)))
def y4:=e? 4 5 (a0 (vR 4 (vo yN oG))
 (vz (xB (c2 zy aF bu) (c2 (eo δ) aF (c1 (vP Ft "value") ae)))))
def B4:=e? 4 5 (a0 (vR 4 (vZ wN "thing_of" ao (a1 (vo yG og))))
 (vz (xB (c2 zy aF bu) (c2 (eo δ) (c1 (vP wo "kind") aF) (c1 (vP wo "kind") ae)))))
def zU:=e? 4 4 (vz (xB (vo AM (ab ao jV)) (c2 (eo δ) (c2 e7 aB aO) (c1 (vP CN "word") ae))))
def Da:=e? 4 4 (vz (vo EW iN))
def zB(g:Nat->Option (List D->Option D)):FS:=(vz (Gq (vZ g "holds" (c1 (vP Fq "inner") ae) hG)))
def y6(g:Nat->Option (List D->Option D)):FS:=(vz (xB (vZ g "holds" (c1 (vP Kv "one") ae) hG) (vZ g "holds" (c1 (vP Fs "other") ae) hG)))
def B5:Nat->Option (List D->Option D):=λc=>match c with
 |3=>U B2
 |4=>U CZ
 |5=>U B3
 |6=>U y4
 |7=>U B4
 |8=>U zU
 |15=>U Da
 |_=>Z
#print "wu Y AL zS;vX 5 zB y6" in def ϑ0:Nat->Nat->Option (List D->Option D)
 |0=>Bϑ1
 |n+1=>λc=>match c with
  |9=>U (e? 4 4 (ϑ2 (ϑ0 n)))
  |10=>U (e? 4 4 (ϑ3 (ϑ0 n)))
  |c=>Bϑ1 c
def y7:=e? 2 2 (a0 (fx (cT (c2 DA ao (c1 wW ae))) (vz (c2 e7 ae ao)) vJ)
 (vz bo))
#print "fW 2147483647;dD 6;fZ 10;lh 48271" in abbrev ϑ0:=(cC (.int ϑ1))
def y8:=wh 2 7 (a0 (yc 2 (vL vG))
 (a0 (vR 3 bo)
 (a0 (fx (cT (c2 Z6 ae (c2 FM fZ (cC (.int 18))))) (vR 3 (c2 Ls ae (c2 FM fZ (cC (.int 18))))) vJ)
 (a0 (K' (DI (zu (cT (c2 IC aB bo)) (cT (c2 DA (c1 wW az) ao)))) (a0 (vY (zF 2 (c2 ye aB (c2 FM fZ dD))))
 (vR 3 (c2 DH aB (c2 FM fZ dD)))) 200)
 (a0 (vR 4 (c2 ye (c2 zx (c2 wA (c2 ye ae fW) aO) lh) fW))
 (a0 (yA (B? ao) (gN 5) (a0 (vR 4 (c2 ye (c2 zx (c2 wA (c2 wA aF (c2 zx (cC (.int 7919)) aY)) aO) lh) fW))
 (a0 (vR 6 (c2 ye (c2 zx aF (c2 wA (c2 DH aF (cC (.int 1009))) (cC (.int 69621)))) fW))
 (vY (zF 2 (c2 ye (c2 zx bK (c2 wA (c2 DH bK (cC (.int 2003))) (cC (.int 40692)))) (cC (.int 2147483399))))))))
 (xC (BI (t9 2) θ (vu ao)))))))))
def Gg:FS:=(a0 (fx (DI (cT (c2 (eo δ) ae (cL (vL vG))))) (vz bo) vJ)
 (vz (c2 ye (OC 0) ao)))
def vg:=ZY 1 2 Gg
#print "va 8;dU 7;lj 25" in abbrev ϑ0:=(cC (.int ϑ1))
abbrev jU:=(a1 va)
def EX:FS:=(a0 (vR 1 (v9 vg 0 (a1 lj)))
 (a0 (vR 2 (cS "bcdefghijklmnopqrstuvwxyz"))
 (xC (vS 1 [2,0,1] (B? (cC (.int 17))) (gN 0) wJ (c2 LB (c2 e7 ao (c2 ye (c2 wA aB (c2 zx dU ae)) lj)) (c2 wA aO (v9 vg 2 jU)))))))
def B6:=ZY 0 3 EX
abbrev fI:=(cC (.int 5))
abbrev jK:=(cS "plain")
abbrev ox:=(a1 (Et (c1 wW aF)))
def A5:FS:=(a0 (yc 3 (vL vG))
 (a0 (yc 4 (xi ao (cL (vL (a1 (c2 e7 ae fI))))))
 (a0 (yA (iL (cL (BI ae (vu dD) (vu (c2 wA dD (v9 vg 2 jU)))))) (gN 5) (a0 (vR 6 (c2 e7 (cL (vL (ab jK (ab eR (ab (cS "lamp") (ab jJ (ab eR (ab (cS "lamp") (ab eR (a1 jK)))))))))) (v9 vg 2 jU)))
 (a0 (vY (zF 3 (v8 (ab aY (ab bK (a1 (Fd 4 (v9 vg 2 ox))))))))
 (fx (cT (c2 (eo δ) bK eR)) (vY (zF 4 aY)) vJ))))
 (xC (Qd 3)))))
def xU:=z5 2 7 A5
abbrev eQ:=(yH (gN 0) (yH (gN 1) (yH (gN 2) G9)))
abbrev jS:=(a1 (c1 wW aB))
def Dc:=e? 1 14 (a0 (yc 1 (wb y8 (ab ae (a1 (cC (.int 110))))))
 (a0 (vR 2 (v9 B6 1 vG))
 (a0 (vR 3 (cL (BI az θ (vu (c2 wA aO (v9 vg 1 (a1 fI)))))))
 (a0 (vR 4 (cL (xi (cL (vS 1 [] (iL aB) (gN 0) wJ (v8 (ab ae (ab dW iP))))) (cL (vL (a1 (v8 (ab (c2 e7 az fI) (ab f7 (a1 (c2 e7 aB (v9 vg 1 jS))))))))))))
 (a0 (vR 5 (cL (vL vG)))
 (a0 (yA (iL (cL (xi aF (wY xU 1 sM)))) (gN 6) (a0 (vR 7 (v9 vg 1 (a1 (c2 wA (c1 wW aY) aO))))
 (vR 5 (cL (xi (cL (xi (cL (BI aY θ (vu cj))) (cL (vL (a1 bK))))) (cL (BI aY (vu cj) θ)))))))
 (a0 (yc 8 (vL vG))
 (a0 (yA (iL (cL (BI az (vu (cC (.int 13))) (vu (c2 wA (cC (.int 13)) (v9 vg 1 (a1 fI))))))) (gN 9) (a0 (vR 10 (c2 wA aO (v9 vg 1 (a1 fY))))
 (vY (zF 8 (v8 (ab (cV 9) (ab (v9 vg 1 (a1 (c2 wA (cV 10) aO))) (a1 (cV 10)))))))))
 (a0 (vR 11 (cL (vS 1 [1] (iL aB) (gN 0) (cT (c2 (eo δ) (v9 vg 1 (a1 cz)) aO)) ae)))
 (a0 (vR 12 (cL (vL (ab (v8 vG) (ab (v8 (a1 (cS "red"))) (a1 (v8 (ab (cS "old") (a1 (cS "red"))))))))))
 (a0 (vR 13 (cL (vS 3 [12,1] (iL aY) (gT eQ 3) wJ (FQ (v8 bX) (c2 e7 aB (v9 vg 4 (a1 fY)))))))
 (vz (CG [("rows", aY),("marks", (t9 8)),("dark", (cV 11)),("words", (cV 13)),("you", (c2 e7 az fI))])))))))))))))
abbrev jM:=(cS "rows")
def Dd:=wh 1 2 (a0 (vR 1 (cL (vS 3 [] (iL (c2 wX ae jM)) (gT eQ 3) (cT (c2 (eo δ) ao dW)) ae)))
 (xC (vL (ab (v8 (ab (c2 e7 ao bo) (ab (cS "north") (ab (c2 e7 ao (c2 Ls (c1 wW ao) aO)) iP)))) (a1 (v8 (ab (c2 e7 ao bo) (ab (cS "up") (ab (c2 e7 ao bo) iP)))))))))
abbrev iJ:=(yH (gN 0) (yH (gN 1) G9))
abbrev jP:=(ab (c2 e7 ae aO) oH)
def B7:=e? 1 3 (a0 (vR 1 (cL (vS 2 [] (iZ (ab (c2 wX ae jM) (a1 (c2 wX ae (cS "words"))))) (gT iJ 2) wJ (v7 0 (λa=>EO (a++[])) (ab (c2 e7 ae bo) (ab ao jP))))))
 (a0 (vR 2 (cL (vS 3 [] (iL (c2 wX ae (cS "marks"))) (gT eQ 3) wJ (v7 1 (λa=>F6 (a++[])) lE))))
 (vz (v7 14 (λa=>zR (a++[])) (ab ao (ab az (ab (cL (CB (c2 wX ae (cS "dark")))) (ab (cL (wb Dd bX)) (ab (cL (vL vG)) (a1 (cL (vL vG))))))))))))
def wV:=wh 2 2 (xC (vS 3 [1] (iL (c2 wX ae jM)) (gT eQ 3) (cT (c2 (k? δ) ao aB)) ae))
abbrev k8:=(yH (gN 3) (yH (gN 4) G9))
abbrev oA:=(yH (gN 2) k8)
abbrev oB:=(ab eR iK)
def B8:FS:=(a0 (Ey 1)
 (a0 (yA (iL (cL (wb wV (ab ae (a1 (cL (vL oB))))))) (gN 2) (wK 1 az aO))
 (a0 (yA (iL (c2 wX ae (cS "marks"))) (gT oA 3) (wK 1 az aF))
 (vz (t9 1)))))
def yu:=e? 1 5 B8
abbrev jQ:=(ab ae (a1 (cL (vL (a1 eR)))))
def A6:FS:=(a0 (Ey 2)
 (a0 (yc 3 (wb wV (ab ae (a1 (cL (vL (ab dW (a1 f7))))))))
 (a0 (yc 4 (wb wV jQ))
 (a0 (K' (DI (cT (c2 (eo γ) aF (cL (vL vG))))) (a0 (vR 5 (DZ 4 (v9 vg 1 ox)))
 (a0 (wK 2 aY (Fd 3 (v9 vg 1 (a1 (Et (c1 wW aB))))))
 (vY (zF 3 aY)))) 50)
 (a0 (yA (iL (cL (wb wV (ab ae (a1 (cL (vL (ab jK (ab jJ iK))))))))) (gN 6) (wK 2 bK (Fd 3 (v9 vg 1 (a1 (Et (c1 wW aB)))))))
 (a0 (vR 7 (cL (wb wV (ab ae (a1 (cL (vL (a1 dW))))))))
 (a0 (wK 2 (c2 wX ae f7) (c2 e7 cj (v9 vg 1 (a1 (c1 wW cj)))))
 (vz (t9 2)))))))))
def xw:=z5 1 8 A6
def B9:FS:=(a0 (Ey 2)
 (a0 (yA (ω (vo yu bX)) (gT k8 2) (wK 2 aB (v9 vg 1 (a1 (c2 wA aF aO)))))
 (vz (t9 2))))
def yw:=z5 1 5 B9
def y9:=e? 2 3 (a0 (vR 2 (cL (vS 2 [] (ω ae) (gT iJ 2) wJ (v8 (ab (v8 oI) cA)))))
 (vz (FN (cL (HB (cL (xi az (cL (vS 2 [] (ω ao) (gT iJ 2) wJ (v8 (ab (v8 (ab lb bX)) cA)))))))))))
def za:FS:=(a0 (vR 2 (cL (wb wV (ab ae (a1 (cL (vL (ab jK (ab jJ oB)))))))))
 (a0 (vR 3 (v9 vg 1 jU))
 (a0 (fx (Ah (cT (c2 (eo δ) az (cL (vL vG)))) (cT (c2 IC aB fI))) (vz (c2 e7 (cL (vL (ab (v8 (ab (cS "go") (ab (c2 e7 (cL (vL (ab (cS "north") (a1 (cS "up"))))) (v9 vg 1 (a1 cz))) iP))) (a1 (v8 (ab (cS "wait") oJ)))))) (c2 ye aB cz))) vJ)
 (a0 (vR 4 (c2 e7 az (v9 vg 1 (a1 (c1 wW az)))))
 (a0 (fx (cT (c2 DA aB cz)) (vz (v8 (ab jL (ab aF iP)))) vJ)
 (vz (v8 (ab iM (ab aF (a1 (c2 e7 az (v9 vg 1 (a1 (c1 wW az))))))))))))))
def yk:=z5 1 5 za
def De:=e? 1 1 (vz (c2 wX (CG [("go", jN),("wait", (cS "alone")),("take", (cS "one")),("put", jG)]) (c2 e7 ae bo)))
abbrev gV:=(ab (cS "one") (a1 (cS "two")))
def AN:FS:=(a0 (vR 3 (cL (vS 3 [] (iL (c2 wX ae jM)) (gT eQ 3) wJ ae)))
 (a0 (vR 4 (cL (xi (cL (cSl (cL (BI aB (vu (v9 vg 2 jS)) θ)) Z (U 3))) (cL (vL (a1 f6))))))
 (a0 (fx (cT (c2 (k? δ) ao (cL (vL gV)))) (vR 4 (cL (xi aF (cL (vL (ab cn (ab cn (a1 cn)))))))) vJ)
 (a0 (fx (cT (c2 (eo δ) ao jG)) (vR 4 (cL (xi aF (cL (vL (ab eS (a1 eS))))))) vJ)
 (vz (c2 e7 aF (v9 vg 2 (a1 (c1 wW aF)))))))))
def ym:=z5 2 5 AN
def Ca:FS:=(a0 (vR 3 (cL (wb wV (ab ae (a1 (cL (vL (ab dW (ab eR (a1 f7))))))))))
 (a0 (yc 4 (vL (ab (c2 e7 aB (v9 vg 2 jS)) (ab (c2 e7 aB (v9 vg 2 jS)) (a1 f6)))))
 (a0 (fx (cT (c2 (k? δ) ao (cL (vL gV)))) (vY (zF 4 cn)) vJ)
 (a0 (fx (cT (c2 (eo δ) ao jG)) (yc 4 (xi (t9 4) (cL (vL (ab eS (a1 eS)))))) vJ)
 (vz (Fd 4 (v9 vg 2 ox)))))))
def zV:=z5 2 5 Ca
def zt:FS:=(a0 (vR 3 (vo yu bX))
 (a0 (vR 4 (cL (Fn aB)))
 (a0 (fx (zu (cT (c2 (k? δ) ao (cL (vL gV)))) (Ah (cT (c2 (eo δ) aF (cL (vL vG)))) (cT (c2 (eo δ) (v9 vg 2 (a1 cz)) bo)))) (vz (v8 (ab (c2 e7 (cL (vL (ab cn (a1 (c2 e7 (cL (vL (ab cn (a1 eS)))) (c1 ID (c2 (eo δ) ao jG))))))) (v9 vg 2 (a1 cz))) (a1 (v9 vg 2 (a1 fX)))))) vJ)
 (a0 (vR 5 (c2 e7 aF (v9 vg 2 (a1 (c1 wW aF)))))
 (vz (v8 (ab aY (a1 (v9 vg 2 (a1 (c2 wA (c2 wX aB aY) aO)))))))))))
def yE:=z5 2 6 zt
abbrev sL:=(yH (gN 6) (yH (gN 7) G9))
abbrev gZ:=(ab ae (ab ao (a1 (c2 Ls aB aO))))
abbrev sU:=(ab (cS "marked") (ab bK (a1 cj)))
abbrev tE:=(a1 (wY ym 2 cO))
def w9(g:List D->List D->Option (D×List D)):FS:=(a0 (vR 4 (v9 vg 2 (a1 (c2 e7 (cL (vL (ab dU (a1 fZ)))) (c1 ID (c2 IC aB aO))))))
 (a0 (fx (cT (c2 (eo δ) aF bo)) (vz (v8 (ab jH (ab (wY ym 2 cO) (a1 (wY zV 2 cO)))))) vJ)
 (a0 (fx (cT (c2 (eo δ) aF aO)) (vz (v8 (ab (cS "has") tE))) vJ)
 (a0 (fx (cT (c2 (eo δ) aF cz)) (vz (v8 (ab (cS "seen") tE))) vJ)
 (a0 (fx (cT (c2 (eo δ) aF fY)) (a0 (vR 5 (cL (vL (ab dW (ab jK (ab jJ (ab eR (ab (cS "lamp") (ab f7 oB)))))))))
 (vz (v8 (ab (cS "kind") (ab (wY ym 2 cO) (a1 (c2 e7 aY (v9 vg 2 jU)))))))) vJ)
 (a0 (fx (zu (cT (c2 (eo δ) aF fX)) (cT (c2 (eo δ) ao jN))) (vz (v8 (ab (cS "word") (a1 (c2 e7 (cL (vL (ab (cS "north") (ab (cS "up") (ab (cS "down") (a1 (cS "upp"))))))) (v9 vg 2 (a1 fX))))))) vJ)
 (a0 (fx (zu (cT (c2 DA aF dD)) (Ah (cT (c2 (k? δ) ao (cL (vL gV)))) (cT (c2 WY (vo yu bX) (CG []))))) (a0 (JZ (wY yE 2 cO) (gT sL 2))
 (vz (v8 sU))) vJ)
 (a0 (fx (cT (c2 DA aF dU)) (vz (v8 (a1 (cS "lit")))) vJ)
 (a0 (fx (cT (c2 (eo δ) aF dU)) (vz (v8 (ab (cS "not") (a1 (wY g 2 gZ))))) vJ)
 (vz (v8 (ab (cS "both") (ab (wY g 2 gZ) (a1 (wY g 2 gZ)))))))))))))))
def vU:Nat->List D->List D->Option (D×List D)
 |0=>fnJ 2 3 8 Wl
 |n+1=>fnJ 2 3 8 (w9 (vU n))
def zC(g:List D->Option D):FS:=(a0 (vR 1 (c2 e7 ae bo))
 (a0 (fx (cT (c2 (eo δ) ao jH)) (vz (v7 3 (λa=>Ds (a++[])) jP)) vJ)
 (a0 (fx (cT (c2 (eo δ) ao (cS "has"))) (vz (v7 4 (λa=>BO (a++[])) hE)) vJ)
 (a0 (fx (cT (c2 (eo δ) ao (cS "seen"))) (vz (v7 5 (λa=>F7 (a++[])) hE)) vJ)
 (a0 (fx (cT (c2 (eo δ) ao (cS "marked"))) (vz (v7 6 (λa=>xa (a++[])) jP)) vJ)
 (a0 (fx (cT (c2 (eo δ) ao (cS "kind"))) (vz (v7 7 (λa=>xK (a++[])) jP)) vJ)
 (a0 (fx (cT (c2 (eo δ) ao (cS "word"))) (vz (v7 8 (λa=>CT (a++[])) hE)) vJ)
 (a0 (fx (cT (c2 (eo δ) ao (cS "not"))) (vz (v7 9 (λa=>xO (a++[])) (a1 (vo g hE)))) vJ)
 (a0 (fx (cT (c2 (eo δ) ao (cS "both"))) (vz (v7 10 (λa=>F8 (a++[])) (ab (vo g hE) (a1 (vo g oH))))) vJ)
 (vz (cNew 15)))))))))))
def xq:Nat->List D->Option D
 |0=>e? 1 2 Wl
 |n+1=>e? 1 2 (zC (xq n))
def zW:=e? 1 1 (a0 (fx (cT (c2 (eo δ) (c2 e7 ae bo) (cS "go"))) (vz (v8 oJ)) vJ)
 (vz (v8 jP)))
def xS:=e? 2 5 (a0 (yA (iL (cL (wb wV jQ))) (gN 2) (a0 (vR 3 az)
 (a0 (yA (B? (c2 wA (c1 wW ao) aO)) (gN 4) (vR 3 (c2 F4 ao aB)))
 (fx (cT (c2 zy aB bu)) (vz cN) vJ))))
 (vz dB))
abbrev k7:=(ab (c2 e7 (cL (vL (ab (cS "at") (a1 (cS "mark"))))) (cV 5)) (a1 (cV 6)))
abbrev oo:=(ab ae (a1 (c2 e7 aF bo)))
abbrev oK:=(ab az cA)
def yx:=e? 4 8 (Y' 4 (j2 5 (B? cz) (j2 6 (iD (c2 e7 ao aY)) (M' aY bK (c2 wX (c2 e7 (c2 e7 (cL (vL oK)) (c1 ID (c2 D? (v8 k7) aB))) aY) bK))))
 (Q? 4 (cT (vo xS oo)) (j2 7 (iL (cL (wb wV jQ))) (M' bo cj (c2 wX (c2 e7 ao bo) cj))))
 (vz aF))
abbrev jI:=(a1 (cV 8))
abbrev sJ:=(yH (gN 9) (yH (gN 10) G9))
abbrev sP:=(ab ao (ab (c2 e7 (t9 5) bo) (ab (c2 e7 (t9 5) aO) (a1 (vZ (wu 3) "reads" (cV 11) (ab az (ab (cV 9) (a1 (cV 10)))))))))
abbrev sQ:=(ab az (ab (vo y9 (ab (c2 e7 (c2 e7 (t9 5) bo) bo) (a1 (c2 e7 (c2 e7 (t9 5) bo) aO)))) jI))
abbrev sR:=(ab az (ab (vo y9 (ab (c2 e7 (cV 12) bo) (a1 (c2 e7 (cV 12) aO)))) jI))
abbrev sS:=(a1 (wY (vU 4) 4 (ab ao (ab (vo De jI) (a1 fX)))))
abbrev sV:=(ab aB (a1 (cC (.int 130))))
abbrev sY:=(ab cj (a1 (wY yw 4 cA)))
def T2:FS:=(a0 (vR 1 (vo Dc (a1 (vo y7 (ab ae (a1 bo))))))
 (a0 (vR 2 (vo B7 cA))
 (a0 (yA (iL (cL (xi (cL (vL (a1 (vo y7 (ab ae (a1 aO)))))) (cL (cSl ae (U 2) (U 9)))))) (gN 3) (a0 (yc 4 (wb y8 sV))
 (a0 (yc 5 (vL vG))
 (a0 (yA (B? cz) (gN 6) (a0 (vR 7 (wY xw 4 cA))
 (vY (zF 5 (v8 sY)))))
 (a0 (vR 8 (wY yk 4 cA))
 (a0 (JZ (vo zW jI) (gT sJ 2))
 (a0 (vR 11 (vo (xq 4) sS))
 (a0 (vR 12 (vo yx sP))
 (a0 (vR 13 (vZ (vX 3) "holds" (cV 11) sQ))
 (fx (cT (c2 (eo γ) (vZ (vX 3) "holds" (cV 11) sR) (cV 13))) (vz dB) vJ))))))))))
 (vz cN))))
def YE:=e? 1 14 T2
section
variable{k:Nat}{eh:List Nat}{g:FG}{ft:FT}{fe e:FE}{s:FA}{ρ ρ1 ρ2:aU}{α:Type}
def xI{m:L4.D}(h:e ρ=U (.bl γ,ρ1)):vY (vo vC (ab e (ab (cC m) vG))) ρ=U (.nx ρ1):=wU (vn (vm h J) J)
def Cn(dd h:α->L4.D)(l:List α)(d:s ρ=U (l.map dd,ρ1))(c:l.length<=1000)(st:∀a∈l,∃ρ2 b,g (dd a) (DV k eh ρ1)=U ρ2/\fe ρ2=U (h a,b)/\yB eh (b.drop k) ρ1=U ρ1):
  vS k eh s g wJ fe ρ=U (l.map h,ρ1):=(BG d (by rw[ah];show c)).t (Ka dd h l st)
def Cb(dd h:α->L4.D)(p:α->Bool)(l:List α)(f:s ρ=U (l.map dd,ρ1))(d:l.length<=1000)
  (st:∀a∈l,∃ρ2 b,g (dd a) (DV k eh ρ1)=U ρ2/\ft ρ2=U (p a,b)/\(p a=γ->∃c,fe b=U (h a,c)/\yB eh (c.drop k) ρ1=U ρ1)/\(p a=δ->yB eh (b.drop k) ρ1=U ρ1)):
  vS k eh s g ft fe ρ=U ((l.filter p).map h,ρ1):=(BG f (by rw[ah];show d)).t (HE dd p h l st)
#print "Aw γ Ay R bH J;T4 δ Gr S l8 bB" in def ϑ0(dd:α->L4.D)(l:List α)(d:s ρ=U (l.map dd,ρ1))(c:l.length<=1000)(st:∀a∈l,∃ρ2 b,g (dd a) (DV k eh ρ1)=U ρ2/\fe ρ2=U (.bl ϑ1,b)/\yB eh (b.drop k) ρ1=U ρ1):
  c1 ϑ2 (cL (vS k eh s g wJ fe)) ρ=U (.bl ϑ1,ρ1):=
 wg (wq (Cn dd (λz=>.bl ϑ1) l d c st)) ((Oϑ3 l λz=>ϑ1).t (by rw[ϑ4.2 λz z=>ϑ5]))
end
inductive Kd where
 |room|you|plain|fixed|box|lamp
deriving DecidableEq
def Kd.s:Kd->Str
 |.room=>"room" |.you=>"you" |.plain=>"plain" |.fixed=>"fixed" |.box=>"box" |.lamp=>"lamp"
def Kd.pl:Kd->Bool
 |.room=>δ|.you=>δ|_=>γ
def Kd.hd:Kd->Bool
 |.room=>γ|.you=>γ|.box=>γ|_=>δ
def Kd.mk:Kd->Bool
 |.box=>γ|.lamp=>γ|_=>δ
structure Th where
 n:Str
 w:aD
 k:Kd
 s:Option Str
def oS:Option Str->L4.D
 |none=>.I
 |some x=>.str x
def ff(t:Th):L4.D:=.obj 0 ["name", "words", "kind", "start"] [.str t.n,.bx (t.w.map D.str),.str t.k.s,oS t.s]
def A7(t:Th):vP vV "name" (ff t)=U (.str t.n):=rfl
def KA(t:Th):vP xT "words" (ff t)=U (.bx (t.w.map D.str)):=rfl
def Cc(t:Th):vP wo "kind" (ff t)=U (.str t.k.s):=rfl
def KB(t:Th):vP xj "start" (ff t)=U (oS t.s):=rfl
def EY(a b:Kd):eo δ (.str a.s) (.str b.s)=U (.bl (decide (a=b))):=by ext a<;>ext b<;>kernel_rfl
#print "Xd Bl hd;Pa Bm mk;Ma Aq pl" in def ϑ0(t:Th):ϑ1 [ff t]=U (.bl t.k.ϑ2):=by let#v[n,w,k,s]:=t;ext k<;>kernel_rfl
def Xe(t:Th):wI [.str t.k.s,Kw]=U (.bl γ):=by let#v[n,w,k,s]:=t;ext k<;>kernel_rfl
abbrev TD(T:List Th):L4.D:=.ax (T.map ff)
def H?(T:List Th)(a:T.length<=1000)(k:Kd):BP [TD T,.str k.s]=U (.int (T.filter λt=>decide (t.k=k)).length):=by calc vA (ρ:=[.q (TD T),.q (.str k.s)]) J ?_;calc vF (wg (wq (Cb ff ff (λt=>decide (t.k=k)) T J a λt z=>#v[[.q (ff t),.q (.str k.s)],[.q (ff t),.q (.str k.s)],J,wz (vq (wg J (Cc t)) J (EY t.k k)),λz=>#v[_,J,J],λz=>J])) ?_);change U (D.int _)=_;rw[ah]
def A8(T:List Th)(a:T.length<=1000):yY [TD T]=U ((T.filter λt=>t.k.pl).map ff):=by calc DX (ρ:=[.q (TD T)]) J ?_;show AD (Cb ff ff (λt=>t.k.pl) T J a λt z=>#v[[.q (ff t)],[.q (ff t)],J,wz (wt J J J J (Ma t)),λz=>#v[_,J,J],λz=>J])
def EZ{a b c:FE}{ρ:aU}{x y z:Int}(f:a ρ=U (.int x,ρ))(h:b ρ=U (.int y,ρ))(i:c ρ=U (.int z,ρ))(j:x<=y)(l:y<=z):yI AU AU a b c ρ=U (.bl γ,ρ):=by
 delta yI;rw[f];erw[h];have d:AU (.int x) (.int y)=U (.bl γ):=by change U (D.bl (decide (x<=y)))=_;rw[aM j]
 have e:AU (.int y) (.int z)=U (.bl γ):=by change U (D.bl (decide (y<=z)))=_;rw[aM l]
 erw[d,i,e]
def YF{a b:FE}{ρ:aU}{x y:Int}(c:a ρ=U (.int x,ρ))(d:b ρ=U (.int y,ρ))(e:x<=y):c2 AU a b ρ=U (.bl γ,ρ):=vq c d (by
 change U (D.bl (decide (x<=y)))=_;rw[aM e])
def Gu(T:List Th)(a:T.length<=1000)(d:1<=(T.filter λt=>decide (t.k=.room)).length)(e:(T.filter λt=>decide (t.k=.room)).length<=5)(c:(T.filter λt=>decide (t.k=.you)).length=1)(f:(T.filter λt=>t.k.pl).length<=7):
  As [TD T]=U .I:=by
 let b:aU:=[.q (TD T),.q (.bl γ)];calc BL (ρ:=b) J ?_;delta Ar;rw[ve (show _=U (mn.nx b) from(vK ((wD J).t (Aw ff T J a λt z=>#v[_,_,J,J,J]))).t J)];rw[ve (xI J)];rw[ve (xI (Aw ff T J a λt z=>#v[[.q (ff t)],[.q (ff t)],J,vn (vm (wg J (Cc t)) J) (Xe t),J]))];rw[ve (xI (EZ J (vn J (H? T a .room)) J () ()))];rw[ve (xI (vq (vn J (H? T a .you)) J (by rw[c];rfl)))];calc xI (YF (x:=(T.filter λt=>t.k.pl).length) (wg (wq (vn J (A8 T a))) ?_) J ());change U (D.int _)=_;rw[ah]
structure Mk where
 n:Str
 st:Int
 mo:Int
def W'(m:Mk):L4.D:=.obj 1 ["name", "start", "most"] [.str m.n,.int m.st,.int m.mo]
def Mk.ok(m:Mk):Prop:=1<=m.mo/\m.mo<=3/\0<=m.st/\m.st<=m.mo
abbrev MD(M:List Mk):L4.D:=.ax (M.map W')
def KC(m:Mk):vP vV "name" (W' m)=U (.str m.n):=rfl
def NK(m:Mk)(h:m.ok):Fv [W' m]=U (.bl γ):=by let#v[a,b,c,d]:=h;calc vA (ρ:=[.q (W' m)]) J ?_;delta Fu;rw[ve (show _=U (mn.nx [.q (W' m)]) from J)];show vF ((wD (EZ J J J a b)).t (EZ J J J c d))
def HU(M:List Mk)(d:M.length<=4)(h:∀m∈M,m.ok):AX [MD M]=U .I:=by
 let a:aU:=[.q (MD M),.q (.bl γ)];calc BL (ρ:=a) J ?_;delta AW;have b:xk [MD M,BM]=U (.bl γ):=by calc vA (ρ:=[.q (MD M),.q (.int 4)]) J ?_;calc vF ((wD J).t (YF (x:=M.length) ?_ J ()));calc wg J ?_;change U (D.int _)=_;rw[ah]
 rw[ve (show _=U (mn.nx a) from(vK ((wD (vn J b)).t (Aw W' M J () λm c=>#v[[.q (W' m)],[.q (W' m)],J,vn J (NK m (h m c)),J]))).t J)];show xI J
def nmS(l c:Nat):Str:=jD #v[#[98+l]] (1+(c:Int))
def Nm(x:Str):Prop:=∃l c,l<25/\c<8/\x=nmS l c
def isT:Option L4.D->Bool
 |some (.bl b)=>b
 |_=>δ
def T5{o:Option L4.D}(h:isT o=γ):o=U (.bl γ):=by
 delta isT at h;split at h
 .rw[h]
 .ext h
def KD{p:Str->Bool}(h:((bh 25).all λl=>(bh 8).all λc=>p (nmS l c))=γ){x:Str}(d:Nm x):p x=γ:=by let#v[l,c,b,a,rfl]:=d;show bH.1 (bH.1 h l (bY.2 b)) c (bY.2 a)
#print "L Dp;M yM" in def Nϑ0{x:Str}(h:Nm x):ϑ1 [.str x]=U (.bl γ):=T5 (KD (p:=λx=>isT (ϑ1 [.str x])) (by kernel_rfl) h)
#print "b red;c old" in def Mϑ0:yM [.str "ϑ1"]=U (.bl γ):=by kernel_rfl
def noW(x:Str):Bool:=decide (x∉(["red", "old", "take", "drop", "open", "shut", "light", "douse", "put", "go", "wait", "in", "north", "up", "the", "a", "undo", "restart"]:aD))
def T6{x:Str}(h:Nm x):x∉(["red", "old", "take", "drop", "open", "shut", "light", "douse", "put", "go", "wait", "in", "north", "up", "the", "a", "undo", "restart"]:aD):=ba (KD (p:=noW) (by kernel_rfl) h)
def sg(x:Str):Nat:=x.cps.getD 0 0
def aev{l c:Nat}(b:l<25)(a:c<8):sg (nmS l c)=98+l:=by
 have h:((bh 25).all λl=>(bh 8).all λc=>sg (nmS l c)==98+l)=γ:=by kernel_rfl
 show gO (bH.1 (bH.1 h l (bY.2 b)) c (bY.2 a))
def HV{l:aD}(h:l.Nodup)(a:l.length<=1000):w6 [.ax (l.map D.str)]=U (.bl γ):=by
 calc vA (ρ:=[.q (.ax (l.map D.str))]) J ?_;refine vF (vq (y:=.int l.length) (wg J (Wu (FX h a))) (wg J ?_) ?_)
 .change U (D.int _)=_;rw[ah]
 .rw[zm];simp
def NN{l:aD}(h:l.Nodup)(a:l.length<=1000):w6 [.bx (l.map D.str)]=U (.bl γ):=by
 calc vA (ρ:=[.q (.bx (l.map D.str))]) J ?_;refine vF (vq (y:=.int l.length) (wg J (FX h a)) (wg J ?_) ?_)
 .change U (D.int _)=_;rw[ah]
 .rw[zm];simp
def HW(T:List Th)(M:List Mk)(hT:T.length<=400)(hM:M.length<=400)(h:∀x∈T.map Th.n++M.map Mk.n,Nm x)(l:(T.map Th.n++M.map Mk.n).Nodup):AY [TD T,MD M]=U .I:=by
 have c:(T.map Th.n++M.map Mk.n).length<=1000:=by rw[aH,ah,ah];omega
 let a:aU:=[.q (TD T),.q (MD M),.un];let b:aU:=[.q (TD T),.q (MD M),.q (.ax ((T.map Th.n++M.map Mk.n).map D.str))];calc BL (ρ:=b) J ?_;have d:vS 1 [] (iL ae) (gN 0) wJ (c1 (vP vV "name") ae) a=U (T.map λt=>D.str t.n,a):=Cn ff (λt=>D.str t.n) T J () λt z=>#v[_,_,J,wg J (A7 t),J];have e:vS 1 [] (iL ao) (gN 0) wJ (c1 (vP vV "name") ae) a=U (M.map λt=>D.str t.n,a):=Cn W' (λt=>D.str t.n) M J () λt z=>#v[_,_,J,wg J (KC t),J];have f:=vK (i:=2) (wq (xM (wq d) (wq e) (by rw[ah,ah];omega)));refine(ve (ρ':=b) (f.t (by
  have:(T.map λt=>D.str t.n)++(M.map λt=>D.str t.n)=(T.map Th.n++M.map Mk.n).map D.str:=by rw[aZ,aT,aT];rfl
  rw[this];rfl))).t ?_
 rw[ve (xI (Aw D.str (T.map Th.n++M.map Mk.n) J c λx j=>#v[_,_,J,vn J (NL (h x j)),J]))];show xI (vn J (HV l c))
def mq(T:List Th):aD:=(T.filter λt=>decide (t.k=.room)).map Th.n
def hdN(T:List Th):aD:=(T.filter λt=>t.k.hd).map Th.n
abbrev gX:=(cC (.str "room"))
def Me{ρ:aU}(T:List Th)(b:T.length<=1000){i:Nat}(a:cV i ρ=U (TD T,ρ)):vS 1 [] (iL (cV i)) (gN 0) (cT (c2 (eo δ) (c1 (vP wo "kind") ae) gX)) (c1 (vP vV "name") ae) ρ=U ((mq T).map D.str,ρ):=by
 have c:iL (cV i) ρ=U (T.map ff,ρ):=by delta iL;rw[a]
 have:=Cb (k:=1) (eh:=[]) (g:=gN 0) (ft:=cT (c2 (eo δ) (c1 (vP wo "kind") ae) gX)) (fe:=c1 (vP vV "name") ae) ff (λt=>D.str t.n) (λt=>decide (t.k=.room)) T c b λt z=>#v[[.q (ff t)],[.q (ff t)],J,wz (vq (wg J (Cc t)) J (EY t.k .room)),λz=>#v[_,wg J (A7 t),J],λz=>J]
 rw[this];delta mq;rw[aT];rfl
def NO{ρ:aU}(T:List Th)(b:T.length<=1000){i:Nat}(a:cV i ρ=U (TD T,ρ)):vS 1 [] (iL (cV i)) (gN 0) (cT (vZ xE "can_hold" ae vG)) (c1 (vP vV "name") ae) ρ=U ((hdN T).map D.str,ρ):=by
 have c:iL (cV i) ρ=U (T.map ff,ρ):=by delta iL;rw[a]
 have:=Cb (k:=1) (eh:=[]) (g:=gN 0) (ft:=cT (vZ xE "can_hold" ae vG)) (fe:=c1 (vP vV "name") ae) ff (λt=>D.str t.n) (λt=>t.k.hd) T c b λt z=>#v[[.q (ff t)],[.q (ff t)],J,wz (wt J J J J (Xd t)),λz=>#v[_,wg J (A7 t),J],λz=>J]
 rw[this];delta hdN;rw[aT];rfl
def Bp{x:Str}{l:aD}(h:x∈l):wI [.str x,.ax (l.map D.str)]=U (.bl γ):=by calc vA (ρ:=[.q (.str x),.q (.ax (l.map D.str))]) J ?_;calc vF ((wD J).t (vq J J ?_));rw[Bi];simp[h]
def IJ(dk a:aD)(c:dk.length<=1000)(e:dk.Nodup)(h:∀x∈dk,x∈a):BS [.ax (dk.map D.str),.ax (a.map D.str)]=U .I:=by let f:aU:=[.q (.ax (dk.map D.str)),.q (.ax (a.map D.str)),.un];let b:aU:=[.q (.ax (dk.map D.str)),.q (.ax (a.map D.str)),.q (.bl γ)];calc BL (ρ:=b) J ?_;delta BR;rw[ve (show _=U (mn.nx b) from(vK ((wD J).t ((wD (Aw D.str dk J c λx d=>#v[[.q (.str x),.q (.ax (a.map D.str))],[.q (.str x),.q (.ax (a.map D.str))],J,vn J (Bp (h x d)),J])).t (vn J (HV e c))))).t J)];show xI J
def KE(T:List Th)(t:Th):Prop:=match t.k,t.s with
 |.room,Z=>True
 |.room,U _=>False
 |_,Z=>False
 |.you,U x=>x∈mq T
 |_,U x=>x∈hdN T
def Mg(T:List Th)(b:T.length<=1000)(t:Th)(h:KE T t):D7 [TD T,ff t]=U (.bl γ):=by
 calc vA (ρ:=[.q (TD T),.q (ff t)]) J ?_;delta D6;let#v[n,w,k,s]:=t;have els:∀k:Kd,k≠.room->k≠.you->∀x,x∈hdN T->(a0 (fx (cT (c2 (eo δ) (c1 (vP wo "kind") ao) gX)) (vz (c2 Be (c1 (vP xj "start") ao) bu)) vJ)
   (a0 (fx (cT (c2 (eo δ) (c1 (vP wo "kind") ao) (cC (.str "you")))) (vz (vo wI (ab (c1 (vP xj "start") ao) (ab (cL (vS 1 [] (iL ae) (gN 0) (cT (c2 (eo δ) (c1 (vP wo "kind") ae) gX)) (c1 (vP vV "name") ae))) vG)))) vJ)
   (vz (vo wI (ab (c1 (vP xj "start") ao) (ab (cL (vS 1 [] (iL ae) (gN 0) (cT (vZ xE "can_hold" ae vG)) (c1 (vP vV "name") ae))) vG)))))) [.q (TD T),.q (ff #v[n,w,k,U x])]=U (.rt (.bl γ) [.q (TD T),.q (ff #v[n,w,k,U x])]):=λk c d x e=>by
  let a:aU:=[.q (TD T),.q (ff #v[n,w,k,U x])];rw[ve (show _=U (mn.nx a) from(vQ (wz (vq (wg J (Cc _)) J ((EY k .room).t (by rw[aP c]))))))];rw[ve (show _=U (mn.nx a) from(vQ (wz (vq (wg J (Cc _)) J ((EY k .you).t (by rw[aP d]))))))];show vF (vn (vm (wg J (KB _)) (vm (wq (NO T b J)) J)) (Bp e))
 cases k with
 |room=>
  cases s with
  |none=>rfl
  |some x=>show h.elim
 |you=>
  cases s with
  |none=>show h.elim
  |some x=>let a:aU:=[.q (TD T),.q (ff #v[n,w,.you,U x])];rw[ve (show _=U (mn.nx a) from J)];calc vW ((v5 J).t ?_);show vF (vn (vm (wg J (KB _)) (vm (wq (Me T b J)) J)) (Bp h))
 |plain=>cases s with
  |none=>show h.elim
  |some x=>show els .plain #[] #[] x h
 |fixed=>cases s with
  |none=>show h.elim
  |some x=>show els .fixed #[] #[] x h
 |box=>cases s with
  |none=>show h.elim
  |some x=>show els .box #[] #[] x h
 |lamp=>cases s with
  |none=>show h.elim
  |some x=>show els .lamp #[] #[] x h
def kS(x:Str):ef:=Sum.inr x
def Dg{i:Nat}{fk fv:FE}{ρ:aU}{a:List ef}{b:List L4.D}{x:Str}{d:L4.D}(e:fv ρ=U (d,ρ))(f:ρ[i]?=U (.dk a b))(h:fk ρ=U (.str x,ρ))(o:kS x∉a)(m:a.length<1000)(j:b.length=a.length):
  wK i fk fv ρ=U (.nx (ρ.set i (.dk (a++[kS x]) (b++[d])))):=by
 have l:Eu a (kS x)=δ:=by rw[jg];intro z;let#v[y,p,c]:=eA.1 z;show o (by rw[<-ba c];show p)
 delta wK;rw[e];erw[f,h];rw[show DB (.str x)=U (kS x) from J];simp only;rw[af m,af j,l];rfl
section
variable{α:Type}{g:FG}{i:Nat}{fk fv:FE}
theorem Bq(dd:α->L4.D)(kf:α->Str)(j:α->L4.D)(st:List ef->List L4.D->Sl->aU)
  (q:∀(a:α) (c:List ef) (d:List L4.D) (s:Sl),∃b,g (dd a) (st c d s)=U b/\fv b=U (j a,b)/\b[i]?=U (.dk c d)/\fk b=U (.str (kf a),b)/\∀f e,∃h,b.set i (.dk f e)=st f e h):
  ∀(l:List α) (c:List ef) (d:List L4.D) (s:Sl),(c++l.map λa=>kS (kf a)).Nodup->c.length+l.length<=1000->d.length=c.length->
   ∃h,fl g (wK i fk fv) (l.map dd) (st c d s)=U (.nx (st (c++l.map λa=>kS (kf a)) (d++l.map j) h))
 |[],c,d,s,_,_,_=>#v[s,by rw[cf,cf,cf,bF,bF];rfl]
 |a::l,c,d,s,m,B,p=>by
  let#v[b,r,t,u,w,x]:=q a c d s;let#v[E,y]:=x (c++[kS (kf a)]) (d++[j a]);rw[aL]at B;have o:((c++[kS (kf a)])++l.map λa=>kS (kf a)).Nodup:=by rw[bN];show m
  have C:=λz=>by rw[cq]at m;show m.2.2 _ z _ (by rw[aA];show aX) J
  let#v[h,A]:=Bq dd kf j st q l (c++[kS (kf a)]) (d++[j a]) E o (by rw[aH,bq];omega) (by rw[aH,aH,p,bq,bq]);calc#v[h,?_];rw[aA];delta fl;rw[r];erw[Dg t u w C () p,y];rw[A,aA,aA,bN,bN];rfl
end
def nK(T:List Th):List ef:=T.map λt=>kS t.n
def D8{a b:Str}(h:kS a=kS b):a=b:=kM h
def Pb{T:List Th}(h:(T.map Th.n).Nodup):(nK T).Nodup:=by have:=yL h;rw[aT]at this;show this
def Pc{T:List Th}(h:(T.map Th.n).Nodup)(a:Th->L4.D){t:Th}(b:t∈T):xX (nK T) (T.map a) (kS t.n)=U (a t):=by calc Bj (Pb h) ?_;delta nK;rw[jv];show bT b
def NP(T:List Th)(r:Str->Nat):Prop:=∀t∈T,r t.n<T.length/\∀p,t.s=U p->r p<r t.n/\∃u∈T,u.n=p
def xf(T:List Th):L4.D:=.M (nK T) (T.map λt=>oS t.s)
def T7(T:List Th)(M:T.length<=1000)(B:(T.map Th.n).Nodup)(r:Str->Nat)(w:NP T r)(t:Th)(z:t∈T):zG [xf T,.str t.n]=U (.bl γ):=by
 have loop:∀(m:Nat) (l:List L4.D),l.length=m->∀(a:Option Str) (s:Sl),(∀x,a=U x->(∃u∈T,u.n=x)/\r x<m)->
   (∃b,fl (gN 3) (a0 (fx (cT (c2 Be az bu)) (vz cN) vJ) (vR 2 (c2 wX ae az))) l [.q (xf T),.q (.str t.n),.q (oS a),s]=U (.rt (.bl γ) b))\/
   (∃j,fl (gN 3) (a0 (fx (cT (c2 Be az bu)) (vz cN) vJ) (vR 2 (c2 wX ae az))) l [.q (xf T),.q (.str t.n),.q (oS a),s]=U (.nx [.q (xf T),.q (.str t.n),.q .I,j])):=by
  intro m
  induction m with
  |zero=>
   intro l h a s f;cases l with
   |cons d l=>cases h
   |nil=>
    cases a with
    |none=>show .inr #v[s,J]
    |some x=>show au (f x J).2 (qP _)
  |succ m G=>
   intro l h a s f;cases l with
   |nil=>cases h
   |cons d l=>
    cases a with
    |none=>calc .inl #v[[.q (xf T),.q (.str t.n),.q .I,.q d],?_];delta fl;rw[show gN 3 d [.q (xf T),.q (.str t.n),.q (oS Z),s]=U [.q (xf T),.q (.str t.n),.q .I,.q d] from J];rfl
    |some x=>
     let#v[#v[u,A,rfl],i]:=f x J;have e:a0 (fx (cT (c2 Be az bu)) (vz cN) vJ) (vR 2 (c2 wX ae az)) [.q (xf T),.q (.str t.n),.q (.str u.n),.q d]=U (.nx [.q (xf T),.q (.str t.n),.q (oS u.s),.q d]):=by calc(ve J).t ?_;show(vK (vq J J (Pc B (λt=>oS t.s) A))).t J
     have key:=G l (by exists h) u.s (.q d) λy F=>by let#v[C,c]:=w u A;let#v[I,E]:=c y F;show#v[E,by omega]
     delta fl;rw[show gN 3 d [.q (xf T),.q (.str t.n),.q (oS (U u.n)),s]=U [.q (xf T),.q (.str t.n),.q (.str u.n),.q d] from J];erw[e];show key
 let#v[C,c]:=w t z;have H:=loop T.length (Eo 0 T.length) (by delta Eo;simp) t.s .un λx i=>#v[(c x i).2,by have:=(c x i).1;omega];have o:vR 2 (c2 wX ae ao) [.q (xf T),.q (.str t.n),.un,.un]=U (.nx [.q (xf T),.q (.str t.n),.q (oS t.s),.un]):=(vK (vq J J (Pc B (λt=>oS t.s) z))).t J;have p:B? (c1 wW ae) [.q (xf T),.q (.str t.n),.q (oS t.s),.un]=U (Eo 0 T.length,[.q (xf T),.q (.str t.n),.q (oS t.s),.un]):=by delta B?;rw[show c1 wW ae [.q (xf T),.q (.str t.n),.q (oS t.s),.un]=U (.int T.length,[.q (xf T),.q (.str t.n),.q (oS t.s),.un]) from wg J (by change U (D.int _)=_;delta nK;rw[ah])];simp only;rw[af (),ig]
 rcases H with ⟨b,q⟩|⟨j,q⟩
 .calc vA (ρ:=b) J ?_;refine(ve o).t (vW ((wZ p).t q))
 .calc vA (ρ:=[.q (xf T),.q (.str t.n),.q .I,j]) J ?_;calc(ve o).t ((ve ((wZ p).t q)))
def Gw(T:List Th)(u:T.length<=900)(f:(T.map Th.n).Nodup)(r:Str->Nat)(l:NP T r)(m:∀t∈T,KE T t):Au [TD T]=U .I:=by
 let#v[b,j]:=Bq (g:=gN 2) (i:=1) (fk:=c1 (vP vV "name") az) (fv:=c1 (vP xj "start") az) ff Th.n (λt=>oS t.s) (λe c s=>[.q (TD T),.dk e c,s])
  (λt e c s=>#v[[.q (TD T),.dk e c,.q (ff t)],J,wg J (KB t),J,wg J (A7 t),λo h=>#v[_,J]]) T [] [] .un (by rw[bQ];show Pb f) (by simp;omega) J
 calc BL (ρ:=[.q (TD T),.q (xf T),b]) J ?_;calc(ve (xI (Aw ff T J () λt d=>#v[[.q (ff t),.q (TD T)],[.q (ff t),.q (TD T)],J,vn J (Mg T () t (m t d)),J]))).t ?_;calc(ve J).t ?_;calc(ve ((wZ J).t j)).t ?_;have src:iD (t9 1) [.q (TD T),.dk ([]++T.map λa=>kS a.n) ([]++T.map λt=>oS t.s),b]=U ((T.map λt=>D.str t.n),[.q (TD T),.q (xf T),b]):=by rw[bQ,bQ];delta iD;rw[show t9 1 [.q (TD T),.dk (T.map λa=>kS a.n) (T.map λt=>oS t.s),b]=U (xf T,[.q (TD T),.q (xf T),b]) from J];change (if (nK T).length=(T.map λt=>oS t.s).length then U ((nK T).map Nk,_)else Z)=_;delta nK;rw[af (by rw[ah,ah]),aT];rfl
 show xI (Aw (λt:Th=>D.str t.n) T src () λt d=>#v[[.q (.str t.n),.q (xf T)],[.q (.str t.n),.q (xf T)],J,vn J (T7 T () f r l t d),J])
def JB:List aD:=[[],["red"],["old", "red"]]
def xY(t:Th):Prop:=Nm t.n/\∃m∈JB,t.w=t.n::m
def yR{t:Th}(h:xY t):t.w=[t.n]\/t.w=[t.n,"red"]\/t.w=[t.n,"old", "red"]:=by
 let#v[_,m,a,e]:=h;delta JB at a;erw[aJ,b0,or_false]at a;rcases a with rfl|rfl|rfl
 .show .inl e
 .show .inr (.inl e)
 .show .inr (.inr e)
def FB{t:Th}(h:xY t){x:Str}(a:x∈t.w):x=t.n\/x="red" \/ x="old" := by
 rcases yR h with e|e|e<;>rw[e]at a<;>erw[aJ,b0,or_false]at a
 .show .inl a
 .rcases a with h|h
  .show .inl h
  .show .inr (.inl h)
 .rcases a with h|h|h
  .show .inl h
  .show .inr (.inr h)
  .show .inr (.inl h)
def YG{x:Str}(h:Nm x):x≠"red" /\ x≠"old" := by have:=T6 h;show#v[λz=>this (by rw[z];decide),λz=>this (by rw[z];decide)]
def KF{t:Th}(h:xY t):CV [.bx (t.w.map D.str)]=U (.bl γ):=by
 have b:=h.1;let#v[c,i]:=YG b;have len:1<=t.w.length/\t.w.length<=4:=by rcases yR h with e|e|e<;>rw[e]<;>simp
 have j:t.w.Nodup:=by
  rcases yR h with e|e|e<;>rw[e]
  .simp
  .simp[c]
  .simp[c,i];decide
 let a:aU:=[.q (.bx (t.w.map D.str))];calc vA (ρ:=a) J ?_;have d:yI AU AU aO (c1 wW ae) (cC BN) a=U (.bl γ,a):=EZ J (wg J (by change U (D.int _)=_;rw[ah])) J () ();calc(ve ((vQ (CC J (J2 (wz d)))))).t ?_;calc vF ((wD (Aw D.str t.w J () λx f=>#v[_,_,J,vn J ?_,J])).t (vn J (NN j ())));rcases FB h f with rfl|rfl|rfl
 .show NM b
 .show Mb
 .show Mc
def NQ(t u:Th)(a:xY t)(d:xY u)(hne:u.n≠t.n):Dt [.bx (u.w.map D.str),.bx (t.w.map D.str)]=U (.bl δ):=by
 let#v[f,i]:=YG a.1;have c:t.w.length<=1000:=by rcases yR a with e|e|e<;>rw[e]<;>simp
 let b:aU:=[.q (.bx (u.w.map D.str)),.q (.bx (t.w.map D.str))];calc vA (ρ:=b) J ?_;calc vF (wg (wq (Cn D.str (λx=>.bl (decide (x∈u.w))) t.w J c λx v=>#v[_,_,J,vq J J (HF δ x u.w),J])) ?_);rw[OR];have:t.w.all (λx=>decide (x∈u.w))=δ:=by
  rw[jg];intro z;have:=ba (bH.1 z t.n (by rcases yR a with e|e|e<;>rw[e]<;>simp));rcases FB d this with h|h|h
  .show hne h.symm
  .show f h
  .show i h
 rw[this]
def IK(P:List Th)(c:P.length<=900)(f:∀t∈P,xY t)(t:Th)(d:xY t):zH [TD P,ff t]=U (.bl γ):=by
 let O:=P.filter λu=>!decide (u.n=t.n);let a:aU:=[.q (TD P),.q (ff t),.q (TD O)];have hO:O.length<=900:=bW (iX _ _) c;calc vA (ρ:=a) J ?_;calc(ve (ρ':=a) ((vK (wq (Cb ff ff (λu=>!decide (u.n=t.n)) P J () λu z=>#v[[.q (ff u),.q (ff t)],[.q (ff u),.q (ff t)],J,wz (vq (wg J (A7 u)) (wg J (A7 t)) (yW γ u.n t.n)),λz=>#v[_,J,J],λz=>J]))).t J)).t ?_;have e:c1 Gr (cL (vS 1 [1] (iL az) (gN 0) wJ (vo Dt (ab (c1 (vP xT "words") ae) (ab (c1 (vP xT "words") ao) vG))))) a=U (.bl δ,a):=
  T4 ff O J () λu b=>#v[[.q (ff u),.q (ff t)],[.q (ff u),.q (ff t)],J,vn (vm (wg J (KA u)) (vm (wg J (KA t)) J)) (NQ t u d (f u (bE.1 b).1) (by exists (bE.1 b).2)),J]
 calc vF ?_;delta Gq;rw[e];rfl
def HX(T:List Th)(d:T.length<=900)(b:∀t∈T,xY t):xH [TD T]=U .I:=by let P:=T.filter λt=>t.k.pl;have hP:P.length<=900:=bW (iX _ _) d;have hwP:∀t∈P,xY t:=λt a=>b t (bE.1 a).1;let c:aU:=[.q (TD T),.q (TD P)];calc BL (ρ:=c) J ?_;calc(ve (xI (Aw ff T J () λt a=>#v[[.q (ff t)],[.q (ff t)],J,vn (vm (wg J (KA t)) J) (KF (b t a)),J]))).t ?_;calc(ve ((vK (wq (vn J (A8 T ())))))).t ?_;show xI (Aw ff P J () λt a=>#v[[.q (ff t),.q (TD P)],[.q (ff t),.q (TD P)],J,vn J (IK P hP hwP t (hwP t a)),J])
def DQ(n f:Str)(j:L4.D):L4.D:=.obj 2 ["name", "others", "form", "joining"] [.str n,.bx [],.str f,j]
def xy:List L4.D:=[DQ "take" "one" .I,DQ "drop" "one" .I,DQ "open" "one" .I,DQ "shut" "one" .I,DQ "light" "one" .I,DQ "douse" "one" .I,DQ "put" "two" (.str "in"),DQ "go" "way" .I,DQ "wait" "alone" .I]
def Mh:yZ []=U xy:=by kernel_rfl
def vN:aD:=["take", "drop", "open", "shut", "light", "douse", "put", "go", "wait"]
def vI:aD:=["take", "drop", "open", "shut", "light", "douse", "put", "go", "wait", "in", "north", "up"]
def Xf{e:FE}{b:Bool}{ρ a:aU}(h:e ρ=U (.bl b,a)):Gq e ρ=U (.bl !b,a):=by delta Gq;rw[h]
def T8{l m:aD}{d:L4.D}(hd:d=.ax (m.map D.str)\/d=.bx (m.map D.str))(c:l.length<=900)(h:∀x∈l,x∉m):zA [.ax (l.map D.str),d]=U (.bl γ):=by
 let a:aU:=[.q (.ax (l.map D.str)),.q d];calc vA (ρ:=a) J ?_;have e:c1 Gr (cL (vS 1 [1] (iL ae) (gN 0) wJ (c2 (k? δ) ae ao))) a=U (.bl δ,a):=T4 D.str l J () λx b=>#v[[.q (.str x),.q d],[.q (.str x),.q d],J,vq J J (by
  rcases hd with rfl|rfl
  .rw[Bi];simp[h x b]
  .rw[HF];simp[h x b]),J]
 show vF (Xf e)
def QF{t:Th}(h:xY t):t.w.length<=3:=by rcases yR h with e|e|e<;>rw[e]<;>simp
theorem HY{a b c f h i:Sl}:∀(P:List Th) (acc:aD) (s:Sl),acc.length+3 * P.length<=900->(∀t∈P,xY t)->
  ∃j,fl (gN 4) (vY (Ht 3 (c1 (vP xT "words") aF))) (P.map ff) [a,b,c,.J (acc.map D.str),s,f,h,i]=U (.nx [a,b,c,.J ((acc++P.flatMap Th.w).map D.str),j,f,h,i])
 |[],acc,s,_,_=>#v[s,by simp;rfl]
 |t::P,acc,s,o,l=>by
  have q:=QF (l t aX);rw[aL]at o;let#v[j,e]:=HY P (acc++t.w) (.q (ff t)) (by rw[aH];omega) λu p=>l u (bg _ p);calc#v[j,?_];rw[aA];delta fl;have m:vY (Ht 3 (c1 (vP xT "words") aF)) [a,b,c,.J (acc.map D.str),.q (ff t),f,h,i]=U (.nx [a,b,c,.J ((acc++t.w).map D.str),.q (ff t),f,h,i]):=by calc(wU (d:=.I) ?_);change (if (acc.map D.str).length+(t.w.map D.str).length<=1000 then U (D.I,[a,b,c,.J (acc.map D.str++t.w.map D.str),.q (ff t),f,h,i])else Z)=_;rw[af (by rw[ah,ah];omega),aZ]
  rw[show gN 4 (ff t) [a,b,c,.J (acc.map D.str),s,f,h,i]=U [a,b,c,.J (acc.map D.str),.q (ff t),f,h,i] from J];erw[m];rw[e,List.flatMap_cons,bN]
def wyD(a b:Str):List L4.D:=[.bx [.str a,.str "north", .str b,.I],.bx [.str a,.str "up", .str a,.I]]
def vx(T:List Th):List L4.D:=wyD ((mq T).headD "") ((mq T).getLastD "")
def acu{T:List Th}(h:1<=(T.filter λt=>decide (t.k=.room)).length):(mq T).headD "" ∈ mq T:=by
 have:1<=(mq T).length:=by delta mq;rw[ah];show h
 cases e:mq T with
 |nil=>rw[e]at this;cases this
 |cons a r=>show aX ..
def acv{T:List Th}(h:1<=(T.filter λt=>decide (t.k=.room)).length):(mq T).getLastD "" ∈ mq T:=by
 have:1<=(mq T).length:=by delta mq;rw[ah];show h
 have a:mq T≠[]:=λe=>by rw[e]at this;ext this
 rw[oV,List.getLast?_eq_some_getLast a];show List.getLast_mem a
def NR(a:Str):w6 [.ax [.bx [.str a,.str "north"],.bx [.str a,.str "up"]]]=U (.bl γ):=by
 calc vA J (vF (vq (x:=.int 2) (wg J ?_) J J));have e:Hj ([[a,"north"],[a,"up"]]:List aD)=[[a,"north"],[a,"up"]]:=by delta Hj;rw[c4,c4,ai b0,bQ,ai λe=>au (mX (mX (aN.1 e)).2).1 (by decide:¬("up" : Str)="north")];rfl
 change U (D.int (Hj ([[a,"north"],[a,"up"]]:List aD)).length)=_;rw[e];rfl
def QG{a b x:Str}{R:aD}{c:List L4.D}(e:a∈R)(f:b∈R)(h:yM [.str x]=U (.bl γ)):HQ [.bx [.str a,.str x,.str b,.I],.ax (R.map D.str),.ax c]=U (.bl γ):=by let d:aU:=[.q (.bx [.str a,.str x,.str b,.I]),.q (.ax (R.map D.str)),.q (.ax c),.q (.bl γ)];calc vA (ρ:=d) J ?_;calc(ve J).t ?_;calc(ve J).t ?_;show vF ((wD (vn J (Bp e))).t ((wD (vn J h)).t ((wD (vn J (Bp f))).t J)))
def IM{a d:Str}(R:aD)(c:List L4.D)(f:a∈R)(h:d∈R):BV [.ax (wyD a d),.ax (R.map D.str),.ax c]=U .I:=by
 let i:aU:=[.q (.ax (wyD a d)),.q (.ax (R.map D.str)),.q (.ax c),.un];let e:aU:=[.q (.ax (wyD a d)),.q (.ax (R.map D.str)),.q (.ax c),.q (.bl γ)];calc BL (ρ:=e) J ?_;delta BU;rw[ve (show _=U (mn.nx e) from(vK ((wD J).t (Aw (λz:Str×Str=>D.bx [.str a,.str z.1,.str z.2,.I]) [("north", d),("up", a)] J (cB J) λz b=>
  #v[[.q (.bx [.str a,.str z.1,.str z.2,.I]),.q (.ax (R.map D.str)),.q (.ax c)],[.q (.bx [.str a,.str z.1,.str z.2,.I]),.q (.ax (R.map D.str)),.q (.ax c)],J,vn J (QG f (by
   rcases aJ.1 b with rfl|b
   .show h
   .rw[aN.1 b];show f) (by
   rcases aJ.1 b with rfl|b
   .kernel_rfl
   .rw[aN.1 b];kernel_rfl)),J]))).t J)]
 calc(ve (xI J)).t ?_;show xI (vn (vm (by kernel_rfl) J) (NR a))
def HZ(T:List Th)(j:T.length<=200)(o:∀t∈T,xY t):yK [TD T,.ax (vx T),.ax xy]=U .I:=by
 let P:=T.filter λt=>t.k.pl;have hP:P.length<=200:=bW (iX _ _) j;have hwP:∀t∈P,xY t:=λt d=>o t (bE.1 d).1;let#v[c,i]:=HY P [] .un (by simp;omega) hwP;let O:=P.flatMap Th.w;let e:Sl:=.J (O.map D.str);let z:Sl:=.q (DQ "wait" "alone" .I);calc BL (ρ:=[.q (TD T),.q (.ax (vx T)),.q (.ax xy),.q (.ax (O.map D.str)),c,.q (.ax (vN.map D.str)),z,.q (.ax [.str "in", .str "north", .str "up"])]) J ?_;calc(ve J).t ?_;refine(ve ((wZ (ρ1:=[.q (TD T),.q (.ax (vx T)),.q (.ax xy),.J [],.un,.un,.un,.un]) ?_).t i)).t ?_
 .delta iL;rw[wq (vn (ρ1:=[.q (TD T),.q (.ax (vx T)),.q (.ax xy),.J [],.un,.un,.un,.un]) J (A8 T ()))]
 calc(ve J).t ?_;calc(ve (ρ':=[.q (TD T),.q (.ax (vx T)),.q (.ax xy),e,c,.J (vN.map D.str),z,.un]) (by kernel_rfl)).t ?_;calc(ve (ρ':=[.q (TD T),.q (.ax (vx T)),.q (.ax xy),e,c,.J (vN.map D.str),z,.q (.ax [.str "in", .str "north", .str "up"])]) (by kernel_rfl)).t ?_;calc(ve (xI (ρ1:=[.q (TD T),.q (.ax (vx T)),.q (.ax xy),e,c,.q (.ax (vN.map D.str)),z,.q (.ax [.str "in", .str "north", .str "up"])]) (by kernel_rfl))).t ?_;have no:∀x∈vI,x∉O:=λx f m=>by
  let#v[t,d,hxt]:=List.mem_flatMap.1 m;have l:=(hwP t d).1;rcases FB (hwP t d) hxt with rfl|rfl|rfl
  .have sub:∀x∈vI,x∈(["red", "old", "take", "drop", "open", "shut", "light", "douse", "put", "go", "wait", "in", "north", "up", "the", "a", "undo", "restart"]:aD):=by decide
   show T6 l (sub _ f)
  .show au f #[]
  .show au f #[]
 have a1:=T8 (.inl J) #[] no;calc(ve (xI (vn (vm (ρ1:=[.q (TD T),.q (.ax (vx T)),.q (.ax xy),e,c,.q (.ax (vN.map D.str)),z,.q (.ax [.str "in", .str "north", .str "up"])]) (by kernel_rfl) J) a1))).t ?_;calc(ve (xI (ρ1:=[.q (TD T),.q (.ax (vx T)),.q (.ax xy),.q (.ax (O.map D.str)),c,.q (.ax (vN.map D.str)),z,.q (.ax [.str "in", .str "north", .str "up"])]) (by kernel_rfl))).t ?_;show xI (by kernel_rfl)
structure fy(T:List Th)(M:List Mk)(dk:aD):Prop where
 len:T.length<=200
 r1:1<=(T.filter λt=>decide (t.k=.room)).length
 r5:(T.filter λt=>decide (t.k=.room)).length<=5
 y1:(T.filter λt=>decide (t.k=.you)).length=1
 p7:(T.filter λt=>t.k.pl).length<=7
 m4:M.length<=4
 mo:∀m∈M,m.ok
 nm:∀x∈T.map Th.n++M.map Mk.n,Nm x
 nd:(T.map Th.n++M.map Mk.n).Nodup
 st:∀t∈T,KE T t
 rk:∃r,NP T r
 wd:∀t∈T,xY t
 d0:dk.length<=5
 d1:dk.Nodup
 d2:∀x∈dk,x∈mq T
def fy.L'{T:List Th}{M:List Mk}{dk:aD}(g:fy T M dk):(T.map Th.n).Nodup:=(cq.1 g.nd).1
def IP(T:List Th)(M:List Mk)(a:T.length<=200)(hM:M.length<=4):∃l,BQ [TD T,MD M]=U l:=by
 refine#v[_,DX J (AD (xM (wq (Cb ff (λt=>D.str t.n) (λt=>t.k.mk) T J () λt z=>#v[[.q (ff t)],[.q (ff t)],J,wz (wt J J J J (Pa t)),λz=>#v[_,wg J (A7 t),J],λz=>J]))
  (wq (Cn W' (λt=>D.str t.n) M J () λt z=>#v[_,_,J,wg J (KC t),J])) ?_))]
 have:=iX (λt:Th=>t.k.mk) T;rw[ah,ah];omega
def Ia{T:List Th}{M:List Mk}{dk:aD}(g:fy T M dk):AZ [TD T,MD M,.ax (dk.map D.str),.ax (vx T),.ax [],.ax xy]=U .I:=by
 have a:=g.len;have hdk:dk.length<=1000:=by have:=g.d0;omega
 let#v[r,d]:=g.rk;let#v[e,emn]:=IP T M a g.m4;let f:aU:=[.q (TD T),.q (MD M),.q (.ax (dk.map D.str)),.q (.ax (vx T)),.q (.ax []),.q (.ax xy),.un];let b:aU:=[.q (TD T),.q (MD M),.q (.ax (dk.map D.str)),.q (.ax (vx T)),.q (.ax []),.q (.ax xy),.q (.ax ((mq T).map D.str))];calc BL (ρ:=b) J ?_;calc(ve (wU (vn J (Gu T () g.r1 g.r5 g.y1 g.p7)))).t ?_;calc(ve (wU (vn J (HU M g.m4 g.mo)))).t ?_;calc(ve (wU (vn J (HW T M () (by have:=g.m4;omega) g.nm g.nd)))).t ?_;calc(ve (wU (vn J (Gw T () g.L' r d g.st)))).t ?_;calc(ve (wU (vn J (HX T () g.wd)))).t ?_;calc(ve ((vK (wq (Me T () J))))).t ?_;calc(ve (wU (vn J (IJ dk (mq T) hdk g.d1 g.d2)))).t ?_;have c:=IM (mq T) e (acu g.r1) (acv g.r1);calc(ve (wU (vn (vm J (vm J (vm (wq (vn J emn)) J))) c))).t ?_;calc(ve (wU (vn (r:=.I) J (by kernel_rfl)))).t ?_;show wU (vn J (HZ T a g.wd))
def NS(T:List Th)(m:T.length<=900)(f:(T.map Th.n).Nodup):Fw [TD T]=U (.M (nK T) (T.map ff)):=by
 let#v[h,d]:=Bq (g:=gN 2) (i:=1) (fk:=c1 (vP vV "name") az) (fv:=cV 2) ff Th.n ff (λb a s=>[.q (TD T),.dk b a,s])
  (λt b a s=>#v[[.q (TD T),.dk b a,.q (ff t)],J,J,J,wg J (A7 t),λe c=>#v[_,J]]) T [] [] .un (by rw[bQ];show Pb f) (by simp;omega) J
 calc vA (ρ:=[.q (TD T),.q (.M (nK T) (T.map ff)),h]) J ?_;calc(ve J).t ?_;calc(ve ((wZ J).t d)).t ?_;rw[bQ,bQ];rfl
def Xg(m:Mk):vP Am "most" (W' m)=U (.int m.mo):=rfl
def D9(T:List Th)(c:T.length<=1000)(a:aD)(eu:List L4.D)(k:Kd):zI [.obj 14 ("kept_things" ::a) (TD T::eu),.str k.s]=U (.ax ((T.filter λt=>decide (t.k=k)).map λt=>D.str t.n)):=by let b:aU:=[.q (.obj 14 ("kept_things" ::a) (TD T::eu)),.q (.str k.s)];calc NA (ρ:=b) J ?_;show AD (Cb ff (λt=>D.str t.n) (λt=>decide (t.k=k)) T J c λt z=>#v[[.q (ff t),.q (.str k.s)],[.q (ff t),.q (.str k.s)],J,wz (vq (wg J (Cc t)) J (EY t.k k)),λz=>#v[_,wg J (A7 t),J],λz=>J])
def shD(T:List Th)(y:Str):List L4.D:=(yi [.str y,.ax (vx T)]).getD []
def aew(T:List Th)(y:Str):yi [.str y,.ax (vx T)]=U (shD T y):=by kernel_rfl
def vwD:L4.D:=(xR [.ax xy]).getD .I
def rbD(T:List Th)(y:Str):L4.D:=(Bn [.ax (shD T y)]).getD .I
def wNs:aD:=["kept_things", "kept_marks", "kept_dark", "kept_ways", "kept_verbs", "shared_verbs", "your_name", "things_by_name", "mosts_by_name", "verbs_by_word", "kept_rules", "shared_rules", "copied_rules", "rules_by_verb"]
def wDs(T:List Th)(M:List Mk)(dk:aD)(y:Str)(a:L4.D):List L4.D:=[TD T,MD M,.ax (dk.map D.str),.ax (vx T),.ax [],.ax xy,.str y,.M (nK T) (T.map ff),a,vwD,.ax [],.ax (shD T y),.ax [],rbD T y]
abbrev wR(T:List Th)(M:List Mk)(dk:aD)(b:aD)(a:List L4.D)(q:Sl):aU:=[.ob 14 b a,.q (TD T),.q (MD M),.q (.ax (dk.map D.str)),.q (.ax (vx T)),.q (.ax []),.q (.ax []),q]
abbrev wL(T:List Th)(M:List Mk)(dk:aD)(b:aD)(a:List L4.D)(q:Sl):aU:=[.q (.obj 14 b a),.q (TD T),.q (MD M),.q (.ax (dk.map D.str)),.q (.ax (vx T)),.q (.ax []),.q (.ax []),DY q]
section
variable{T:List Th}{M:List Mk}{dk:aD}
def w_fl{c:Str}{e:FE}{d:L4.D}{a:aD}{b:List L4.D}{q:Sl}(f:e (wR T M dk a b q)=U (d,wR T M dk a b q))(h:a.contains c=δ)(i:b.length=a.length)(j:a.length<900):we 14 0 c e (wR T M dk a b q)=U (.nx (wR T M dk (a++[c]) (b++[d]) q)):=by delta we;rw[f];change (if 14=14 then if a.contains c=γ then Z else if b.length=a.length then if a.length<900 then U (mn.nx (wR T M dk (a++[c]) (b++[d]) q))else Z else Z else Z)=_;rw[af J,h,ai bB,af i,af j]
def T9{e:FE}{d:L4.D}{b:aD}{a:List L4.D}{q:Sl}{r:aU}(c:e (wL T M dk b a q)=U (d,r))(f:noC 16 14 d=γ):Bh 16 e (wR T M dk b a q)=U (d,wR T M dk b a q):=by
 change (match e (wL T M dk b a q)with
  |some (d,_)=>if (decide (14<16)&&noC 16 14 d)=γ then U (d,wR T M dk b a q)else Z
  |none=>Z)=_
 rw[c];erw[f];rfl
abbrev d6(T:List Th)(M:List Mk)(dk:aD):List L4.D:=[TD T,MD M,.ax (dk.map D.str),.ax (vx T),.ax [],.ax xy]
abbrev n6:aD:=["kept_things", "kept_marks", "kept_dark", "kept_ways", "kept_verbs", "shared_verbs"]
def aey(y:Str)(a:T.length<=1000)(b:(T.filter λt=>decide (t.k=.you)).map Th.n=[y]):Bh 16 (c2 e7 (vZ wG "of_kind" ae (ab (cC (.str "you")) vG)) bo) (wR T M dk n6 (d6 T M dk) .un)=U (.str y,wR T M dk n6 (d6 T M dk) .un):=by
 calc T9 (vq (wt J J J J (D9 T a _ _ .you)) J ?_) J;have:((T.filter λt=>decide (t.k=.you)).map λt=>D.str t.n)=[.str y]:=by rw[show (λt:Th=>D.str t.n)=D.str∘Th.n from J,<- aT,b];rfl
 rw[this];rfl
end
section
variable{T:List Th}{M:List Mk}{dk:aD}
def aez:xR [.ax xy]=U vwD:=by kernel_rfl
def aeA(y:Str):Bn [.ax (shD T y)]=U (rbD T y):=by kernel_rfl
def acw:noC 16 14 vwD=γ:=by kernel_rfl
def acx(y:Str):noC 16 14 (rbD T y)=γ:=by kernel_rfl
def acy(y:Str):noC 16 14 (.ax (shD T y))=γ:=by kernel_rfl
def acz(y:Str):(shD T y).length<=900:=cB (by kernel_rfl)
abbrev n7:aD:=["kept_things", "kept_marks", "kept_dark", "kept_ways", "kept_verbs", "shared_verbs", "your_name"]
abbrev d7(T:List Th)(M:List Mk)(dk:aD)(y:Str):List L4.D:=[TD T,MD M,.ax (dk.map D.str),.ax (vx T),.ax [],.ax xy,.str y]
def aeB(b:aD)(a:List L4.D):AK [.obj 14 (n6++b) (d6 T M dk++a)]=U (.ax xy):=by kernel_rfl
def Xh(a:aD)(b:List L4.D)(q:Sl)(c:(n6++a).contains "all_verbs" = δ):Bh 16 (vo xR (ab (vZ yF "all_verbs" ae vG) vG)) (wR T M dk (n6++a) (d6 T M dk++b) q)=U (vwD,wR T M dk (n6++a) (d6 T M dk++b) q):=
 T9 (vn (vm (wt J J c J (aeB a b)) J) aez) acw
def Ua(y:Str)(b:aD)(a:List L4.D)(q:Sl):Bh 16 (cL (wb yi (ab (c1 (vP zp "your_name") ae) (ab aF vG)))) (wR T M dk (n7++b) (d7 T M dk y++a) q)=U (.ax (shD T y),wR T M dk (n7++b) (d7 T M dk y++a) q):=
 T9 (wq (vn J (aew T y))) (acy y)
abbrev n13:aD:=["kept_things", "kept_marks", "kept_dark", "kept_ways", "kept_verbs", "shared_verbs", "your_name", "things_by_name", "mosts_by_name", "verbs_by_word", "kept_rules", "shared_rules", "copied_rules"]
def w_rb(y:Str)(a b c d:L4.D)(q:Sl):Bh 16 (vo Bn (ab (cL (xi (c1 (vP zj "copied_rules") ae) (c1 (vP zk "shared_rules") ae))) vG)) (wR T M dk n13 [TD T,MD M,.ax (dk.map D.str),.ax (vx T),.ax [],.ax xy,.str y,a,b,c,d,.ax (shD T y),.ax []] q)=U (rbD T y,wR T M dk n13 [TD T,MD M,.ax (dk.map D.str),.ax (vx T),.ax [],.ax xy,.str y,a,b,c,d,.ax (shD T y),.ax []] q):=
 T9 (vn (vm (wq (xM J J (by have:=acz (T:=T) y;simp;omega))) J) (aeA y)) (acx y)
def KG{c:Str}{e:FE}{d:L4.D}{a:aD}{b:List L4.D}{q:Sl}{g:FS}{r:Option mn}(f:e (wR T M dk a b q)=U (d,wR T M dk a b q))(i:a.contains c=δ)(j:b.length=a.length)(l:a.length<900)(h:g (wR T M dk (a++[c]) (b++[d]) q)=r):a0 (we 14 0 c e) g (wR T M dk a b q)=r:=(ve (w_fl f i j l)).t h
def Ub(g:fy T M dk)(y:Str)(b:(T.filter λt=>decide (t.k=.you)).map Th.n=[y]){a:L4.D}(emo:xQ [TD T,MD M]=U a):zR [TD T,MD M,.ax (dk.map D.str),.ax (vx T),.ax [],.ax []]=U (wNs,wDs T M dk y a):=by
 have c:=g.len;have e:zQ (wR T M dk [] [] .un)=U (.nx (wR T M dk wNs (wDs T M dk y a) (.q (.bl γ)))):=by
  refine(ve (wU (vn (vm J (vm J (vm J (vm J (vm J (vm (wq (vn J Mh)) J)))))) (Ia g)))).t ?_
  iterate 5 refine KG J J J #[] ?_
  refine KG (wq (vn J Mh)) J J #[] (KG (aey y () b) J J #[] (KG (vn J (NS T () g.L')) J J #[] (KG (vn J emo) J J #[]
   (KG (Xh ["your_name", "things_by_name", "mosts_by_name"] [.str y,.M (nK T) (T.map ff),a] .un J) J J #[] ?_))))
  calc(ve ((vK (T9 J J)))).t ((ve (xI J)).t ?_);calc KG J J J #[] (KG (Ua y ["things_by_name", "mosts_by_name", "verbs_by_word", "kept_rules"] [.M (nK T) (T.map ff),a,vwD,.ax []] (.q (.bl γ))) J J #[] (KG J J J #[] ?_));show w_fl (w_rb y _ _ _ _ (.q (.bl γ))) J J #[]
 delta zR vf;rw[af (show [TD T,MD M,D.ax (dk.map D.str),D.ax (vx T),D.ax [],D.ax []].length=6 from J)];rw[show zQ (stI 14 8 [TD T,MD M,.ax (dk.map D.str),.ax (vx T),.ax [],.ax []])=U (.nx (wR T M dk wNs (wDs T M dk y a) (.q (.bl γ)))) from e];rfl
end
def IL(ds:List L4.D):Prop:=∃a:List Int,ds=a.map D.int
def IL.nil:IL []:=#v[[],J]
def IL.snoc{a:List L4.D}(h:IL a)(i:Int):IL (a++[.int i]):=by let#v[b,rfl]:=h;show#v[b++[i],by rw[aZ];rfl]
def IL.sub{b a:List L4.D}(h:IL b)(c:∀d∈a,d∈b):IL a:=by
 induction a with
 |nil=>show IL.nil
 |cons d a e=>let#v[f,rfl]:=e λd hd=>c d (bg _ hd);let#v[j,rfl]:=h;let#v[i,_,rfl]:=aw.1 (c d aX);show#v[i::f,J]
def Xj{a:List L4.D}{lo b:Option Int}:∀d∈gs a lo b,d∈a:=λd hd=>by show kh (pK hd)
def Uc:FS:=(a0 (vY (zF 2 (c2 ye aB (c2 FM fZ dD))))
 (vR 3 (c2 DH aB (c2 FM fZ dD))))
def Ud:FT:=DI (zu (cT (c2 IC aB bo)) (cT (c2 DA (c1 wW az) ao)))
theorem Gh(c:Int)(m:Nat)(i:m<=130):∀(n:Nat) (a:List L4.D) (r:Int),IL a->a.length<=m->m - a.length<n->∃b o,IL b/\b.length<=m/\
  K' Ud Uc n [.q (.int c),.q (.int m),.J a,.q (.int r),.un,.un,.un]=U (.nx [.q (.int c),.q (.int m),.J b,.q (.int o),.un,.un,.un])
 |0,a,r,_,_,h=>au h (qP _)
 |n+1,a,r,d,f,q=>by
  have l:Ud [.q (.int c),.q (.int m),.J a,.q (.int r),.un,.un,.un]=U (decide (0<r)&&decide (a.length<m),[.q (.int c),.q (.int m),.J a,.q (.int r),.un,.un,.un]):=by
   calc J1 (ρ1:=[.q (.int c),.q (.int m),.q (.ax a),.q (.int r),.un,.un,.un]) ?_;change zu _ _ [.q (.int c),.q (.int m),.q (.ax a),.q (.int r),.un,.un,.un]=_;delta zu;rw[show cT (c2 IC aB bo) [.q (.int c),.q (.int m),.q (.ax a),.q (.int r),.un,.un,.un]=U (decide (0<r),[.q (.int c),.q (.int m),.q (.ax a),.q (.int r),.un,.un,.un]) from J];cases decide (0<r)with
   |false=>rfl
   |true=>change cT (c2 DA (c1 wW az) ao) _=U (decide (a.length<m),_);rw[show cT (c2 DA (c1 wW az) ao) [.q (.int c),.q (.int m),.q (.ax a),.q (.int r),.un,.un,.un]=U (decide ((a.length:Int)<m),[.q (.int c),.q (.int m),.q (.ax a),.q (.int r),.un,.un,.un]) from J];erw[Int.ofNat_lt]
  delta K';rw[l];cases j:(decide (0<r)&&decide (a.length<m))with
  |false=>show#v[a,r,d,f,J]
  |true=>
   rw[bA,bU,bU]at j;have e:Uc [.q (.int c),.q (.int m),.J a,.q (.int r),.un,.un,.un]=U (.nx [.q (.int c),.q (.int m),.J (a++[.int (r % 1000000)]),.q (.int (r / 1000000)),.un,.un,.un]):=by calc(ve ((wU (CD J (vq J J (zO #[])) J ())))).t ?_;show(vK (vq J J (F2 #[] #[]))).t J
   erw[e];show Gh c m i n _ _ (d.snoc _) (by rw[aH,bq];omega) (by rw[aH,bq];omega)
def fBody:FS:=(a0 (vR 4 (c2 ye (c2 zx (c2 wA (c2 wA aF (c2 zx (cC (.int 7919)) aY)) aO) lh) fW))
 (a0 (vR 6 (c2 ye (c2 zx aF (c2 wA (c2 DH aF (cC (.int 1009))) (cC (.int 69621)))) fW))
 (vY (zF 2 (c2 ye (c2 zx bK (c2 wA (c2 DH bK (cC (.int 2003))) (cC (.int 40692)))) (cC (.int 2147483399)))))))
def modS(a:Int):0<=a % 2147483647/\a % 2147483647<2147483647:=#v[mJ _ #[],l6 _ #[]]
theorem JC(a b r:Sl):∀(l:List Int) (c:List L4.D) (x:Int) (f e:Sl),IL c->c.length+l.length<=900->∃d m i j,IL d/\
  fl (gN 5) fBody (l.map D.int) [a,b,.J c,r,.q (.int x),f,e]=U (.nx [a,b,.J d,r,.q (.int m),i,j])
 |[],c,x,f,e,h,_=>#v[c,x,f,e,h,J]
 |k::l,c,x,f,e,h,w=>by
  rw[aL]at w;let y:=(x+7919 * k+1) * 48271 % 2147483647;let z:=y * (y / 1009+69621) % 2147483647;let v:=z * (z / 2003+40692) % 2147483399;have o:=modS ((x+7919 * k+1) * 48271);have p:=modS (y * (y / 1009+69621));have q:fBody [a,b,.J c,r,.q (.int x),.q (.int k),e]=U (.nx [a,b,.J (c++[.int v]),r,.q (.int y),.q (.int k),.q (.int z)]):=by calc(ve ((vK (vq (vq (vq (vq J (vq J J (zZ (.inl #[]))) J) J J) J (zZ (.inr #[]))) J (zO #[]))))).t ?_;calc(ve ((vK (vq (vq J (vq (vq J J (F2 #[] #[])) J J) (zZ (.inl (LA o.1 o.2)))) J (zO #[]))))).t ?_;show(wU (CD J (vq (vq J (vq (vq J J (F2 #[] #[])) J J) (zZ (.inl (LA p.1 p.2)))) J (zO #[])) J ())).t J
  let#v[d,m,i,j,t,u]:=JC a b r l (c++[.int v]) y (.q (.int k)) (.q (.int z)) (h.snoc _) (by rw[aH,bq];omega);calc#v[d,m,i,j,t,?_];rw[aA];delta fl;rw[show gN 5 (.int k) [a,b,.J c,r,.q (.int x),f,e]=U [a,b,.J c,r,.q (.int x),.q (.int k),e] from J];erw[q];show u
def Mj(c:Int)(m:Nat)(p:m<=130):∃ds,IL ds/\y8 [.int c,.int m]=U ds:=by
 have fin:∀f:Int,∃ds,IL ds/\∃a,a0 (K' Ud Uc 200) (a0 (vR 4 (c2 ye (c2 zx (c2 wA (c2 ye ae fW) aO) lh) fW)) (a0 (yA (B? ao) (gN 5) fBody) (xC (BI (t9 2) θ (vu ao))))) [.q (.int c),.q (.int m),.J [],.q (.int f),.un,.un,.un]=U (.rn ds a):=λf=>by let#v[ds,r,d,e,j]:=Gh c m p 200 [] f IL.nil (bP _) (by simp;omega);let x:=(c % 2147483647+1) * 48271 % 2147483647;let#v[b,u,q,t,l,o]:=JC (.q (.int c)) (.q (.int m)) (.q (.int r)) ((bh m).map λ(i:Nat)=>(0:Int)+(i:Int)) ds x .un .un d (by rw[ah,cI];omega);calc#v[gs b Z (U m),l.sub Xj,[.q (.int c),.q (.int m),.q (.ax b),.q (.int r),.q (.int u),q,t],?_];calc(ve j).t ?_;calc(ve ((vK (vq (vq (vq (vq J J (zO #[])) J J) J (zZ (.inr #[]))) J (zO #[]))))).t ?_;calc(ve ((wZ ?_).t o));change (if -1000000<=(m:Int)/\(m:Int)<=1000000 then U (Eo 0 (m:Int).toNat,_)else Z)=_;rw[af (),ig];rw[aT];rfl
 by_cases h:(1000000000000000000:Int)<=c
 .let#v[ds,d,a,e]:=fin (c - 1000000000000000000);calc#v[ds,d,DX (ρ:=a) J ?_];calc(ve J).t ((ve J).t ((ve ((v5 (ρ':=[.q (.int c),.q (.int m),.J [],.q (.int 0),.un,.un,.un]) ?_))).t e));calc wz (vq (y:=.int 1000000000000000000) J J ?_);change U (D.bl (decide _))=_;rw[aM h]
 .let#v[ds,d,a,e]:=fin 0;calc#v[ds,d,DX (ρ:=a) J ?_];calc(ve J).t ((ve J).t ((ve ((vQ ?_))).t e));calc wz (vq (y:=.int 1000000000000000000) J J ?_);change U (D.bl (decide _))=_;rw[aP h]
theorem JD:∀a:List Int,CA (a.map D.int)=U (a.map L3.Dq.int)
 |[]=>rfl
 |x::a=>by rw[aA];delta CA;rw[JD a];rfl
def Ml(x:Int)(a:List Int):eo δ (.ax ((x::a).map D.int)) (.ax [])=U (.bl δ):=by
 have c:Hl δ (.ax ((x::a).map D.int)) (.ax [])=Z:=rfl;have d:p? (.ax ((x::a).map D.int))=U (.ax ((x::a).map L3.Dq.int)):=by delta p?;rw[JD]
 have e:∀b:List Int,xJ (b.map L3.Dq.int)=0:=λb=>by
  induction b with
  |nil=>rfl
  |cons y b h=>rw[aA];delta xJ;rw[h];delta ij;rfl
 have f:ij (.ax ((x::a).map L3.Dq.int))=1:=by rw[ij,e]
 delta eo;rw[c];delta M5;rw[d,show p? (.ax [])=U (.ax []) from J];change (if Lh (.ax ((x::a).map L3.Dq.int)) (.ax [])&&decide (ij (.ax ((x::a).map L3.Dq.int))<=20)&&decide (ij (.ax [])<=20)then U (D.bl (n3 (.ax ((x::a).map L3.Dq.int)) (.ax [])))else Z)=_;rw[f];rfl
def xt{d:List L4.D}(h:IL d)(n:Int)(c:0<n):∃r b,IL b/\0<=r/\r<n/\vg d [.int n]=U (.int r,b):=by
 let#v[a,rfl]:=h;cases a with
 |nil=>show#v[0,[],IL.nil,sv _,c,J]
 |cons x a=>calc#v[x % n,a.map D.int,#v[a,J],mJ _ (),l6 _ c,?_];calc aaq (ρ:=[.pm (a.map D.int),.q (.int n)]) J ?_ J;calc(ve ((vQ (J1 (wz (vq J J (Ml x a))))))).t ?_;show vF (vq J J (zO c))
def o?:Str:="bcdefghijklmnopqrstuvwxyz"
#print h
def acA(i:Nat)(h:i<25):e7 (.str o?) (.int i)=U (.str #v[#[98+i]]):=by
 have q:((bh 25).all λi=>match e7 (.str o?) (.int i)with|some (.str x)=>decide (x=#v[#[98+i]])|_=>δ)=γ:=by kernel_rfl
 have:=bH.1 q i (bY.2 h);revert this;split
 .rename_i x e;intro z;rw[e,ba z]
 .intro z;ext z
#print f
abbrev gW:=(ab (cC (.int 8)) vG)
def nElt:FE:=(c2 LB (c2 e7 ao (c2 ye (c2 wA aB (c2 zx dU ae)) lj)) (c2 wA aO (v9 vg 2 gW)))
def Xk{b:List L4.D}(h:IL b)(s k:Nat):∃c a,c<8/\IL a/\nElt [.q (.int k),.q (.str o?),.pm b,.q (.int s)]=U (.str (nmS ((s+7 * k) % 25) c),[.q (.int k),.q (.str o?),.pm a,.q (.int s)]):=by
 let#v[r,a,j,l,p,m]:=xt h 8 #[];let#v[c,rfl]:=cW l;calc#v[c,a,by omega,j,?_];have o:(s+7 * k) % 25<25:=eK _ #[];let d:aU:=[.q (.int k),.q (.str o?),.pm b,.q (.int s)];let e:aU:=[.q (.int k),.q (.str o?),.pm a,.q (.int s)];have f:c2 e7 ao (c2 ye (c2 wA aB (c2 zx dU ae)) lj) d=U (.str #v[#[98+(s+7 * k) % 25]],d):=by
  calc vq J (vq (vq J (vq J J (zZ (.inl #[]))) J) J ((zO #[]).t ?_)) (acA _ o);have:((s:Int)+7 * k) % 25=(((s+7 * k) % 25:Nat):Int):=by omega
  rw[this]
 have i:c2 wA aO (v9 vg 2 gW) d=U (.int (1+(c:Int)),e):=vq J ((yf J J J m).t J) J;calc vq f i ?_;change (if 0<=1+(c:Int)/\1+(c:Int)<=1000/\sy #v[#[98+(s+7 * k) % 25]]<=100 then U (D.str (jD #v[#[98+(s+7 * k) % 25]] (1+(c:Int))))else Z)=_;rw[af #v[by omega,by omega,by change 1<=100;decide]];rfl
theorem Mo(s:Nat):∀(l:List Nat) (b:List L4.D),IL b->∃cs a,cs.length=l.length/\(∀c∈cs,c<8)/\IL a/\
  zv 1 [2,0,1] (gN 0) wJ nElt (l.map λ(k:Nat)=>D.int k) [.pm b,.q (.int s),.q (.str o?)]=U (dP (λ(k c:Nat)=>D.str (nmS ((s+7 * k) % 25) c)) l cs,[.pm a,.q (.int s),.q (.str o?)])
 |[],b,h=>#v[[],b,J,λc r=>(b0 r).elim,h,J]
 |k::l,b,h=>by
  let#v[c,d,f,i,j]:=Xk h s k;let#v[cs,a,m,o,p,q]:=Mo s l d i;refine#v[c::cs,a,by rw[aL,aL,m],λx e=>?_,p,?_]
  .rcases aJ.1 e with rfl|e
   .show f
   .show o x e
  .rw[aA];delta zv;rw[show gN 0 (.int k) (DV 1 [2,0,1] [.pm b,.q (.int s),.q (.str o?)])=U [.q (.int k),.q (.str o?),.pm b,.q (.int s)] from J];erw[wJ,j];rw[show yB [2,0,1] (([.q (.int k),.q (.str o?),.pm d,.q (.int s)]:aU).drop 1) [.pm b,.q (.int s),.q (.str o?)]=U [.pm d,.q (.int s),.q (.str o?)] from J];erw[q];rfl
theorem Ue(s:Nat)(t:s<25):∀(l cs:List Nat),cs.length=l.length->(∀c∈cs,c<8)->(l.map λk=>(s+7 * k) % 25).Nodup->∃N:aD,N.length=l.length/\(∀x∈N,Nm x)/\N.Nodup/\(∀x∈N,∃k∈l,sg x=98+(s+7 * k) % 25)/\dP (λ(k c:Nat)=>D.str (nmS ((s+7 * k) % 25) c)) l cs=N.map D.str
 |[],[],_,_,_=>#v[[],J,λx h=>(b0 h).elim,ir,λx h=>(b0 h).elim,J]
 |[],c::cs,h,_,_=>by cases h
 |k::l,[],h,_,_=>by cases h
 |k::l,c::cs,h,b,f=>by
  rw[aA,cu]at f;let#v[N,o,p,q,i,r]:=Ue s t l cs (by exists h) (λx a=>b x (bg _ a)) f.2;have m:(s+7 * k) % 25<25:=eK _ #[];have hsg:=aev m (b c aX);refine#v[nmS ((s+7 * k) % 25) c::N,by rw[aL,aL,o],λx a=>?_,?_,λx a=>?_,?_]
  .rcases aJ.1 a with rfl|a
   .show#v[_,_,m,b c aX,J]
   .show p x a
  .rw[cu];calc#v[λz=>?_,q];let#v[j,d,e]:=i _ z;rw[hsg]at e;show f.1 (aw.2 #v[j,d,by omega])
  .rcases aJ.1 a with rfl|a
   .show#v[k,aX,hsg]
   .let#v[j,d,e]:=i x a;show#v[j,bg _ d,e]
  .rw[fK,r];rfl
structure Nms(N:aD):Prop where
 len:N.length=17
 nm:∀x∈N,Nm x
 nd:N.Nodup
def Ug{d:List L4.D}(h:IL d):∃N a,Nms N/\IL a/\B6 d []=U (.ax (N.map D.str),a):=by
 let#v[r,b,f,i,B,j]:=xt h 25 #[];let#v[s,rfl]:=cW i;have e:s<25:=by omega
 let#v[cs,c,l,m,o,p]:=Mo s (bh 17) b f;have y:=by
  have q:((bh 25).all λs=>decide ((bh 17).map λk=>(s+7 * k) % 25).Nodup)=γ:=by decide +kernel
  show ba (bH.1 q s (bY.2 e))
 let#v[N,t,u,w,_,x]:=Ue s e (bh 17) cs l m y;calc#v[N,c,#v[by rw[t,cI],u,w],o,aar (ρ:=[.pm c,.q (.int s),.q (.str o?)]) J ?_ J];calc(ve ((vK (yf J J J j)))).t ?_;calc(ve (ρ':=[.pm b,.q (.int s),.q (.str o?)]) J).t ?_;calc AD ((BG (ds:=(bh 17).map λ(k:Nat)=>D.int k) ?_ (by simp)).t (by rw[<-x];show p));delta B?;change (if _ then U (Eo 0 17,_)else Z)=_;rw[af #[]];delta Eo;erw[Int.zero_add]
structure Rw where
 n:Str
 k:Kd
 s:Option Str
def wm(r:Rw):L4.D:=.bx [.str r.n,.str r.k.s,oS r.s]
def KH(l:List Rw)(r:Rw):Prop:=(r.k=.room/\r.s=Z)\/(r.k=.you/\∃u∈l,r.s=U u.n/\u.k=.room)\/(r.k.pl=γ/\∃u∈l,r.s=U u.n/\u.k.hd=γ)
inductive Ord:List Rw->Prop
 |nil:Ord []
 |snoc {l:List Rw} {r:Rw} (h:Ord l) (h':KH l r):Ord (l++[r])
def KH.mono{l e:List Rw}{r:Rw}(h:KH l r)(d:∀u∈l,u∈e):KH e r:=by
 rcases h with h|⟨a,u,b,c⟩|⟨a,u,b,c⟩
 .show .inl h
 .show .inr (.inl #v[a,u,d u b,c])
 .show .inr (.inr #v[a,u,d u b,c])
def Ord.all{l:List Rw}(h:Ord l):∀r∈l,KH l r:=by
 induction h with
 |nil=>show λr hr=>(b0 hr).elim
 |snoc h b c=>
  intro r hr;rcases bt.1 hr with hr|hr
  .show(c r hr).mono λu a=>bw _ a
  .rw[aN]at hr;subst hr;show b.mono λu a=>bw _ a
def KH.start{l:List Rw}{r:Rw}(h:KH l r){p:Str}(a:r.s=U p):∃u∈l,u.n=p:=by
 rcases h with ⟨_,h⟩|⟨_,u,b,c,_⟩|⟨_,u,b,c,_⟩
 .rw[h]at a;ext a
 .rw[c]at a;ext a;show#v[u,b,J]
 .rw[c]at a;ext a;show#v[u,b,J]
def Ord.rank{l:List Rw}(h:Ord l):(l.map Rw.n).Nodup->∃b:Str->Nat,∀t∈l,b t.n<l.length/\∀p,t.s=U p->b p<b t.n/\∃u∈l,u.n=p:=by
 induction h with
 |nil=>show λw=>#v[λw=>0,λt ht=>(b0 ht).elim]
 |@snoc l r h f m=>
  intro d;rw[aZ,cq]at d;let#v[b,e]:=m d.1;have ne:∀u∈l,u.n≠r.n:=λu a z=>d.2.2 _ (bT a) _ (by simp) z;calc#v[λx=>if x=r.n then l.length else b x,λt ht=>?_];rw[aH,bq];dsimp only;rcases bt.1 ht with ht|ht
  .let#v[o,i]:=e t ht;rw[ai (ne t ht)];calc#v[by omega,λp c=>?_];let#v[j,u,a,rfl]:=i p c;rw[ai (ne u a)];show#v[j,u,bw _ a,J]
  .rw[aN]at ht;subst ht;rw[af J];calc#v[by omega,λp c=>?_];let#v[u,a,rfl]:=f.start c;rw[ai (ne u a)];show#v[(e u a).1,u,bw _ a,J]
def yn{l:aD}{j:Nat}{x:Str}(h:l[j]?=U x):x? (l.map D.str) (j:Int)=U (.str x):=On (by rw[br,h];rfl)
def kT:List Kd:=[.plain,.box,.lamp,.fixed,.box,.lamp,.box,.plain]
def aeD(j:Nat)(h:j<8):∃k,k∈kT/\e7 (.ax [.str "plain", .str "box", .str "lamp", .str "fixed", .str "box", .str "lamp", .str "box", .str "plain"]) (.int j)=U (.str (Kd.s k)):=
 #v[kT[j]'h,cG _,yn (l:=kT.map Kd.s) (by rw[br,aI (show j<kT.length from h)];rfl)]
#print "gY box;lg lamp;oe plain" in abbrev ϑ0:=(cC (.str "ϑ1"))
abbrev lr:=(ab (Et (c1 wW aF)) vG)
def YH:FS:=(a0 (vR 6 (c2 e7 (cL (vL (ab oe (ab gY (ab lg (ab (cC (.str "fixed")) (ab gY (ab lg (ab gY (ab oe vG)))))))))) (v9 vg 2 gW)))
 (a0 (vY (zF 3 (v8 (ab aY (ab bK (ab (Fd 4 (v9 vg 2 lr)) vG))))))
 (fx (cT (c2 (eo δ) bK gY)) (vY (zF 4 aY)) vJ)))
def KI{ρ:aU}{i j:Nat}{c:List L4.D}{b:aD}(h:IL c)(o:b≠[])(d:xb ρ i=U c)(w:xb ρ j=U (b.map D.str))(u:cV j (ρ.map Sl.ν)=U (.ax (b.map D.str),ρ.map Sl.ν))(hne:∀a,xb (putAt ρ i a) j=U (b.map D.str)):
  ∃x a,x∈b/\IL a/\Fd j (v9 vg i (ab (Et (c1 wW (cV j))) vG)) ρ=U (.str x,putAt ρ i a):=by
 have z:=eX.2 o;let#v[r,a,p,q,y,t]:=xt h b.length ();let#v[m,rfl]:=cW q;have e:m<b.length:=by omega
 calc#v[b[m],a,cG e,p,?_];have f:Et (c1 wW (cV j)) ρ=U (.int b.length,ρ):=Sn (wg u (by change U (D.int _)=_;rw[ah])) J;have l:v9 vg i (ab (Et (c1 wW (cV j))) vG) ρ=U (.int m,putAt ρ i a):=yf d (vm f J) d t;delta Fd;rw[w];erw[l,hne a];rw[show x? (b.map D.str) (m:Int)=U (.str b[m]) from yn (aI e)]
theorem Gi(a b:Sl)(B:List Rw):∀(l:aD) (t:List L4.D) (O:List Rw) (d:aD) (E z:Sl),IL t->d≠[]->(∀x∈d,∃u∈B++O,u.n=x/\u.k.hd=γ)->Ord (B++O)->O.length+l.length<=900->d.length+l.length<=900->
  ∃(q:List L4.D) (C:List Rw) (w:aD) (Q R:Sl),IL q/\Ord (B++(O++C))/\C.map Rw.n=l/\(∀r∈C,r.k.pl=γ)/\
   fl (gN 5) YH (l.map D.str) [a,b,.pm t,.J (O.map wm),.J (d.map D.str),E,z]=U (.nx [a,b,.pm q,.J ((O++C).map wm),.J (w.map D.str),Q,R])
 |[],t,O,d,E,z,I,_,_,N,_,_=>#v[t,[],d,E,z,I,by rw[bF];show N,J,λr hr=>(b0 hr).elim,by rw[bF];rfl]
 |x::l,t,O,d,E,z,I,W,hH,N,hl,M=>by
  rw[aL]at hl M;let#v[r,G,h1,h2,h3,h4]:=xt I 8 #[];let#v[j,rfl]:=cW h2;let#v[k,hk,ek]:=aeD j ();let S:=[a,b,.pm G,.J (O.map wm),.J (d.map D.str),.q (.str x),.q (.str k.s)];let#v[p,m,hp,h5,X]:=KI (ρ:=S) (i:=2) (j:=4) h1 W J J J (λ_=>J);have hpl:=by
   have:∀k∈kT,Kd.pl k=γ:=by decide
   show this k hk
  let e:Rw:=#v[x,k,U p];let#v[u,hu,hun,huk]:=hH p hp;have ok:KH (B++O) e:=.inr (.inr #v[hpl,u,hu,by rw[hun],huk]);let c:=if k=.box then d++[x]else d
  have Y:YH [a,b,.pm t,.J (O.map wm),.J (d.map D.str),.q (.str x),z]=U (.nx [a,b,.pm m,.J ((O++[e]).map wm),.J (c.map D.str),.q (.str x),.q (.str k.s)]):=by
   calc(ve ((vK (vq J (yf J J J h4) ek)))).t ?_;let ρ2:=[a,b,.pm m,.J (O.map wm),.J (d.map D.str),.q (.str x),.q (.str k.s)];let A:=[a,b,.pm m,.J ((O++[e]).map wm),.J (d.map D.str),.q (.str x),.q (.str k.s)];refine(ve (ρ':=A) ((wU (CD J (xV (vm J (vm J (vm X J))) (by change 3<=1000;decide)) J (by rw[ah];omega))).t ?_)).t ?_
   .change U (mn.nx [a,b,.pm m,.J (O.map wm++[wm e]),.J (d.map D.str),.q (.str x),.q (.str k.s)])=_;rw[show O.map wm++[wm e]=(O++[e]).map wm by rw[aZ];rfl]
   .have F:cT (c2 (eo δ) bK gY) A=U (decide (k=.box),A):=wz (vq J J (EY k .box));by_cases f:k=.box
    .rw[aM f]at F;calc(v5 F).t ((wU (CD J J J (by rw[ah];omega))).t ?_);change U (mn.nx [a,b,.pm m,.J ((O++[e]).map wm),.J (d.map D.str++[.str x]),.q (.str x),.q (.str k.s)])=_;rw[show c.map D.str=d.map D.str++[.str x] by rw[show c=d++[x] from af f,aZ];rfl]
    .rw[aP f]at F;calc(vQ F).t ?_;rw[show c=d from ai f];rfl
  have P:Ord (B++(O++[e])):=by rw[<-bN];show N.snoc ok
  have hH1:∀y∈c,∃u∈B++(O++[e]),u.n=y/\u.k.hd=γ:=λy o=>by
   have old:y∈d->∃u∈B++(O++[e]),u.n=y/\u.k.hd=γ:=λo=>by let#v[v,hv,h]:=hH y o;show#v[v,by rw[<-bN];show bw _ hv,h]
   by_cases f:k=.box
   .rw[show c=d++[x] from af f]at o;rcases bt.1 o with o|o
    .show old o
    .rw[aN]at o;calc#v[e,by simp,o.symm,?_];change k.hd=γ;rw[f];rfl
   .rw[show c=d from ai f]at o;show old o
  have H:c≠[]:=by
   by_cases f:k=.box
   .rw[show c=d++[x] from af f];simp
   .rw[show c=d from ai f];show W
  have hl1:c.length<=d.length+1:=by
   by_cases f:k=.box
   .rw[show c=d++[x] from af f];simp
   .rw[show c=d from ai f];omega
  let#v[q,C,w,Q,R,g1,T,g3,g4,g5]:=Gi a b B l m (O++[e]) c (.q (.str x)) (.q (.str k.s)) h5 H hH1 P (by rw[aH,bq];omega) ();refine#v[q,e::C,w,Q,R,g1,by rw[bN]at T;show T,by rw[aA,g3],λr hr=>?_,?_]
  .rcases aJ.1 hr with rfl|hr
   .show hpl
   .show g4 r hr
  .rw[aA];delta fl;rw[show gN 5 (.str x) [a,b,.pm t,.J (O.map wm),.J (d.map D.str),E,z]=U [a,b,.pm t,.J (O.map wm),.J (d.map D.str),.q (.str x),z] from J];erw[Y];rw[g5,bN];rfl
def Uh{a:List L4.D}(k:Nat)(h:k<=a.length):gs a Z (U (k:Int))=a.take k:=by delta gs;rw[HT.K5,HT.Gy,eB h,List.drop_zero,Nat.sub_zero]
def acB{a:List L4.D}(k:Nat)(h:k<=a.length):gs a (U (k:Int)) Z=a.drop k:=by delta gs;rw[HT.K5,HT.Gy,eB h,j8 (by rw[cJ];omega)]
def Pd{a:List L4.D}(k m:Nat)(h:k+m<=a.length):gs a (U (k:Int)) (U ((k+m:Nat):Int))=(a.drop k).take m:=by delta gs;rw[HT.Gy,HT.Gy,eB h,eB (show k<=a.length by omega)];congr 1;omega
def QH{N rooms:aD}(hN:Nms N)(B:List Rw){d:List L4.D}(h:IL d)(hB:Ord B)(P:rooms.length<=100)(hH:∀x∈rooms++[N[5]'(by rw[hN.len];decide)],∃u∈B,u.n=x/\u.k.hd=γ):
  ∃(q:Nat) (b:List L4.D) (O:List Rw),q<8/\IL b/\Ord (B++O)/\O.map Rw.n=(N.drop 6).take q/\(∀r∈O,r.k.pl=γ)/\xU d [.ax (N.map D.str),.ax (rooms.map D.str)]=U (.ax (O.map wm),b):=by
 have C:5<N.length:=by rw[hN.len];decide
 let#v[r,c,y,z,M,A]:=xt h 8 #[];let#v[q,rfl]:=cW z;let a:=rooms++[N[5]];let#v[b,O,f,F,G,p,j,t,w,l]:=Gi (.q (.ax (N.map D.str))) (.q (.ax (rooms.map D.str))) B ((N.drop 6).take q) c [] a .un .un y (by simp[a]) (λx E=>by rw[bF];show hH x E) (by rw[bF];show hB) (by rw[bJ,cJ,hN.len];simp;omega) (by rw[bJ,cJ,hN.len];simp[a];omega);rw[bQ]at j l;calc#v[q,b,O,by omega,p,j,t,w,?_];have run:A5 (L? 7 d [.ax (N.map D.str),.ax (rooms.map D.str)])=U (.rn (O.map wm) [.q (.ax (N.map D.str)),.q (.ax (rooms.map D.str)),.pm b,.un,.J (f.map D.str),F,G]):=by
  calc(ve J).t ?_;refine(ve (ρ':=[.q (.ax (N.map D.str)),.q (.ax (rooms.map D.str)),.pm d,.J [],.J (a.map D.str),.un,.un]) ((BE (xM J (wq (BF (vm (vq J J (yn (aI C))) J) (by change 1<=1000;decide))) (by rw[ah];simp;omega))).t ?_)).t ?_
  .change U (mn.nx [_,_,_,_,.J (rooms.map D.str++[.str N[5]]),_,_])=_;rw[show rooms.map D.str++[.str N[5]]=a.map D.str by simp[a]]
  .calc(ve ((wZ (ρ1:=[.q (.ax (N.map D.str)),.q (.ax (rooms.map D.str)),.pm c,.J [],.J (a.map D.str),.un,.un]) ?_).t l));have e:BI ae (vu dD) (vu (c2 wA dD (v9 vg 2 gW))) [.q (.ax (N.map D.str)),.q (.ax (rooms.map D.str)),.pm d,.J [],.J (a.map D.str),.un,.un]=U (((N.drop 6).take q).map D.str,[.q (.ax (N.map D.str)),.q (.ax (rooms.map D.str)),.pm c,.J [],.J (a.map D.str),.un,.un]):=by
    have m:c2 wA dD (v9 vg 2 gW) [.q (.ax (N.map D.str)),.q (.ax (rooms.map D.str)),.pm d,.J [],.J (a.map D.str),.un,.un]=U (.int ((6+q:Nat):Int),[.q (.ax (N.map D.str)),.q (.ax (rooms.map D.str)),.pm c,.J [],.J (a.map D.str),.un,.un]):=vq J ((yf J J J A).t J) (by change U (D.int (6+(q:Int)))=_;congr 2);have o:vu (c2 wA dD (v9 vg 2 gW)) [.q (.ax (N.map D.str)),.q (.ax (rooms.map D.str)),.pm d,.J [],.J (a.map D.str),.un,.un]=U (U ((6+q:Nat):Int),[.q (.ax (N.map D.str)),.q (.ax (rooms.map D.str)),.pm c,.J [],.J (a.map D.str),.un,.un]):=by delta vu;rw[m]
    change (match vu (c2 wA dD (v9 vg 2 gW)) [.q (.ax (N.map D.str)),.q (.ax (rooms.map D.str)),.pm d,.J [],.J (a.map D.str),.un,.un]with
     |some (h,i)=>U (gs (N.map D.str) (U 6) h,i)
     |none=>Z)=_
    rw[o];change U (gs (N.map D.str) (U ((6:Nat):Int)) (U ((6+q:Nat):Int)),_)=_;rw[Pd 6 q (by rw[ah,hN.len];omega),gE,gA]
   delta iL;rw[wq e]
 delta xU z5;rw[af (show [D.ax (N.map D.str),D.ax (rooms.map D.str)].length=2 from J),run];rfl
def insB:FS:=(a0 (vR 7 (v9 vg 1 (ab (c2 wA (c1 wW aY) aO) vG)))
 (vR 5 (cL (xi (cL (xi (cL (BI aY θ (vu cj))) (cL (vL (ab bK vG))))) (cL (BI aY (vu cj) θ))))))
theorem Mp{a b c d q t e f h i:Sl}:∀(l:List Rw) (p:List L4.D) (R:List Rw) (x u:Sl),IL p->R.length+l.length<=900->∃(m:List L4.D) (y:List Rw) (A B:Sl),IL m/\y.Perm (R++l)/\
  fl (gN 6) insB (l.map wm) [a,.J p,b,c,d,.q (.ax (R.map wm)),x,u,q,t,e,f,h,i]=U (.nx [a,.J m,b,c,d,.q (.ax (y.map wm)),A,B,q,t,e,f,h,i])
 |[],p,R,x,u,z,_=>#v[p,R,x,u,z,by rw[bF],J]
 |r::l,p,R,x,u,z,S=>by
  rw[aL]at S;let#v[v,o,O,P,T,Q]:=xt z ((R.map wm).length+1:Int) ();let#v[k,rfl]:=cW P;have C:k<=(R.map wm).length:=by omega
  let w:=R.take k++r::R.drop k;have G:=by have:=(kB (a:=r) (l₁:=R.take k) (l₂:=R.drop k));rw[ic]at this;show this.t (jZ r R).symm
  have hR1:w.length=R.length+1:=G.length_eq.t (by simp);let j:=[a,.J o,b,c,d,.q (.ax (R.map wm)),.q (wm r),.q (.int k),q,t,e,f,h,i];have H:insB [a,.J p,b,c,d,.q (.ax (R.map wm)),.q (wm r),u,q,t,e,f,h,i]=U (.nx [a,.J o,b,c,d,.q (.ax (w.map wm)),.q (wm r),.q (.int k),q,t,e,f,h,i]):=by
   calc(ve ((vK (yf J (show ab (c2 wA (c1 wW aY) aO) vG _=U ([.int ((R.map wm).length+1)],_) from J) J Q)))).t ?_;have c1:BI aY θ (vu cj) j=U ((R.map wm).take k,j):=by change U (gs (R.map wm) Z (U (k:Int)),j)=_;rw[Uh k C]
   have c2:BI aY (vu cj) θ j=U ((R.map wm).drop k,j):=by change U (gs (R.map wm) (U (k:Int)) Z,j)=_;rw[acB k C]
   refine(vK (wq (xM (wq (xM (wq c1) (wq (BF J (by change 1<=1000;decide))) ?_)) (wq c2) ?_))).t ?_
   .rw[bJ,ah];simp;omega
   .rw[aH,bJ,cJ,ah];simp;omega
   .change U (mn.nx [a,.J o,b,c,d,.q (.ax ((R.map wm).take k++[wm r]++(R.map wm).drop k)),.q (wm r),.q (.int k),q,t,e,f,h,i])=_;rw[show (R.map wm).take k++[wm r]++(R.map wm).drop k=w.map wm by simp[w,gE,gA]]
  let#v[m,y,A,B,I,M,N]:=Mp l o w (.q (wm r)) (.q (.int k)) O ();calc#v[m,y,A,B,I,M.t ((G.append_right l).t (by rw[bN];show kG _)),?_];rw[aA];delta fl;rw[show gN 6 (wm r) [a,.J p,b,c,d,.q (.ax (R.map wm)),x,u,q,t,e,f,h,i]=U [a,.J p,b,c,d,.q (.ax (R.map wm)),.q (wm r),u,q,t,e,f,h,i] from J];erw[H];show N
def C'(m:Mk):L4.D:=.bx [.str m.n,.int m.st,.int m.mo]
abbrev oE:=(ab fY vG)
def mkB:FS:=(a0 (vR 10 (c2 wA aO (v9 vg 1 oE)))
 (vY (zF 8 (v8 (ab (cV 9) (ab (v9 vg 1 (ab (c2 wA (cV 10) aO) vG)) (ab (cV 10) vG)))))))
theorem Pe{a b c d p q r e f h:Sl}:∀(l:aD) (t:List L4.D) (M:List Mk) (A i:Sl),IL t->M.length+l.length<=900->∃(j:List L4.D) (z:List Mk) (F u:Sl),IL j/\z.map Mk.n=l/\(∀m∈z,m.ok)/\
  fl (gN 9) mkB (l.map D.str) [a,.J t,b,c,d,p,q,r,.J (M.map C'),A,i,e,f,h]=U (.nx [a,.J j,b,c,d,p,q,r,.J ((M++z).map C'),F,u,e,f,h])
 |[],t,M,A,i,C,_=>#v[t,[],A,i,C,J,λm X=>(b0 X).elim,by rw[bF];rfl]
 |x::l,t,M,A,i,C,W=>by
  rw[aL]at W;let#v[v,B,P,h2,h3,Q]:=xt C 3 #[];let#v[w,o,R,S,h7,T]:=xt P (1+v+1) ();let m:Mk:=#v[x,w,1+v];let Y:=[a,.J B,b,c,d,p,q,r,.J (M.map C'),.q (.str x),.q (.int (1+v)),e,f,h];let ρ2:=[a,.J o,b,c,d,p,q,r,.J (M.map C'),.q (.str x),.q (.int (1+v)),e,f,h];have G:mkB [a,.J t,b,c,d,p,q,r,.J (M.map C'),.q (.str x),i,e,f,h]=U (.nx [a,.J o,b,c,d,p,q,r,.J ((M++[m]).map C'),.q (.str x),.q (.int (1+v)),e,f,h]):=by calc(ve ((vK (vq J (yf J J J Q) J)))).t ?_;calc(wU (CD J (xV (vm J (vm ((yf J (vm (vq J J J) J) J T)) J)) (by change 3<=1000;decide)) J (by rw[ah];omega))).t ?_;change U (mn.nx [a,.J o,b,c,d,p,q,r,.J (M.map C'++[C' m]),.q (.str x),.q (.int (1+v)),e,f,h])=_;rw[show M.map C'++[C' m]=(M++[m]).map C' by rw[aZ];rfl]
  let#v[j,z,F,u,H,I,N,O]:=Pe l o (M++[m]) (.q (.str x)) (.q (.int (1+v))) R (by rw[aH,bq];omega);refine#v[j,m::z,F,u,H,by rw[aA,I],λy E=>?_,?_]
  .rcases aJ.1 E with rfl|E
   .show#v[by change 1<=1+v;omega,by change 1+v<=3;omega,S,by change w<=1+v;omega]
   .show N y E
  .rw[aA];delta fl;rw[show gN 9 (.str x) [a,.J t,b,c,d,p,q,r,.J (M.map C'),A,i,e,f,h]=U [a,.J t,b,c,d,p,q,r,.J (M.map C'),.q (.str x),i,e,f,h] from J];erw[G];rw[O,bN];rfl
abbrev oN:=(ab cz vG)
abbrev om:=oN
theorem JE{a b c d x5 x6 x7 x8 x9 x10 x11 x12 x13:Sl}:∀(l:aD) (i:List L4.D),IL i->∃(dk:aD) (e:List L4.D),dk.Sublist l/\IL e/\
  zv 1 [1] (gN 0) (cT (c2 (eo δ) (v9 vg 1 om) aO)) ae (l.map D.str) [a,.J i,b,c,d,x5,x6,x7,x8,x9,x10,x11,x12,x13]=U (dk.map D.str,[a,.J e,b,c,d,x5,x6,x7,x8,x9,x10,x11,x12,x13])
 |[],i,h=>#v[[],i,fj _,h,J]
 |x::l,i,h=>by
  let#v[v,f,r,u,w,t]:=xt h 2 #[];let#v[dk,e,m,o,p]:=JE (a:=a) (b:=b) (c:=c) (d:=d) (x5:=x5) (x6:=x6) (x7:=x7) (x8:=x8) (x9:=x9) (x10:=x10) (x11:=x11) (x12:=x12) (x13:=x13) l f r;have q:cT (c2 (eo δ) (v9 vg 1 om) aO) [.q (.str x),.pm i]=U (decide (v=1),[.q (.str x),.pm f]):=wz (vq ((yf J J J t)) J (zm δ v 1));have st:zv 1 [1] (gN 0) (cT (c2 (eo δ) (v9 vg 1 om) aO)) ae ((x::l).map D.str) [a,.J i,b,c,d,x5,x6,x7,x8,x9,x10,x11,x12,x13]=U ((if v=1 then x::dk else dk).map D.str,[a,.J e,b,c,d,x5,x6,x7,x8,x9,x10,x11,x12,x13]):=by
   rw[aA];delta zv;rw[show gN 0 (.str x) (DV 1 [1] [a,.J i,b,c,d,x5,x6,x7,x8,x9,x10,x11,x12,x13])=U [.q (.str x),.pm i] from J];erw[q];have un:yB [1] (([.q (.str x),.pm f]:aU).drop 1) [a,.J i,b,c,d,x5,x6,x7,x8,x9,x10,x11,x12,x13]=U [a,.J f,b,c,d,x5,x6,x7,x8,x9,x10,x11,x12,x13]:=rfl;by_cases j:v=1
   .rw[af j,aM j];simp only;erw[show cV 0 [.q (.str x),.pm f]=U (.str x,[.q (.str x),.pm f]) from J,un,p];rfl
   .rw[ai j,aP j];erw[un,p]
  by_cases j:v=1
  .rw[af j]at st;show#v[x::dk,e,m.cons_cons x,o,st]
  .rw[ai j]at st;show#v[dk,e,m.cons x,o,st]
def XF:L4.D:=.ax [.bx [],.bx [.str "red"],.bx [.str "old", .str "red"]]
def Xl(j:Nat)(h:j<3):∃m∈JB,e7 XF (.int j)=U (.bx (m.map D.str)):=by
 match j,h with
 |0,_=>show#v[[],by decide,J]
 |1,_=>show#v[["red"],by decide,J]
 |2,_=>show#v[["old", "red"],by decide,J]
def Th.rw(t:Th):Rw:=#v[t.n,t.k,t.s]
def ξ(t:Th):L4.D:=.bx (t.w.map D.str)
abbrev lC:=(ab ae vG)
def wElt:FE:=(FQ (v8 lC) (c2 e7 aB (v9 vg 4 oE)))
theorem Ib{a b c d x5 x6 x7 x8 x9 x10 x11 x13:Sl}:∀(R:List Rw) (l:List L4.D),IL l->∃(T:List Th) (i:List L4.D),T.map Th.rw=R/\(∀t∈T,∃m∈JB,t.w=t.n::m)/\IL i/\
  zv 3 [12,1] (gT eQ 3) wJ wElt (R.map wm) [a,.J l,b,c,d,x5,x6,x7,x8,x9,x10,x11,.q XF,x13]=U (T.map ξ,[a,.J i,b,c,d,x5,x6,x7,x8,x9,x10,x11,.q XF,x13])
 |[],l,h=>#v[[],l,J,λt H=>(b0 H).elim,h,J]
 |r::R,l,h=>by
  let#v[v,e,E,F,I,G]:=xt h 3 #[];let#v[j,rfl]:=cW F;let#v[m,p,y]:=Xl j ();let#v[T,i,z,A,B,C]:=Ib (a:=a) (b:=b) (c:=c) (d:=d) (x5:=x5) (x6:=x6) (x7:=x7) (x8:=x8) (x9:=x9) (x10:=x10) (x11:=x11) (x13:=x13) R e E;let t:Th:=#v[r.n,r.n::m,r.k,r.s];have hml:=by
   have:∀m∈JB,cD m<=2:=by decide
   show this m p
  refine#v[t::T,i,by rw[aA,z];rfl,λu o=>?_,B,?_]
  .rcases aJ.1 o with rfl|o
   .show#v[m,p,J]
   .show A u o
  .let f:aU:=[.q (.str r.n),.q (.str r.k.s),.q (oS r.s),.q XF,.pm l];have q:wElt f=U (ξ t,[.q (.str r.n),.q (.str r.k.s),.q (oS r.s),.q XF,.pm e]):=by have x:c2 e7 aB (v9 vg 4 oE) f=U (.bx (m.map D.str),[.q (.str r.n),.q (.str r.k.s),.q (oS r.s),.q XF,.pm e]):=vq J ((yf J J J G).t J) y;delta wElt FQ;rw[show v8 lC f=U (.bx [.str r.n],f) from J];erw[x];rw[af (by rw[ah];simp;omega)];rfl
   rw[aA];delta zv;rw[show gT eQ 3 (wm r) (DV 3 [12,1] [a,.J l,b,c,d,x5,x6,x7,x8,x9,x10,x11,.q XF,x13])=U f from J];erw[wJ,q];rw[show yB [12,1] (([.q (.str r.n),.q (.str r.k.s),.q (oS r.s),.q XF,.pm e]:aU).drop 3) [a,.J l,b,c,d,x5,x6,x7,x8,x9,x10,x11,.q XF,x13]=U [a,.J e,b,c,d,x5,x6,x7,x8,x9,x10,x11,.q XF,x13] from J];erw[C];rfl
def zD(x:Str):Rw:=#v[x,.room,Z]
def Xm(N:aD)(h:N.length=17):∃x,N[5]?=U x/\N.take 5++([x]++((N.drop 6).take 7++N.drop 13))=N:=by calc#v[N[5],aI (),?_];rw[show N.drop 13=(N.drop 6).drop 7 by rw[List.drop_drop],ic,List.singleton_append,<- iR,ic]
def Mq{c:Type}(l:List c){a b:Nat}(h:a<=b):(l.take a).Sublist (l.take b):=by
 have:l.take a=(l.take b).take a:=by rw[List.take_take,eB h]
 rw[this];show je _ _
def QI{N:aD}(h:N.length=17){y:Str}(c:N[5]?=U y){r q p:Nat}(e:r<5)(d:q<8):((N.take (1+r)++([y]++(N.drop 6).take q))++(N.drop 13).take p).Sublist N:=by let#v[x,a,b]:=Xm N h;rw[c]at a;ext a;rw[bN,bN];have:=(Mq N (show 1+r<=5 by omega)).append ((fj [y]).append ((Mq (N.drop 6) (show q<=7 by omega)).append (je p (N.drop 13))));rw[b]at this;show this
def acD{T:List Th}{R:List Rw}(h:T.map Th.rw=R){u:Rw}(a:u∈R):∃t∈T,t.rw=u:=by rw[<-h]at a;show aw.1 a
def Xo(T:List Th)(p:Kd->Bool):(T.filter λt=>p t.k).map Th.rw=(T.map Th.rw).filter λr=>p r.k:=by rw[List.filter_map];rfl
def Xp{N:aD}(hN:Nms N){y:Str}(hy:N[5]?=U y){r q p:Nat}(hr:r<5)(hq:q<8)(hp:p<5){z:Str}(hz:z∈N.take (1+r)){O:List Rw}{T:List Th}{M:List Mk}{dk:aD}
  (P:Ord (((N.take (1+r)).map zD++[#v[y,.you,U z]])++O)) (hO:O.map Rw.n=(N.drop 6).take q) (hOp:∀u∈O,u.k.pl=γ) (hT:(T.map Th.rw).Perm (((N.take (1+r)).map zD++[#v[y,.you,U z]])++O)) (hw:∀t∈T,∃m∈JB,t.w=t.n::m)
  (hM:M.map Mk.n=(N.drop 13).take p) (hMo:∀m∈M,m.ok) (hd:dk.Sublist (N.take (1+r))):fy T M dk/\(T.filter λt=>decide (t.k=.you)).map Th.n=[y]:=by
 let B:=((N.take (1+r)).map zD++[#v[y,.you,U z]])++O;have H:(N.take (1+r)).length=1+r:=by rw[bJ,hN.len];omega
 have hOl:O.length=q:=by have:=aW cD hO;rw[ah,bJ,cJ,hN.len]at this;omega
 have hMl:=by have:=aW cD hM;rw[ah,bJ,cJ,hN.len]at this;show this
 have hBl:B.length=1+r+1+q:=by erw[B,aH,ah,H,hOl,bq]
 have hTl:T.length=B.length:=by have:=hT.length_eq;rw[ah]at this;show this
 have hBn:B.map Rw.n=N.take (1+r)++([y]++(N.drop 6).take q):=by erw[B,aZ,hO,aT,bN];rw[show (Rw.n∘zD)=id from J,nO];rfl
 have hTn:T.map Th.n=(T.map Th.rw).map Rw.n:=by rw[aT];rfl
 have perm:(T.map Th.n++M.map Mk.n).Perm ((N.take (1+r)++([y]++(N.drop 6).take q))++(N.drop 13).take p):=by rw[hTn,hM,<- hBn];show(hT.map Rw.n).append_right _
 have sub:=QI hN.len hy hr hq (p:=p);have ndx:=perm.nodup_iff.2 (hN.nd.sublist sub);have nmx:=λx C=>hN.nm x (sub.subset (perm.subset C));have mu:∀u∈B,∃t∈T,t.rw=u:=λu c=>acD J (hT.mem_iff.2 c);have fwd:∀t∈T,KH B t.rw:=λt o=>P.all _ (hT.mem_iff.1 (bT o));have filt:∀a:Kd->Bool,((T.filter λt=>a t.k).map Th.rw).Perm (B.filter λu=>a u.k):=λa=>by rw[Xo];show hT.filter _
 have F:=λa=>by have:=(filt a).length_eq;rw[ah]at this;show this
 have allF:∀(a:Kd->Bool) (l:List Rw),(∀u∈l,a u.k=δ)->(l.filter λu=>a u.k)=[]:=λa l h=>List.filter_eq_nil_iff.2 λu c=>by rw[h u c];show bB
 have rooms:∀(a:Kd->Bool),∀u∈(N.take (1+r)).map zD,a u.k=a .room:=λa u c=>by let#v[x,_,rfl]:=aw.1 c;rfl
 have W1:∀u∈O,decide (u.k=.room)=δ/\decide (u.k=.you)=δ:=λu c=>by have:=hOp u c;calc#v[aP λh=>?_,aP λh=>?_]<;>rw[h]at this<;>ext this
 have fB:∀a:Kd->Bool,(B.filter λu=>a u.k)=((N.take (1+r)).map zD).filter (λu=>a u.k)++([#v[y,.you,U z]]:List Rw).filter (λu=>a u.k)++O.filter (λu=>a u.k):=λa=>by erw[B,List.filter_append]
 have one:∀(a:Kd->Bool) (b:Bool),a .you=b->([#v[y,.you,U z]]:List Rw).filter (λu=>a u.k)=if b then [#v[y,.you,U z]]else []:=λa b h=>by rw[fO,List.filter_nil];rw[h]
 have S:∀a:Kd->Bool,a .room=γ->a .you=δ->(∀u∈O,a u.k=δ)->(B.filter λu=>a u.k)=(N.take (1+r)).map zD:=λa d f i=>by rw[fB a,allF a O i,lT.2 λu c=>(rooms a u c).t d,one a δ f];simp
 have W:∀a:Kd->Bool,a .room=δ->a .you=γ->(∀u∈O,a u.k=δ)->(B.filter λu=>a u.k)=[#v[y,.you,U z]]:=λa d f i=>by rw[fB a,allF a O i,allF a _ λu c=>(rooms a u c).t d,one a γ f];rfl
 have R:∀a:Kd->Bool,a .room=δ->a .you=δ->(∀u∈O,a u.k=γ)->(B.filter λu=>a u.k)=O:=λa d f i=>by rw[fB a,lT.2 i,allF a _ λu c=>(rooms a u c).t d,one a δ f];rfl
 have fr:=S (λk=>decide (k=.room)) J J λu c=>(W1 u c).1;have I:=W (λk=>decide (k=.you)) J J λu c=>(W1 u c).2;have Q:=R Kd.pl J J hOp;have L':=(cq.1 ndx).1;let#v[rkx,Y]:=P.rank ((hT.map Rw.n).nodup_iff.1 (by rw[<-hTn];show L'));have inR:∀x∈N.take (1+r),x∈mq T:=λx C=>by let#v[t,o,e]:=mu (zD x) (bw _ (bw _ (bT C)));have d:=aW Rw.n e;have f:=aW Rw.k e;show aw.2 #v[t,bE.2 #v[o,aM f],d]
 refine#v[{
  len:=by omega
  r1:=by have:=F λk=>decide (k=.room);rw[fr,ah,H]at this;omega
  r5:=by have:=F λk=>decide (k=.room);rw[fr,ah,H]at this;omega
  y1:=by have:=F λk=>decide (k=.you);rw[I]at this;show this
  p7:=by have:=F Kd.pl;rw[Q,hOl]at this;omega
  m4:=by omega
  mo:=hMo
  nm:=nmx
  nd:=ndx
  st:=λt o=>?_
  rk:=#v[rkx,λt o=>?_]
  wd:=λt o=>#v[nmx _ (bw _ (bT o)),hw t o]
  d0:=by have:=hd.length_le;omega
  d1:=(hN.nd.sublist (je _ _)).sublist hd
  d2:=λx C=>inR x (hd.subset C) },?_]
 .let#v[n,w,k,s]:=t;rcases fwd _ o with ⟨d,f⟩|⟨d,u,c,f,i⟩|⟨d,u,c,f,i⟩
  .ext d;ext f;trivial
  .ext d;ext f;let#v[E,j,e]:=mu u c;calc aw.2 #v[E,bE.2 #v[j,aM ?_],aW Rw.n e];rw[<-i];show aW Rw.k e
  .let#v[E,j,e]:=mu u c;have mem:u.n∈hdN T:=aw.2 #v[E,bE.2 #v[j,by rw[<-i];show aW Kd.hd (aW Rw.k e)],aW Rw.n e];have G:=f;subst G;have A:=d;cases k with
   |room=>cases A
   |you=>cases A
   |plain=>show mem
   |fixed=>show mem
   |box=>show mem
   |lamp=>show mem
 .let#v[d,f]:=Y t.rw (hT.mem_iff.1 (bT o));calc#v[by rw[hTl];show d,λpq hpq=>?_];let#v[i,u,c,X]:=f pq hpq;let#v[E,j,e]:=mu u c;show#v[i,E,j,by rw[<-X,<- e];rfl]
 .have h:=filt λk=>decide (k=.you);rw[I]at h;have e:=List.perm_singleton.1 h;have:=aW (oa Rw.n) e;rw[aT]at this;show this
def wF(T:List Th)(M:List Mk)(dk:aD)(y:Str):L4.D:=.M [kS "rows", kS "marks", kS "dark", kS "words", kS "you"] [.ax (T.map λt=>wm t.rw),.ax (M.map C'),.ax (dk.map D.str),.ax (T.map ξ),.str y]
def QJ:∀l:aD,Ord (l.map zD):=λl=>by
 suffices h:∀(l k:aD),Ord (k.map zD)->Ord ((k++l).map zD) from h l [] .nil
 intro l
 induction l with
 |nil=>intro k h;rw[bF];show h
 |cons x l a=>
  intro k h;have:=a (k++[x]) (by rw[aZ];show h.snoc (.inl #v[J,J]))
  rwa [bN]at this
def Dh{e:FE}{ρ ρ1:aU}{ds:List L4.D}(h:e ρ=U (.ax ds,ρ1)):iL e ρ=U (ds,ρ1):=by delta iL;rw[h]
def Mr{x:Str}{f:FE}{r:List (Str×FE)}{ρ ρ1 a:aU}{d:L4.D}{b:List L4.D}(c:f ρ=U (d,ρ1))(e:zf r ρ1=U (b,a)):zf ((x,f)::r) ρ=U (d::b,a):=by delta zf;rw[c];erw[e]
def Xq{kfs:List (Str×FE)}{ρ ρ1:aU}{a:List L4.D}(h:zf kfs ρ=U (a,ρ1)):CG kfs ρ=U (.M (kfs.map λq=>kS q.1) a,ρ1):=by delta CG;rw[h];rfl
def mut1{t f:List L4.D}{n v:Int}{a i j l m o p q r b c d e:Sl}(h:vg t [.int n]=U (.int v,f)):v9 vg 1 (ab (cC (.int n)) vG) [a,.J t,i,j,l,m,o,p,q,r,b,c,d,e]=U (.int v,[a,.J f,i,j,l,m,o,p,q,r,b,c,d,e]):=
 (yf J J J h).t J
def Xr(c:Int):∃T M dk y,Dc [.int c]=U (wF T M dk y)/\fy T M dk/\(T.filter λt=>decide (t.k=.you)).map Th.n=[y]:=by
 let#v[es0,i0,X]:=Mj c 110 #[];let#v[N,es1,hN,i1,Y]:=Ug i0;let#v[r,G,i2,r0,r1,d2]:=xt i1 5 #[];let#v[r,rfl]:=cW r0;have hr:r<5:=by omega
 let rooms:=N.take (1+r);have hl:rooms.length=1+r:=by erw[rooms];rw[bJ,hN.len];omega
 let#v[i,a,i3,j0,j1,d3]:=xt i2 rooms.length ();let#v[i,rfl]:=cW j0;have o:i<rooms.length:=by omega
 have P:5<N.length:=by rw[hN.len];decide
 let y:=N[5];let z:=rooms[i];have W:=cG o;let B:=rooms.map zD++[#v[y,.you,U z]];have hB:Ord B:=(QJ rooms).snoc (.inr (.inl #v[J,zD z,bT W,J,J]));let#v[q,e,O,hq,i4,hO,hOn,hOp,d4]:=QH hN B i3 hB (rooms:=rooms) () λx u=>by
  rcases bt.1 u with u|u
  .show#v[zD x,bw _ (bT u),J,J]
  .rw[aN]at u;show#v[#v[y,.you,U z],bG _ (aN.2 J),u.symm,J]
 have hOl:=by have:=aW cD hOn;rw[ah,bJ]at this;omega
 have hBl:B.length<=6:=by erw[B,aH,ah,bq];omega
 let#v[es5,R,A,C,i5,hR,d5]:=Mp (B++O) e [] .un .un i4 (by rw[aH];simp;omega);rw[bQ]at hR;let#v[p,w,i6,p0,p1,d6]:=xt i5 5 #[];let#v[p,rfl]:=cW p0;let#v[H,M,Q,j,i7,hMn,hMo,d7]:=Pe ((N.drop 13).take p) w [] .un .un i6 (by rw[bJ,cJ,hN.len];simp;omega);rw[bQ]at d7;let#v[dk,I,hdk,i8,d8]:=JE rooms H i7;let#v[T,f,hT,hw,i9,d9]:=Ib R I i8;let#v[g1,g2]:=Xp hN (aI P) hr hq () W hO hOn hOp (hT▸hR) hw hMn hMo hdk;calc#v[T,M,dk,y,vA (ρ:=[.q (.int c),.J f,.q (.ax (N.map D.str)),.q (.ax (rooms.map D.str)),.q (.ax (B.map wm)),.q (.ax (R.map wm)),A,C,.q (.ax (M.map C')),Q,j,.q (.ax (dk.map D.str)),.q XF,.q (.ax (T.map ξ))]) J ?_,g1,g2];calc(ve ((BE (vn J X)))).t ?_;calc(ve ((vK (yf J J J Y)))).t ?_;have cutE:∀{lo o:FO} {ρ ρ1 m:aU} {l h:Option Int},cV 2 ρ=U (.ax (N.map D.str),ρ)->lo ρ=U (l,ρ1)->o ρ1=U (h,m)->BI az lo o ρ=U (gs (N.map D.str) l h,m):=λ{lo o ρ ρ1 m l h} h1 h2 h3=>by delta BI;erw[h1,h2,h3]
 have addE:∀{k:Nat} {v:Nat} {n:Int} {ρ ρ1:aU},v9 vg 1 (ab (cC (.int n)) vG) ρ=U (.int v,ρ1)->vu (c2 wA (cC (.int k)) (v9 vg 1 (ab (cC (.int n)) vG))) ρ=U (U ((k+v:Nat):Int),ρ1):=λ{k v n ρ ρ1} h=>by delta vu;rw[vq (z:=.int ((k+v:Nat):Int)) J h (by change U (D.int ((k:Int)+(v:Int)))=_;congr 2)]
 refine(ve (ρ':=[.q (.int c),.J G,.q (.ax (N.map D.str)),.q (.ax (rooms.map D.str)),.un,.un,.un,.un,.un,.un,.un,.un,.un,.un]) ((vK (wq (cutE J J (addE (mut1 d2))))).t ?_)).t ?_
 .rw[Uh (1+r) (by rw[ah,hN.len];omega),<- gE];rfl
 let ρ3:List L4.D->aU:=λE=>[.q (.int c),.J E,.q (.ax (N.map D.str)),.q (.ax (rooms.map D.str)),.un,.un,.un,.un,.un,.un,.un,.un,.un,.un];refine(ve (ρ':=[.q (.int c),.J a,.q (.ax (N.map D.str)),.q (.ax (rooms.map D.str)),.q (.ax (B.map wm)),.un,.un,.un,.un,.un,.un,.un,.un,.un]) ((vK (wq (xM
  (wq (Cn D.str (λx=>wm (zD x)) rooms J () λx s=>#v[_,_,J,J,J]))
  (wq (BF (vm (xV (vm (vq J J (yn (aI P))) (vm J (vm (vq J ((yf J (by change U ([D.int ((rooms.map D.str).length:Nat)],_)=_;rw[ah]) J d3)) (yn (aI o))) J))) (by change 3<=1000;decide)) J) (by change 1<=1000;decide))) (by rw[ah];simp;omega)))).t ?_)).t ?_
 .change U (mn.nx [.q (.int c),.J a,.q (.ax (N.map D.str)),.q (.ax (rooms.map D.str)),.q (.ax ((rooms.map λx=>wm (zD x))++[wm #v[y,.you,U z]])),.un,.un,.un,.un,.un,.un,.un,.un,.un])=_;rw[show (rooms.map λx=>wm (zD x))++[wm #v[y,.you,U z]]=B.map wm by erw[B,aZ,aT];rfl]
 calc(ve J).t ?_;let b:List L4.D->aU:=λE=>[.q (.int c),.J E,.q (.ax (N.map D.str)),.q (.ax (rooms.map D.str)),.q (.ax (B.map wm)),.q (.ax []),.un,.un,.un,.un,.un,.un,.un,.un];refine(ve ((wZ (ρ1:=b e) ?_).t d5)).t ?_
 .have em:wY xU 1 (ab az (ab aB vG)) (b a)=U (.ax (O.map wm),b e):=by
   change (match xU a [.ax (N.map D.str),.ax (rooms.map D.str)]with
    |some (d,F)=>U (d,putAt (b a) 1 F)
    |none=>Z)=_
   rw[d4];rfl
  show(Dh (wq (xM J em (by rw[ah,ah];omega)))).t (by rw[<-aZ])
 calc(ve J).t ?_;refine(ve ((wZ (ρ1:=[.q (.int c),.J w,.q (.ax (N.map D.str)),.q (.ax (rooms.map D.str)),.q (.ax (B.map wm)),.q (.ax (R.map wm)),A,C,.J [],.un,.un,.un,.un,.un]) ?_).t d7)).t ?_
 .calc(Dh (wq (cutE (l:=U ((13:Nat):Int)) J J (addE (mut1 d6))))).t ?_;have ec:gs (N.map D.str) (U ((13:Nat):Int)) (U ((13+p:Nat):Int))=((N.drop 13).take p).map D.str:=by rw[Pd 13 p (by rw[ah,hN.len];omega),gE,gA]
  rw[ec]
 calc(ve ((vK (wq ((BG J (by rw[ah];omega)).t d8))))).t ?_;calc(ve J).t ?_;have hRl:=by have:=hR.length_eq;rw[aH]at this;omega
 calc(ve ((vK (wq ((BG J (by rw[ah];omega)).t d9))))).t ?_;calc vF ?_;have eN:c2 e7 az fI [.q (.int c),.J f,.q (.ax (N.map D.str)),.q (.ax (rooms.map D.str)),.q (.ax (B.map wm)),.q (.ax (R.map wm)),A,C,.q (.ax (M.map C')),Q,j,.q (.ax (dk.map D.str)),.q XF,.q (.ax (T.map ξ))]=U (.str y,[.q (.int c),.J f,.q (.ax (N.map D.str)),.q (.ax (rooms.map D.str)),.q (.ax (B.map wm)),.q (.ax (R.map wm)),A,C,.q (.ax (M.map C')),Q,j,.q (.ax (dk.map D.str)),.q XF,.q (.ax (T.map ξ))]):=vq J J (yn (aI P));have eT:R.map wm=T.map λt=>wm t.rw:=by rw[<-hT,aT];rfl
 delta wF;rw[<-eT];show Xq (Mr J (Mr J (Mr J (Mr J (Mr eN J)))))
theorem Ui:∀T:List Th,EC (T.map λt=>wm t.rw) (T.map ξ)=T.map λt=>D.bx [wm t.rw,ξ t]
 |[]=>rfl
 |t::T=>by have:=Ui T;delta EC at this ⊢;rw[aA,aA,fK,this];rfl
def Xs{T:List Th}{M:List Mk}{dk:aD}{y:Str}(g:fy T M dk):Dd [wF T M dk y]=U (vx T):=by
 have p:=g.len;let h:=wF T M dk y;let b:aU:=[.q h,.q (.ax ((mq T).map D.str))];have f:1<=(mq T).length:=by have:=g.r1;delta mq;rw[ah];show this
 have d:e7 (.ax ((mq T).map D.str)) (.int 0)=U (.str ((mq T).headD "")):=by
  calc yn ?_;cases e:mq T with
  |nil=>rw[e]at f;cases f
  |cons a r=>rfl
 have j:e7 (.ax ((mq T).map D.str)) (.int (((mq T).length:Int) - 1))=U (.str ((mq T).getLastD "")):=by rw[show ((mq T).length:Int) - 1=(((mq T).length - 1:Nat):Int) by omega];calc yn ?_;rw[oV,List.getLast?_eq_getElem?,aI ()];rfl
 calc DX (ρ:=b) J ?_;have c:=Cb (k:=3) (eh:=[]) (g:=gT eQ 3) (ft:=cT (c2 (eo δ) ao gX)) (fe:=cV 0) (s:=iL (c2 wX ae (cC (.str "rows")))) (λt:Th=>wm t.rw) (λt=>D.str t.n) (λt=>decide (t.k=.room)) T (ρ:=[.q h,.un]) J () λt z=>#v[[.q (.str t.n),.q (.str t.k.s),.q (oS t.s)],[.q (.str t.n),.q (.str t.k.s),.q (oS t.s)],J,wz (vq J J (EY t.k .room)),λz=>#v[_,J,J],λz=>J]
 refine(ve (ρ':=b) ((vK (wq c)).t ?_)).t ?_
 .have:((T.filter λt=>decide (t.k=.room)).map λt=>D.str t.n)=(mq T).map D.str:=by delta mq;rw[aT];rfl
  rw[this];rfl
 have i:c1 wW ao b=U (.int ((mq T).length:Int),b):=wg J (by change U (D.int _)=_;rw[ah]);calc AD (BF (vm (xV (vm (vq J J d) (vm J (vm (vq J (vq i J J) j) J))) (cB J)) (vm (xV (vm (vq J J d) (vm J (vm (vq J J d) J))) (cB J)) J)) (cB J))
def Uj{T:List Th}{M:List Mk}{dk:aD}{y:Str}(g:fy T M dk)(c:(T.filter λt=>decide (t.k=.you)).map Th.n=[y]){b:L4.D}(emo:xQ [TD T,MD M]=U b):B7 [wF T M dk y]=U (.obj 14 wNs (wDs T M dk y b)):=by
 have e:=Ub g y c emo;have f:=g.len;have h:=g.m4;let a:=wF T M dk y;calc vA (ρ:=[.q a,.q (TD T),.q (MD M)]) J ?_;refine(ve ((vK (wq (Cn (λt=>D.bx [wm t.rw,ξ t]) ff T (ρ1:=[.q a,.un,.un]) ?_ () λt z=>#v[[.q (wm t.rw),.q (ξ t)],[.q (wm t.rw),.q (ξ t)],J,J,J]))))).t ?_
 .change U (EC (T.map λt=>wm t.rw) (T.map ξ),[Sl.q a,.un,.un])=_;rw[Ui]
 calc(ve ((vK (wq (Cn C' W' M J () λm z=>#v[[.q (.str m.n),.q (.int m.st),.q (.int m.mo)],[.q (.str m.n),.q (.int m.st),.q (.int m.mo)],J,J,J]))))).t ?_;show vF (Kc (vm J (vm J (vm J (vm (wq (vn J (Xs g))) J)))) e)
def fu(T:List Th)(p:Kd->Bool):aD:=(T.filter λt=>p t.k).map Th.n
def t6{T:List Th}{M:List Mk}{dk:aD}{y:Str}(f:T.length<=900){K:L4.D}(p:Kd->Bool)(b:∀k:Kd,k? δ (.str k.s) K=U (.bl (p k))):wV [wF T M dk y,K]=U ((fu T p).map D.str):=by
 let a:=wF T M dk y;calc DX (ρ:=[.q a,.q K]) J ?_;have:=Cb (k:=3) (eh:=[1]) (g:=gT eQ 3) (ft:=cT (c2 (k? δ) ao aB)) (fe:=cV 0) (s:=iL (c2 wX ae (cC (.str "rows")))) (λt:Th=>wm t.rw) (λt=>D.str t.n) (λt=>p t.k) T (ρ:=[.q a,.q K]) J () λt z=>#v[[.q (.str t.n),.q (.str t.k.s),.q (oS t.s),.q K],[.q (.str t.n),.q (.str t.k.s),.q (oS t.s),.q K],J,wz (vq J J (b t.k)),λz=>#v[_,J,J],λz=>J]
 calc AD (this.t ?_);delta fu;rw[aT];rfl
def aeG(k:Kd):k? δ (.str k.s) (.ax [.str "box", .str "lamp"])=U (.bl k.mk):=by ext k<;>kernel_rfl
def aeH(k:Kd):k? δ (.str k.s) (.ax [.str "room", .str "you"])=U (.bl !k.pl):=by ext k<;>kernel_rfl
#print "Uk box;Xt room" in def ϑ0(k:Kd):k? δ (.str k.s) (.ax [.str "ϑ1"])=U (.bl (decide (k=.ϑ1))):=by ext k<;>kernel_rfl
def Kd.ot:Kd->Bool
 |.plain=>γ|.fixed=>γ|.lamp=>γ|_=>δ
def aeI(k:Kd):k? δ (.str k.s) (.ax [.str "plain", .str "fixed", .str "lamp"])=U (.bl k.ot):=by ext k<;>kernel_rfl
def wx(T:List Th)(p:Kd->Bool):(fu T p).Sublist (T.map Th.n):=u6 _ List.filter_sublist
abbrev vj(V:List (Str×Int)):L4.D:=.M (V.map λq=>kS q.1) (V.map λq=>D.int q.2)
def ov(T:List Th)(M:List Mk):List (Str×Int):=((fu T Kd.mk).map λx=>(x,(1:Int)))++M.map λm=>(m.n,m.mo)
def Ie{T:List Th}{M:List Mk}{dk:aD}{y:Str}(g:fy T M dk):∃V:List (Str×Int),yu [wF T M dk y]=U (vj V)/\V.map aj=fu T Kd.mk++M.map Mk.n/\(∀q∈V,1<=q.2)/\V=ov T M:=by
 have w:=g.len;have S:=g.m4;let f:=wF T M dk y;have r:(fu T Kd.mk++M.map Mk.n).Nodup:=g.nd.sublist ((wx T _).append (fj _));have ndk:=by have:=yL r;rw[aZ,aT]at this;show this
 have hln:=by have:=(wx T Kd.mk).length_le;rw[ah]at this;omega
 let#v[Q,t]:=Bq (g:=gN 2) (i:=1) (fk:=cV 2) (fv:=cC (.int 1)) D.str id (λv=>D.int 1) (λd e s=>[.q f,.dk d e,s,.un,.un])
  (λx d e s=>#v[[.q f,.dk d e,.q (.str x),.un,.un],J,J,J,J,λN A=>#v[_,J]]) (fu T Kd.mk) [] [] .un (by rw[bQ];show(cq.1 ndk).1) (by simp;omega) J
 rw[bQ,bQ]at t;have ma:∀(l:List Mk) (d:List ef) (e:List L4.D) (a b c:Sl),(d++l.map λm=>kS m.n).Nodup->d.length+l.length<=1000->e.length=d.length->∃j o p,fl (gT oA 3) (wK 1 az aF) (l.map C') [.q f,.dk d e,a,b,c]=U (.nx [.q f,.dk (d++l.map λm=>kS m.n) (e++l.map λm=>D.int m.mo),j,o,p]):=by
  intro l
  induction l with
  |nil=>intro d e a b c _ _ _;show#v[a,b,c,by rw[cf,cf,cf,bF,bF];rfl]
  |cons m l I=>
   intro d e a b c r w u;rw[aL]at w;have G:=λz=>by rw[cq]at r;show r.2.2 _ z _ (by rw[aA];show aX) J
   let#v[j,o,p,h]:=I (d++[kS m.n]) (e++[.int m.mo]) (.q (.str m.n)) (.q (.int m.st)) (.q (.int m.mo)) (by rw[bN];show r) (by rw[aH,bq];omega) (by rw[aH,aH,u,bq,bq]);calc#v[j,o,p,?_];rw[aA];delta fl;rw[show gT oA 3 (C' m) [.q f,.dk d e,a,b,c]=U [.q f,.dk d e,.q (.str m.n),.q (.int m.st),.q (.int m.mo)] from J];erw[Dg (i:=1) (fk:=cV 2) (fv:=cV 4) (ρ:=[.q f,.dk d e,.q (.str m.n),.q (.int m.st),.q (.int m.mo)]) J J J G () u];calc h.t ?_;rw[aA,aA,bN,bN];rfl
 let#v[j,o,p,B]:=ma M ((fu T Kd.mk).map kS) ((fu T Kd.mk).map λv=>D.int 1) Q .un .un ndk (by rw[ah];omega) (by rw[ah,ah]);let V:=((fu T Kd.mk).map λx=>(x,(1:Int)))++M.map λm=>(m.n,m.mo);refine#v[V,vA (ρ:=[.q f,.q (vj V),j,o,p]) J ?_,?_,λq H=>?_,J]
 .delta B8;calc(ve J).t ?_;calc(ve ((wZ (Dh (wq (vn J (t6 () Kd.mk aeG))))).t t)).t ?_;calc(ve ((wZ J).t B)).t ?_;have O:V.map (λq=>kS q.1)=(fu T Kd.mk).map kS++M.map λm=>kS m.n:=by erw[V,aZ,aT];rfl
  have P:V.map (λq=>D.int q.2)=((fu T Kd.mk).map λv=>D.int 1)++M.map λm=>D.int m.mo:=by erw[V,aZ,aT];rfl
  delta vj;rw[O,P];rfl
 .erw[V,aZ,aT];rw[show (aj∘λx:Str=>(x,(1:Int)))=id from J,nO];rfl
 .rcases bt.1 H with h|h
  .let#v[x,_,rfl]:=aw.1 h;show sv _
  .let#v[m,F,rfl]:=aw.1 h;show(g.mo m F).1
def NT{e:FE}{ρ ρ1:aU}{b:List ef}{a:List L4.D}(h:e ρ=U (.M b a,ρ1)):ω e ρ=U (EC (b.map Nk) a,ρ1):=by delta ω;rw[h]
theorem FC:∀V:List (Str×Int),EC ((V.map λq=>kS q.1).map Nk) (V.map λq=>D.int q.2)=V.map λq=>D.bx [.str q.1,.int q.2]
 |[]=>rfl
 |q::V=>by have:=FC V;delta EC at this ⊢;rw[aA,aA,aA,fK,this];rfl
abbrev oq:=(ab (c2 wA aF aO) vG)
def Ul{T:List Th}{M:List Mk}{dk:aD}{y:Str}(g:fy T M dk){d:List L4.D}(t:IL d):∃(V:List (Str×Int)) (c:List L4.D),IL c/\yw d [wF T M dk y]=U (vj V,c)/\V.map aj=fu T Kd.mk++M.map Mk.n/\∀p∈V,∃q∈ov T M,p.1=q.1/\0<=p.2/\p.2<=q.2:=by
 let#v[w,O,G,Y,w0]:=Ie g;let h:=wF T M dk y;have u:(fu T Kd.mk++M.map Mk.n).Nodup:=g.nd.sublist ((wx T _).append (fj _));have hln:w.length<=204:=by have E:=aW cD G;have Q:=(wx T Kd.mk).length_le;have h3:=g.len;have H:=g.m4;rw[ah,aH,ah]at E;rw[ah]at Q;omega
 have ma:∀(l:List (Str×Int)) (d:List L4.D) (e:List ef) (f:List L4.D) (a b:Sl),IL d->(∀q∈l,1<=q.2)->(e++l.map λq=>kS q.1).Nodup->e.length+l.length<=1000->f.length=e.length->∃(V:List (Str×Int)) (c:List L4.D) (o r:Sl),IL c/\V.map aj=l.map aj/\(∀p∈V,∃q∈l,p.1=q.1/\0<=p.2/\p.2<=q.2)/\
   fl (gT k8 2) (wK 2 aB (v9 vg 1 oq)) (l.map λq=>D.bx [.str q.1,.int q.2]) [.q h,.pm d,.dk e f,a,b]=U (.nx [.q h,.pm c,.dk (e++V.map λq=>kS q.1) (f++V.map λq=>D.int q.2),o,r]):=by
  intro l
  induction l with
  |nil=>intro d e f a b t _ _ _ _;show#v[[],d,a,b,t,J,λp j=>(b0 j).elim,by rw[cf,cf,cf,bF,bF];rfl]
  |cons q l X=>
   intro d e f a b t j u R I;rw[aL]at R;have N:=j q aX;let#v[v,m,E,F,W,H]:=xt t (q.2+1) ();have S:=λz=>by rw[cq]at u;show u.2.2 _ z _ (by rw[aA];show aX) J
   let#v[V,c,o,r,A,B,C,x]:=X m (e++[kS q.1]) (f++[.int v]) (.q (.str q.1)) (.q (.int q.2)) E (λq N=>j q (bg _ N)) (by rw[bN];show u) (by rw[aH,bq];omega) (by rw[aH,aH,I,bq,bq]);refine#v[(q.1,v)::V,c,o,r,A,by rw[aA,aA,B],λp j=>?_,?_]
   .rcases aJ.1 j with rfl|j
    .show#v[q,aX,J,F,by change v<=q.2;omega]
    .let#v[q',c1,c2]:=C p j;show#v[q',bg _ c1,c2]
   rw[aA];delta fl;rw[show gT k8 2 (.bx [.str q.1,.int q.2]) [.q h,.pm d,.dk e f,a,b]=U [.q h,.pm d,.dk e f,.q (.str q.1),.q (.int q.2)] from J];have P:v9 vg 1 oq [.q h,.pm d,.dk e f,.q (.str q.1),.q (.int q.2)]=U (.int v,[.q h,.pm m,.dk e f,.q (.str q.1),.q (.int q.2)]):=(yf J (vm (vq J J J) J) J H).t J;have st:wK 2 aB (v9 vg 1 oq) [.q h,.pm d,.dk e f,.q (.str q.1),.q (.int q.2)]=U (.nx [.q h,.pm m,.dk (e++[kS q.1]) (f++[.int v]),.q (.str q.1),.q (.int q.2)]):=by have:=Dg (i:=2) (fk:=cV 3) (fv:=cC (.int v)) (ρ:=[.q h,.pm m,.dk e f,.q (.str q.1),.q (.int q.2)]) J J J S () I;delta wK at this ⊢;rw[P];show this
   erw[st];calc x.t ?_;rw[aA,aA,bN,bN];rfl
 have ndV:(([]:List ef)++w.map λq=>kS q.1).Nodup:=by have:=yL (l:=w.map aj) (by rw[G];show u);rw[aT]at this;rw[bQ];show this
 let#v[V,c,o,r,A,B,C,x]:=ma w d [] [] .un .un t Y ndV (by simp;omega) J;rw[bQ,bQ]at x;calc#v[V,c,A,?_,by rw[B,G],λp j=>w0▸C p j];have run:B9 (L? 5 d [h])=U (.rt (vj V) [.q h,.pm c,.q (vj V),o,r]):=by calc(ve J).t ?_;calc(ve ((wZ ?_).t x));show(NT (vn (ρ1:=[.q h,.pm d,.dk [] [],.un,.un]) J O)).t (by rw[FC])
 delta yw z5;rw[af (show [h].length=1 from J),run];rfl
abbrev nj(A:List (Str×Str)):L4.D:=.M (A.map λq=>kS q.1) (A.map λq=>D.str q.2)
structure Pl(y:Str)(rm:aD)(A:List (Str×Str))(Hs:aD)(rk:Str->Nat)(m:Nat):Prop where
 nd:(A.map aj).Nodup
 lt:∀q∈A,rk q.2<rk q.1/\rk q.1<m
 vh:∀q∈A,q.2∈Hs
 hs:∀h∈Hs,rk h<m
 ry:rk y=1
 rr:∀x∈rm,rk x=0
def Pl.add{y:Str}{o:aD}{A:List (Str×Str)}{i:aD}{t:Str->Nat}{m:Nat}(P:Pl y o A i t m){x h:Str}(j:h∈i)(p:x∉A.map aj)(u:x∉i)(w:x≠y)(B:x∉o)(f:aD)(hH:∀z∈f,z∈i\/z=x)(hS:∀z∈i,z∈f):
  ∃l,Pl y o (A++[(x,h)]) f l (m+1):=by
 have ne:∀z∈i,z≠x:=λz d e=>u (e▸d);refine#v[λz=>if z=x then m else t z,?_,λq c=>?_,λq c=>?_,λz d=>?_,?_,λz d=>?_]
 .rw[aZ,cq];calc#v[P.nd,by simp,λa C b r=>?_];erw[aA,cf,aN]at r;subst r;show λe=>p (e▸C)
 .rcases bt.1 c with c|c
  .let#v[a,b]:=P.lt q c;rw[ai (ne _ (P.vh q c)),ai (show ¬q.1=x from λe=>p (e▸bT c))];show#v[a,by omega]
  .rw[aN]at c;subst c;rw[ai (ne h j),af J];show#v[P.hs h j,by omega]
 .rcases bt.1 c with c|c
  .show hS _ (P.vh q c)
  .rw[aN]at c;subst c;show hS _ j
 .by_cases e:z=x
  .rw[af e];omega
  .rw[ai e];rcases hH z d with d|d
   .have:=P.hs z d;omega
   .show au d e
 .rw[ai (λe=>w e.symm)];show P.ry
 .rw[ai (show ¬z=x from λe=>B (e▸d))];show P.rr z d
theorem Ig{b:Type}:∀(l:List b) (j:Nat) (h:j<l.length),(l[j]::l.eraseIdx j).Perm l
 |a::l,0,_=>kG _
 |a::l,j+1,h=>(List.Perm.swap a _ _).t ((Ig l j (by exists h)).cons a)
theorem JF{b c:Type}(f:b->c):∀(l:List b) (j:Nat),(l.map f).eraseIdx j=(l.eraseIdx j).map f
 |[],j=>rfl
 |a::l,0=>rfl
 |a::l,j+1=>by change f a::(l.map f).eraseIdx j=_;rw[JF f l j];rfl
def KJ{i:Nat}{c fv:FE}{ρ ρ1:aU}{a:List ef}{b:List L4.D}{x:Str}{d:L4.D}(e:fv ρ=U (d,ρ1))(f:ρ1[i]?=U (.dk a b))(h:c ρ1=U (.str x,ρ1))(m:kS x∉a)(l:a.length<1000)(j:b.length=a.length):
  wK i c fv ρ=U (.nx (ρ1.set i (.dk (a++[kS x]) (b++[d])))):=by
 have:=Dg (fv:=cC d) J f h m l j;delta wK at this ⊢;rw[e];show this
def NU{A:List (Str×Str)}{x:Str}(h:x∉A.map aj):kS x∉A.map λq=>kS q.1:=λz=>by let#v[q,a,e]:=aw.1 z;show h (aw.2 #v[q,a,D8 e])
abbrev ro(A:List (Str×Str)):Sl:=.dk (A.map λq=>kS q.1) (A.map λq=>D.str q.2)
def Ih(A:List (Str×Str))(x h:Str):Sl.dk ((A.map λq=>kS q.1)++[kS x]) ((A.map λq=>D.str q.2)++[.str h])=ro (A++[(x,h)]):=by delta ro;rw[aZ,aZ];rfl
theorem Du:∀a:aD,CA (a.map D.str)=U (a.map L3.Dq.str)
 |[]=>rfl
 |x::a=>by rw[aA];delta CA;rw[Du a];rfl
def Ms(x:Str)(a:aD):eo γ (.ax ((x::a).map D.str)) (.ax [])=U (.bl γ):=by
 have b:Hl γ (.ax ((x::a).map D.str)) (.ax [])=Z:=rfl;have c:p? (.ax ((x::a).map D.str))=U (.ax ((x::a).map L3.Dq.str)):=by delta p?;rw[Du]
 have d:ij (.ax ((x::a).map L3.Dq.str))=1:=by rw[ij,Bc]
 delta eo;rw[b];delta M5;rw[c,show p? (.ax [])=U (.ax []) from J];change (if Lh (.ax ((x::a).map L3.Dq.str)) (.ax [])&&decide (ij (.ax ((x::a).map L3.Dq.str))<=20)&&decide (ij (.ax [])<=20)then U (D.bl !(n3 (.ax ((x::a).map L3.Dq.str)) (.ax [])))else Z)=_;rw[d];rfl
def YI:FT:=DI (cT (c2 (eo γ) aF (cL (vL vG))))
abbrev ou:=(ab (Et (c1 wW aB)) vG)
def YJ:FS:=(a0 (vR 5 (DZ 4 (v9 vg 1 lr)))
 (a0 (wK 2 aY (Fd 3 (v9 vg 1 ou)))
 (vY (zF 3 aY))))
theorem Mt(l:L4.D)(y:Str)(H:aD):∀(n:Nat) (d:aD) (u:List L4.D) (A:List (Str×Str)) (a:aD) (G:Str->Nat) (m f:Nat) (r:Sl),d.length=n->n<f->IL u->Pl y H A a G m->a≠[]->d.Nodup->(∀b∈d,b∉A.map aj/\b∉a/\b≠y/\b∉H)->A.length+n<=900->a.length+n<=900->
  ∃(B:List L4.D) (E:List (Str×Str)) (t:aD) (C:Str->Nat) (O:Sl),IL B/\Pl y H E t C (m+n)/\(∀z∈t,z∈a\/z∈d)/\(∀z∈a,z∈t)/\(∀z∈E.map aj,z∈A.map aj\/z∈d)/\E.length=A.length+n/\t.length<=a.length+n/\
   K' YI YJ f [.q l,.pm u,ro A,.J (a.map D.str),.J (d.map D.str),r,.un,.un]=U (.nx [.q l,.pm B,ro E,.J (t.map D.str),.J [],O,.un,.un])
 |0,d,u,A,a,G,m,f+1,r,F,_,I,P,_,_,_,_,_=>by
  cases d with
  |cons b d=>cases F
  |nil=>show#v[u,A,a,G,r,I,P,λz p=>.inl p,λz p=>p,λz p=>.inl p,J,aG _,J]
 |n+1,d,u,A,a,G,m,f+1,r,F,hf,I,P,h0,nd,fr,hA,hHl=>by
  let#v[v,w,i1,v0,v1,X]:=xt I d.length ();let#v[j,rfl]:=cW v0;have M:j<d.length:=by omega
  let b:=d[j];let o:=d.eraseIdx j;have perm:(b::o).Perm d:=Ig d j M;have ndb:=perm.nodup_iff.2 nd;have hbm:=cG M;let#v[R,f2,f3,f4]:=fr b hbm;have hbl:o.length=n:=by have:=perm.length_eq;rw[aL]at this;omega
  let Q:=[.q l,.pm w,ro A,.J (a.map D.str),.J (o.map D.str),.q (.str b),.un,.un];let#v[h,x,hh,i2,Y]:=KI (ρ:=Q) (i:=1) (j:=3) i1 h0 J J J (λs=>J);let#v[N,T]:=P.add hh R f2 f3 f4 (a++[b]) (λz p=>by
   rcases bt.1 p with p|p
   .show .inl p
   .show .inr (aN.1 p)) λz p=>bw _ p
  let#v[B,E,t,C,O,g1,g2,g3,g4,g5,g6,g7,g8]:=Mt l y H n o x (A++[(b,h)]) (a++[b]) N (m+1) f (.q (.str b)) hbl () i2 T (by simp) (cu.1 ndb).2 (λc S=>by
   let#v[q1,q2,q3,q4]:=fr c (perm.subset (bg _ S));have ne:c≠b:=λe=>(cu.1 ndb).1 (e▸S);refine#v[λz=>?_,λz=>?_,q3,q4]
   .rw[aZ]at z;rcases bt.1 z with z|z
    .show q1 z
    .show ne (by exists z)
   .rcases bt.1 z with z|z
    .show q2 z
    .show ne (aN.1 z)) (by rw[aH,bq];omega) (by rw[aH,bq];omega)
  refine#v[B,E,t,C,O,g1,by rw[show m+(n+1)=m+1+n by omega];show g2,λz p=>?_,λz p=>g4 z (bw _ p),λz p=>?_,by rw[g6,aH,bq];omega,by rw[aH,bq]at g7;omega,?_]
  .rcases g3 z p with h|h
   .rcases bt.1 h with h|h
    .show .inl h
    .show .inr (by rw[aN.1 h];show hbm)
   .show .inr (perm.subset (bg _ h))
  .rcases g5 z p with h|h
   .rw[aZ]at h;rcases bt.1 h with h|h
    .show .inl h
    .show .inr (by rw[show z=b by exists h];show hbm)
   .show .inr (perm.subset (bg _ h))
  .have et:YI [.q l,.pm u,ro A,.J (a.map D.str),.J (d.map D.str),r,.un,.un]=U (γ,[.q l,.pm u,ro A,.J (a.map D.str),.J (d.map D.str),r,.un,.un]):=by
    cases hx:d with
    |nil=>rw[hx]at F;cases F
    |cons c W=>show J1 (wz (vq J J (Ms c W)))
   have ep:DZ 4 (v9 vg 1 lr) [.q l,.pm u,ro A,.J (a.map D.str),.J (d.map D.str),r,.un,.un]=U (.str b,[.q l,.pm w,ro A,.J (a.map D.str),.J (o.map D.str),r,.un,.un]):=by have e1:Et (c1 wW aF) [.q l,.pm u,ro A,.J (a.map D.str),.J (d.map D.str),r,.un,.un]=U (.int d.length,[.q l,.pm u,ro A,.J (a.map D.str),.J (d.map D.str),r,.un,.un]):=Sn (wg J (by change U (D.int _)=_;rw[ah])) J;have e2:v9 vg 1 lr [.q l,.pm u,ro A,.J (a.map D.str),.J (d.map D.str),r,.un,.un]=U (.int j,[.q l,.pm w,ro A,.J (a.map D.str),.J (d.map D.str),r,.un,.un]):=(yf J (vm e1 J) J X).t J;delta DZ;rw[show xb [.q l,.pm u,ro A,.J (a.map D.str),.J (d.map D.str),r,.un,.un] 4=U (d.map D.str) from J];erw[e2];rw[show xb [.q l,.pm w,ro A,.J (a.map D.str),.J (d.map D.str),r,.un,.un] 4=U (d.map D.str) from J];simp only;rw[af (),ig,br,aI M];change (if (j:Int)<1000000 then U (D.str b,[Sl.q l,.pm w,ro A,.J (a.map D.str),.J ((d.map D.str).eraseIdx j),r,.un,.un])else Z)=_;rw[af (),JF]
   have e3:YJ [.q l,.pm u,ro A,.J (a.map D.str),.J (d.map D.str),r,.un,.un]=U (.nx [.q l,.pm x,ro (A++[(b,h)]),.J ((a++[b]).map D.str),.J (o.map D.str),.q (.str b),.un,.un]):=by
    calc(ve ((vK ep))).t ?_;refine(ve (ρ':=[.q l,.pm x,ro (A++[(b,h)]),.J (a.map D.str),.J (o.map D.str),.q (.str b),.un,.un]) ((KJ Y J J (NU R) (by rw[ah];omega) (by rw[ah,ah])).t ?_)).t ?_
    .change U (mn.nx [.q l,.pm x,Sl.dk ((A.map λq=>kS q.1)++[kS b]) ((A.map λq=>D.str q.2)++[.str h]),.J (a.map D.str),.J (o.map D.str),.q (.str b),.un,.un])=_;rw[Ih]
    .calc(wU (CD J J J (by rw[ah];omega))).t ?_;change U (mn.nx [.q l,.pm x,ro (A++[(b,h)]),.J (a.map D.str++[.str b]),.J (o.map D.str),.q (.str b),.un,.un])=_;rw[show a.map D.str++[D.str b]=(a++[b]).map D.str by rw[aZ];rfl]
   delta K';rw[et];erw[e3];show g8
theorem Mu(w:L4.D)(y:Str)(F:aD)(t u:Sl):∀(l:aD) (f:List L4.D) (A:List (Str×Str)) (a:aD) (E:Str->Nat) (m:Nat) (C:Sl),IL f->Pl y F A a E m->a≠[]->l.Nodup->(∀b∈l,b∉A.map aj/\b∉a/\b≠y/\b∉F)->A.length+l.length<=900->
  ∃(d:List L4.D) (B:List (Str×Str)) (r:Str->Nat) (I:Sl),IL d/\Pl y F B a r (m+l.length)/\(∀z∈B.map aj,z∈A.map aj\/z∈l)/\B.length=A.length+l.length/\
   fl (gN 6) (wK 2 bK (Fd 3 (v9 vg 1 ou))) (l.map D.str) [.q w,.pm f,ro A,.J (a.map D.str),t,u,C,.un]=U (.nx [.q w,.pm d,ro B,.J (a.map D.str),t,u,I,.un])
 |[],f,A,a,E,m,C,G,P,_,_,_,_=>#v[f,A,E,C,G,P,λz p=>.inl p,J,J]
 |b::l,f,A,a,E,m,C,G,P,N,Q,fr,hA=>by
  rw[aL]at hA;let#v[M,T,W,X]:=fr b aX;let x:=[.q w,.pm f,ro A,.J (a.map D.str),t,u,.q (.str b),.un];let#v[h,o,hh,i2,S]:=KI (ρ:=x) (i:=1) (j:=3) G N J J J (λv=>J);let#v[H,R]:=P.add hh M T W X a (λz p=>.inl p) λz p=>p;let#v[d,B,r,I,Y,g2,g5,g6,g8]:=Mu w y F t u l o (A++[(b,h)]) a H (m+1) (.q (.str b)) i2 R N (cu.1 Q).2 (λc O=>by
   let#v[q1,q2,q3,q4]:=fr c (bg _ O);have ne:c≠b:=λe=>(cu.1 Q).1 (e▸O);calc#v[λz=>?_,q2,q3,q4];rw[aZ]at z;rcases bt.1 z with z|z
   .show q1 z
   .show ne (by exists z)) (by rw[aH,bq];omega)
  refine#v[d,B,r,I,Y,by rw[aL,show m+(l.length+1)=m+1+l.length by omega];show g2,λz p=>?_,by rw[g6,aH,bq,aL];omega,?_]
  .rcases g5 z p with h|h
   .rw[aZ]at h;rcases bt.1 h with h|h
    .show .inl h
    .show .inr (by rw[show z=b by exists h];show aX)
   .show .inr (bg _ h)
  .rw[aA];delta fl;rw[show gN 6 (.str b) [.q w,.pm f,ro A,.J (a.map D.str),t,u,C,.un]=U x from J];have st:wK 2 bK (Fd 3 (v9 vg 1 ou)) x=U (.nx [.q w,.pm o,ro (A++[(b,h)]),.J (a.map D.str),t,u,.q (.str b),.un]):=by calc(KJ S J J (NU M) (by rw[ah];omega) (by rw[ah,ah])).t ?_;change U (mn.nx [.q w,.pm o,Sl.dk ((A.map λq=>kS q.1)++[kS b]) ((A.map λq=>D.str q.2)++[.str h]),.J (a.map D.str),t,u,.q (.str b),.un])=_;rw[Ih]
   erw[st];show g8
def Ea{T:List Th}(b:(T.map Th.n).Nodup){t u:Th}(c:t∈T)(d:u∈T)(e:t.n=u.n):t=u:=by
 induction T with
 |nil=>cases c
 |cons a T f=>
  rw[aA,cu]at b;rcases aJ.1 c with h1|h1<;>rcases aJ.1 d with h2|h2
  .show h1.t h2.symm
  .show au (show a.n∈T.map Th.n from h1▸e▸bT h2) b.1
  .show au (show a.n∈T.map Th.n from h2▸e▸bT h1) b.1
  .show f b.2 h1 h2
def xP{T:List Th}{p:Kd->Bool}{x:Str}(h:x∈fu T p):∃t∈T,t.n=x/\p t.k=γ:=by let#v[t,a,b]:=aw.1 h;let#v[c,d]:=bE.1 a;show#v[t,c,b,d]
def zb{T:List Th}(j:(T.map Th.n).Nodup){p q:Kd->Bool}(h:∀k,p k=γ->q k=γ->False){x:Str}(f:x∈fu T p)(i:x∈fu T q):False:=by let#v[t,a1,a,b]:=xP f;let#v[u,c,d,e]:=xP i;have:=Ea j a1 c (a.t d.symm);subst this;show h _ b e
def NV{T:List Th}{p q:Kd->Bool}(h:∀k,p k=γ->q k=γ):(fu T p).length<=(T.filter λt=>q t.k).length:=by delta fu;rw[ah,<- oP,<- oP];show List.countP_mono_left λt z a=>h _ a
theorem Pf:∀{l L:aD},l.Nodup->(∀x∈l,x∈L)->L.length<=l.length->∀x∈L,x∈l
 |[],L,_,_,b,x,c=>by rw[dr,Nat.le_zero,ib]at b;subst b;cases c
 |a::l,L,d,f,b,x,c=>by
  rw[cu]at d;have i:=f a aX;by_cases e:x=a
  .rw[e];show aX
  .calc bg _ (Pf d.2 (λz h=>(lQ (show z≠a from λw=>d.1 (w▸h))).2 (f z (bg _ h))) ?_ x ((lQ e).2 c));rw[oZ i];rw[aL]at b;omega
structure DE(A:List (Str×Str))(y:Str):Prop where
 nd:(A.map aj).Nodup
 rk:∃rk:Str->Nat,∀q∈A,rk q.2<rk q.1/\rk q.1<40
 yo:∃r,(y,r)∈A
 ln:A.length<=20
def QK{T:List Th}{M:List Mk}{dk:aD}{y:Str}(g:fy T M dk)(hy:(T.filter λt=>decide (t.k=.you)).map Th.n=[y]){W:List L4.D}(hi:IL W):∃(A:List (Str×Str)) (R:List L4.D),IL R/\DE A y/\(∀q∈A,q.2∈T.map Th.n)/\((∀x,x∈A.map aj ↔ x∈fu T λk=>!decide (k=.room))/\(∀q∈A,q.2∈fu T Kd.hd)/\∀r,(y,r)∈A->r∈fu T λk=>decide (k=.room))/\xw W [wF T M dk y]=U (nj A,R):=by
 have hl:=g.len;have I:=g.L';let C:=wF T M dk y;let l:=fu T λk=>decide (k=.room);let G:=fu T λk=>decide (k=.box);let ot:=fu T Kd.ot;let Q:=fu T λk=>!k.pl;have hyy:y∈fu T λk=>decide (k=.you):=by delta fu;rw[hy];show aN.2 J
 have hyH:y∈Q:=by let#v[t,m,f,E]:=xP hyy;calc aw.2 #v[t,bE.2 #v[m,?_],f];rw[ba E];rfl
 have yrm:∀x∈l,x≠y:=λx d e=>zb I (λk m f=>by rw[ba m]at f;ext f) (e▸d) hyy;have P0:Pl y l [] Q (λz=>if z=y then 1 else 0) 2:=#v[ir,λq c=>(b0 c).elim,λq c=>(b0 c).elim,λh s=>by split<;>omega,af J,λx d=>ai (yrm x d)];have fresh:∀(p:Kd->Bool),(∀k,p k=γ->k.pl=γ)->∀b∈fu T p,b∉Q/\b≠y/\b∉l:=λp H b i=>#v[λz=>zb I (λk m f=>by rw[H k m]at f;ext f) i z,λe=>zb I (λk m f=>by have:=H k m;rw[ba f]at this;ext this) i (e▸hyy),λz=>zb I (λk m f=>by have:=H k m;rw[ba f]at this;ext this) i z]
 have hpb:∀k:Kd,decide (k=.box)=γ->k.pl=γ:=λk h=>by rw[ba h];rfl
 have hpo:∀k:Kd,k.ot=γ->k.pl=γ:=λk h=>by ext k<;>first|rfl|ext h
 have hbl:G.length<=7:=bW (NV hpb) g.p7;have hol:ot.length<=7:=bW (NV hpo) g.p7;have hHl:Q.length<=200:=by have:=(wx T λk=>!k.pl).length_le;rw[ah]at this;show bW this hl
 let#v[Y,A1,o,rk1,N,i1,P1,E,h4,h5,h6,h7,h8]:=Mt C y l G.length G W [] Q _ 2 50 .un J () hi P0 (λe=>by rw[e]at hyH;ext hyH) (I.sublist (wx T _)) (λb i=>#v[λz=>(b0 z).elim,fresh _ hpb b i]) (by simp;omega) ();have frO:∀b∈ot,b∉G:=λb i z=>zb I (λk m f=>by rw[ba f]at m;ext m) i z;let#v[S,u,rk2,P,i2,F,q5,q6,q8]:=Mu C y l (.J []) N ot Y A1 o rk1 (2+G.length) .un i1 P1 (λe=>by have:=h4 y hyH;rw[e]at this;ext this) (I.sublist (wx T _)) (λb i=>by
  let#v[f1,f2,f3]:=fresh _ hpo b i;refine#v[λz=>?_,λz=>?_,f2,f3]
  .rcases h5 b z with z|z
   .ext z
   .show frO b i z
  .rcases E b z with z|z
   .show f1 z
   .show frO b i z) (by rw[h6];simp;omega)
 have hrl:0<l.length:=by have:=g.r1;erw[l,fu,ah];omega
 let#v[v,B,i3,v0,v1,d3]:=xt i2 l.length ();let#v[j,rfl]:=cW v0;have hj:j<l.length:=by omega
 let z:=l[j];have X:=cG hj;have hyk:y∉u.map aj:=λw=>by
  rcases q5 y w with w|w
  .rcases h5 y w with w|w
   .ext w
   .show(fresh _ hpb y w).2.1 J
  .show(fresh _ hpo y w).2.1 J
 have hA2:u.length<=14:=by rw[q6,h6];simp;omega
 refine#v[u++[(y,z)],B,i3,#v[?_,#v[rk2,λq c=>?_],#v[z,by simp],by rw[aH,bq];omega],λq c=>?_,#v[?K,?Hd,?Ry],?_]
 .rw[aZ,cq];calc#v[F.nd,by simp,λa ha b i=>?_];erw[aA,cf,aN]at i;subst i;show λe=>hyk (e▸ha)
 .rcases bt.1 c with c|c
  .let#v[a,b]:=F.lt q c;show#v[a,by omega]
  .rw[aN]at c;subst c;rw[F.rr z X,F.ry];omega
 .rcases bt.1 c with c|c
  .rcases E _ (F.vh q c)with w|w<;>show(wx T _).subset w
  .rw[aN]at c;subst c;show(wx T _).subset X
 case K=>
  have sub:∀x∈(u++[(y,z)]).map aj,x∈G++(ot++[y]):=λx d=>by
   rw[aZ]at d;rcases bt.1 d with d|d
   .rcases q5 x d with w|w
    .rcases h5 x w with w|w
     .ext w
     .show bw _ w
    .show bG _ (bw _ w)
   .show bG _ (bG _ d)
  have nd2:((u++[(y,z)]).map aj).Nodup:=by rw[aZ,cq];calc#v[F.nd,by simp,λa ha b i=>?_];erw[aA,cf,aN]at i;subst i;show λe=>hyk (e▸ha)
  have ln:(G++(ot++[y])).length<=((u++[(y,z)]).map aj).length:=by rw[ah,aH,aH,aH,q6,h6,dr,bq,bq];omega
  have all:=Pf nd2 sub ln;have w?:∀(p:Kd->Bool),(∀k,p k=γ->(!decide (k=.room))=γ)->∀x∈fu T p,x∈fu T λk=>!decide (k=.room):=λp H x d=>by let#v[t,m,f,E]:=xP d;show aw.2 #v[t,bE.2 #v[m,H _ E],f]
  intro x;constructor
  .intro d;rcases bt.1 (sub x d)with w|w
   .show w? _ (λk h=>by rw[ba h];rfl) x w
   .rcases bt.1 w with w|w
    .show w? _ (λk h=>by ext k<;>first|rfl|ext h) x w
    .rw[aN]at w;rw[w];show w? _ (λk h=>by rw[ba h];rfl) y hyy
  .intro d;let#v[t,t1,t2,t3]:=xP d;apply all;have mk:∀p:Kd->Bool,p t.k=γ->x∈fu T p:=λp h=>aw.2 #v[t,bE.2 #v[t1,h],t2];cases O:t.k with
   |room=>rw[O]at t3;cases t3
   |you=>have:=mk (λk=>decide (k=.you)) (by rw[O];rfl);delta fu at this;rw[hy]at this;show bG _ (bG _ this)
   |box=>show bw _ (mk (λk=>decide (k=.box)) (by rw[O];rfl))
   |plain=>show bG _ (bw _ (mk Kd.ot (by rw[O];rfl)))
   |fixed=>show bG _ (bw _ (mk Kd.ot (by rw[O];rfl)))
   |lamp=>show bG _ (bw _ (mk Kd.ot (by rw[O];rfl)))
 case Hd=>
  have toh:∀(p:Kd->Bool),(∀k,p k=γ->k.hd=γ)->∀x∈fu T p,x∈fu T Kd.hd:=λp H x d=>by let#v[t,m,f,E]:=xP d;show aw.2 #v[t,bE.2 #v[m,H _ E],f]
  intro q c;rcases bt.1 c with c|c
  .rcases E _ (F.vh q c)with w|w
   .show toh _ (λk h=>by ext k<;>first|rfl|ext h) _ w
   .show toh _ (λk h=>by rw[ba h];rfl) _ w
  .rw[aN]at c;subst c;show toh _ (λk h=>by rw[ba h];rfl) _ X
 case Ry=>
  intro r hr;rcases bt.1 hr with hr|hr
  .show au (aw.2 #v[_,hr,J]) hyk
  .rw[aN]at hr;ext hr;show X
 have run:A6 (L? 8 W [C])=U (.rt (nj (u++[(y,z)])) [.q C,.pm B,.q (nj (u++[(y,z)])),.J (o.map D.str),.J [],N,P,.q (.ax (l.map D.str))]):=by
  calc(ve J).t ?_;calc(ve ((BE (vn J (t6 () (λk=>!k.pl) aeH))))).t ?_;calc(ve ((BE (vn J (t6 () (λk=>decide (k=.box)) Uk))))).t ?_;calc(ve h8).t ?_;calc(ve ((wZ (Dh (wq (vn J (t6 () Kd.ot aeI))))).t q8)).t ?_;calc(ve ((vK (wq (vn J (t6 () (λk=>decide (k=.room)) Xt)))))).t ?_;have ev:c2 e7 cj (v9 vg 1 (ab (c1 wW cj) vG)) [.q C,.pm S,ro u,.J (o.map D.str),.J [],N,P,.q (.ax (l.map D.str))]=U (.str z,[.q C,.pm B,ro u,.J (o.map D.str),.J [],N,P,.q (.ax (l.map D.str))]):=
   vq J ((yf (ρ1:=[.q C,.pm S,ro u,.J (o.map D.str),.J [],N,P,.q (.ax (l.map D.str))]) J (by change U ([D.int ((l.map D.str).length:Nat)],_)=_;rw[ah]) J d3)) (yn (aI hj))
  calc(ve (ρ':=[.q C,.pm B,ro (u++[(y,z)]),.J (o.map D.str),.J [],N,P,.q (.ax (l.map D.str))]) ((KJ ev J J (NU hyk) (by rw[ah];omega) (by rw[ah,ah])).t ?_));change U (mn.nx [.q C,.pm B,Sl.dk ((u.map λq=>kS q.1)++[kS y]) ((u.map λq=>D.str q.2)++[.str z]),.J (o.map D.str),.J [],N,P,.q (.ax (l.map D.str))])=_;rw[Ih]
 delta xw z5;rw[af (show [C].length=1 from J),run];rfl
def NW{c i:Type}{f:c->i}(d:∀a b,f a=f b->a=b){l:List c}(h:l.Nodup):(l.map f).Nodup:=u4 f (λa b h e=>h (d a b e)) h
abbrev Ky:=Str×Str
def D0(q:Ky×L4.D):L4.D:=.bx [.bx [.str q.1.1,.str q.1.2],q.2]
def Xu(a b c d:Str):eo δ (.bx [.str a,.str b]) (.bx [.str c,.str d])=U (.bl (decide ((a,b)=(c,d)))):=by have e:Hl δ (.bx [.str a,.str b]) (.bx [.str c,.str d])=Z:=rfl;have f:M5 δ (.bx [.str a,.str b]) (.bx [.str c,.str d])=U (.bl (L3.n3 (.bx [.str a,.str b]) (.bx [.str c,.str d]))):=rfl;delta eo;rw[e];simp only;rw[f];congr 2;rw[dj];simp[L3.n3,L3.AS]
theorem Ii(p:Sl)(k:Ky):∀(S:List (Ky×L4.D)) (s:Sl),∃c,(∃d,(k,d)∈S/\fl (gN 2) (fx (cT (c2 (eo δ) (c2 e7 az bo) ao)) (vz (c2 e7 az aO)) vJ) (S.map D0) [p,.q (.bx [.str k.1,.str k.2]),s]=U (.rt d [p,.q (.bx [.str k.1,.str k.2]),c]))\/
  (k∉S.map aj/\fl (gN 2) (fx (cT (c2 (eo δ) (c2 e7 az bo) ao)) (vz (c2 e7 az aO)) vJ) (S.map D0) [p,.q (.bx [.str k.1,.str k.2]),s]=U (.nx [p,.q (.bx [.str k.1,.str k.2]),c]))
 |[],s=>#v[s,.inr #v[b0,J]]
 |q::S,s=>by
  have b:cT (c2 (eo δ) (c2 e7 az bo) ao) [p,.q (.bx [.str k.1,.str k.2]),.q (D0 q)]=U (decide (q.1=k),[p,.q (.bx [.str k.1,.str k.2]),.q (D0 q)]):=wz (vq J J (Xu _ _ _ _));rw[aA];delta fl;rw[show gN 2 (D0 q) [p,.q (.bx [.str k.1,.str k.2]),s]=U [p,.q (.bx [.str k.1,.str k.2]),.q (D0 q)] from J];by_cases h:q.1=k
  .rw[aM h]at b;calc#v[.q (D0 q),.inl #v[q.2,by rw[<-h];show aX,?_]];erw[v5 b];rfl
  .rw[aP h]at b;let#v[c,a]:=Ii p k S (.q (D0 q));erw[vQ b];calc#v[c,?_];rcases a with ⟨d,a,e⟩|⟨a,e⟩
   .show .inl #v[d,bg _ a,e]
   .show .inr #v[λz=>by
     rw[aA]at z;rcases aJ.1 z with z|z
     .show h z.symm
     .show a z,e]
def E1(S:List (Ky×L4.D))(k:Ky):(∃d,(k,d)∈S/\Av [.bx (S.map D0),.bx [.str k.1,.str k.2]]=U d)\/(k∉S.map aj/\Av [.bx (S.map D0),.bx [.str k.1,.str k.2]]=U .I):=by
 let#v[c,h]:=Ii (.q (.bx (S.map D0))) k S .un;rcases h with ⟨d,a,b⟩|⟨a,b⟩
 .refine .inl #v[d,a,vA J (vW ((wZ J).t b))]
 .calc .inr #v[a,vA J ((ve ((wZ J).t b)))]
def bas(A:List (Str×Str))(V:List (Str×Int)):List (Ky×L4.D):=(A.map λq=>((("at", q.1):Ky),D.str q.2))++V.map λq=>((("mark", q.1):Ky),D.int q.2)
theorem Mv:∀B:List (Ky×L4.D),CH (B.map D0)=U (B.map λq=>[q.1.1,q.1.2])
 |[]=>rfl
 |q::B=>by rw[aA];delta CH;rw[Mv B];rfl
def NX{a:Type}(d:a):∀l:List a,(bh l.length).map (λi=>l.getD i d)=l:=λl=>by
 apply qz
 .rw[ah,cI]
 .intro i c b;rw[qA,l4,bV,aI b];rfl
def Xv(B:List (Ky×L4.D))(r:(B.map aj).Nodup)(f:0<B.length)(l:B.length<64):∃S:List (Ky×L4.D),S.Perm B/\Jo (B.map D0)=U (S.map D0):=by
 let d:=B.map λq=>[q.1.1,q.1.2];have p:d.Nodup:=by
  have:d=(B.map aj).map λk=>[k.1,k.2]:=by rw[aT];rfl
  rw[this];show NW (λa b h=>by injection h with a1 e;injection e with e _;show Prod.ext a1 e) r
 let c:=λi j=>xn (d.getD i []) (d.getD j []);refine#v[(D2 c B.length).map λi=>B.getD i (("", ""),.I),?_,?_]
 .have:=(zg c f).map λi=>B.getD i (("", ""),.I);rw[NX]at this;show this
 .delta Jo;rw[Mv];erw[ah];rw[af #v[p,f,l],aT];congr 1;calc pU λi m=>?_;have o:=Dn c f i m;change (B.map D0).getD i .I=D0 (B.getD i (("", ""),.I));rw[bV,bV,br,aI o];rfl
theorem Ik:∀V:List (Str×Str),EC ((V.map λq=>kS q.1).map Nk) (V.map λq=>D.str q.2)=V.map λq=>D.bx [.str q.1,.str q.2]
 |[]=>rfl
 |q::V=>by have:=Ik V;delta EC at this ⊢;rw[aA,aA,aA,fK,this];rfl
def Xw{e:FE}{ρ a:aU}{b c:List L4.D}(h:e ρ=U (.ax b,a))(d:Jo b=U c):HB e ρ=U (c,a):=by delta HB;rw[h];erw[d]
structure Gx(A:List (Str×Str))(V:List (Str×Int))(S:List (Ky×L4.D)):Prop where
 i:∀q∈A,((("at", q.1):Ky),D.str q.2)∈S
 o:∀x d,((("at", x):Ky),d)∈S->∃z,d=.str z/\(x,z)∈A
 mi:∀q∈V,((("mark", q.1):Ky),D.int q.2)∈S
 mo:∀x d,((("mark", x):Ky),d)∈S->∃z,d=.int z/\(x,z)∈V
abbrev iO:=(ab ao vG)
abbrev sW:=(ab (v8 (ab (cC (.str "mark")) lC)) iO)
def Um{A:List (Str×Str)}{V:List (Str×Int)}{y:Str}(a:DE A y)(E:(V.map aj).Nodup)(lv:V.length<=40):∃S,Gx A V S/\y9 [nj A,vj V]=U (.bx (S.map D0)):=by
 have I:=a.ln;have H:0<A.length:=by let#v[r,h]:=a.yo;show pb h
 have C:((bas A V).map aj).Nodup:=by
  delta bas;rw[aZ,aT,aT,cq];have o:A.map (aj∘λq=>((("at", q.1):Ky),D.str q.2))=(A.map aj).map λx=>(("at", x):Ky):=by rw[aT];rfl
  have t:V.map (aj∘λq=>((("mark", q.1):Ky),D.int q.2))=(V.map aj).map λx=>(("mark", x):Ky):=by rw[aT];rfl
  rw[o,t];calc#v[NW (λa b h=>aW cb h) a.nd,NW (λa b h=>aW cb h) E,λx w z B e=>?_];let#v[_,_,rfl]:=aw.1 w;let#v[_,_,rfl]:=aw.1 B;have:=aW aj e;show au this (by decide:¬(("at" : Str)="mark"))
 let#v[S,p,e]:=Xv (bas A V) C (by delta bas;rw[aH,ah];omega) (by delta bas;rw[aH,ah,ah];omega);refine#v[S,#v[λq f=>p.mem_iff.2 (bw _ (aw.2 #v[q,f,J])),λx d h=>?_,λq f=>p.mem_iff.2 (bG _ (aw.2 #v[q,f,J])),λx d h=>?_],?_]
 .rcases bt.1 (p.mem_iff.1 h)with h|h
  .let#v[q,f,e]:=aw.1 h;ext e;show#v[_,J,f]
  .let#v[q,f,e]:=aw.1 h;have:=aW (λz=>z.1.1) e;show au this (by decide:¬(("mark" : Str)="at"))
 .rcases bt.1 (p.mem_iff.1 h)with h|h
  .let#v[q,f,e]:=aw.1 h;have:=aW (λz=>z.1.1) e;show au this (by decide:¬(("at" : Str)="mark"))
  .let#v[q,f,e]:=aw.1 h;ext e;show#v[_,J,f]
 .let i:aU:=[.q (nj A),.q (vj V),.un];let j:Str×Str->L4.D:=λq=>.bx [.bx [.str "at", .str q.1],.str q.2];let l:Str×Int->L4.D:=λq=>.bx [.bx [.str "mark", .str q.1],.int q.2];let c:aU:=[.q (nj A),.q (vj V),.q (.ax (A.map j))];have c1:vS 2 [] (ω ae) (gT iJ 2) wJ (v8 (ab (v8 (ab (cC (.str "at")) lC)) iO)) i=U (A.map j,i):=by calc(BG ((NT J).t (by rw[Ik])) (by rw[ah];omega)).t ?_;show Ka (λq:Str×Str=>D.bx [.str q.1,.str q.2]) j A λq v=>#v[[.q (.str q.1),.q (.str q.2)],_,J,J,J]
  have c2:vS 2 [] (ω ao) (gT iJ 2) wJ (v8 sW) c=U (V.map l,c):=by calc(BG ((NT J).t (by rw[FC])) (by rw[ah];omega)).t ?_;show Ka (λq:Str×Int=>D.bx [.str q.1,.int q.2]) l V λq v=>#v[[.q (.str q.1),.q (.int q.2)],_,J,J,J]
  have u:(bas A V).map D0=A.map j++V.map l:=by delta bas;rw[aZ,aT,aT];rfl
  have m:=Xw (e:=cL (xi az (cL (vS 2 [] (ω ao) (gT iJ 2) wJ (v8 sW))))) (ρ:=c) (wq (xM J (wq c2) (by rw[ah,ah];omega))) (u▸e);calc vA (ρ:=c) J ((ve (ρ':=c) ((vK (wq c1)))).t (vF ?_));delta FN;rw[wq m]
inductive Ch(A:List (Str×Str)):Str->aD->Prop
 |nil {x}:x∉A.map aj->Ch A x []
 |cons {x z l}:(x,z)∈A->Ch A z l->Ch A x (z::l)
def Il{A:List (Str×Str)}{y:Str}(a:DE A y)(x:Str):∃l,Ch A x l/\l.length<=40:=by
 let#v[i,d]:=a.rk;have ma:∀(n:Nat) (x:Str),(x∈A.map aj->i x<n)->∃l,Ch A x l/\l.length<=n:=by
  intro n
  induction n with
  |zero=>intro x h;show#v[[],.nil (λz=>au (h z) ()),by simp]
  |succ n f=>
   intro x h;by_cases c:x∈A.map aj
   .let#v[q,b,rfl]:=aw.1 c;have:=h c;let#v[l,e,j]:=f q.2 λw=>by have:=(d q b).1;omega
    show#v[q.2::l,.cons b e,by rw[aL];omega]
   .show#v[[],.nil c,by simp]
 show ma 40 x λh=>by let#v[q,b,rfl]:=aw.1 h;show(d q b).2
def Uo{A:List (Str×Str)}{x:Str}{l:aD}(c:Ch A x l):∀a∈l,∃q∈A,q.2=a:=by
 induction c with
 |nil _=>intro a h;cases h
 |cons h _ b=>
  intro a ha;rcases aJ.1 ha with e|ha
  .show#v[_,h,e.symm]
  .show b a ha
def aeJ{A:List (Str×Str)}{b:Str->Nat}(i:∀q∈A,b q.2<b q.1){x:Str}{l:aD}(c:Ch A x l):l.Nodup/\∀a∈l,b a<b x:=by
 induction c with
 |nil _=>show#v[ir,λa h=>(b0 h).elim]
 |@cons x z l h _ d=>
  have f:=i _ h;calc#v[cu.2 #v[λw=>au (d.2 z w) (),d.1],λa ha=>?_];rcases aJ.1 ha with e|ha
  .rw[e];show f
  .have:=d.2 a ha;have j:b z<b x:=f;omega
def Up{A:List (Str×Str)}{y x:Str}{l:aD}(a:DE A y)(c:Ch A x l):l.Nodup:=by let#v[e,d]:=a.rk;show(aeJ (λq b=>(d q b).1) c).1
def Cd{A:List (Str×Str)}(b:(A.map aj).Nodup){x z c:Str}(h:(x,z)∈A)(d:(x,c)∈A):z=c:=by
 induction A with
 |nil=>cases h
 |cons a A e=>
  rw[aA,cu]at b;rcases aJ.1 h with h1|h1<;>rcases aJ.1 d with h2|h2
  .rw[<-h1]at h2;show(aW cb h2).symm
  .show au (show a.1∈A.map aj from h1▸aw.2 #v[_,h2,J]) b.1
  .show au (show a.1∈A.map aj from h2▸aw.2 #v[_,h1,J]) b.1
  .show e b.2 h1 h2
abbrev sD(S:List (Ky×L4.D)):L4.D:=.bx (S.map D0)
abbrev wO(T:List Th)(M:List Mk)(dk:aD)(y:Str)(mo:L4.D):L4.D:=.obj 14 wNs (wDs T M dk y mo)
section
variable{A:List (Str×Str)}{V:List (Str×Int)}{S:List (Ky×L4.D)}{y:Str}{T:List Th}{M:List Mk}{dk:aD}{mo:L4.D}
def Uq(g:fy T M dk):xQ [TD T,MD M]=U (vj (ov T M)):=by
 have Q:=g.len;have R:=g.m4;have c:(fu T Kd.mk++M.map Mk.n).Nodup:=g.nd.sublist ((wx T _).append (fj _));have ndk:=by have:=yL c;rw[aZ,aT]at this;show this
 have hln:=by have:=(wx T Kd.mk).length_le;rw[ah]at this;omega
 have F:∀(l:List Th) (a:List ef) (b:List L4.D) (s:Sl),(a++(fu l Kd.mk).map kS).Nodup->a.length+l.length<=900->b.length=a.length->∃d,fl (gN 3) (fx (cT (vZ xF "has_mark" aB vG)) (wK 2 (c1 (vP vV "name") aB) aO) vJ) (l.map ff) [.q (TD T),.q (MD M),.dk a b,s,.un]=U (.nx [.q (TD T),.q (MD M),.dk (a++(fu l Kd.mk).map kS) (b++(fu l Kd.mk).map λv=>D.int 1),d,.un]):=by
  intro l
  induction l with
  |nil=>show λa b s v v v=>#v[s,by delta fu;simp;rfl]
  |cons t l w=>
   intro a b s c G p;rw[aL]at G;have j:cT (vZ xF "has_mark" aB vG) [.q (TD T),.q (MD M),.dk a b,.q (ff t),.un]=U (t.k.mk,[.q (TD T),.q (MD M),.dk a b,.q (ff t),.un]):=wz (wt J J J J (Pa t));cases q:t.k.mk with
   |true=>
    rw[q]at j;have e:fu (t::l) Kd.mk=t.n::fu l Kd.mk:=by delta fu;rw[fO,q,af J,aA]
    rw[e,aA]at c;rw[e,aA,aA];have H:=λz=>by rw[cq]at c;show c.2.2 _ z _ aX J
    let#v[d,h]:=w (a++[kS t.n]) (b++[.int 1]) (.q (ff t)) (by rw[bN];show c) (by rw[aH,bq];omega) (by rw[aH,aH,p,bq,bq]);calc#v[d,?_];rw[aA];delta fl;rw[show gN 3 (ff t) [.q (TD T),.q (MD M),.dk a b,s,.un]=U [.q (TD T),.q (MD M),.dk a b,.q (ff t),.un] from J];have o:=(v5 (g:=vJ) j).t (Dg (i:=2) (fk:=c1 (vP vV "name") aB) (fv:=cC (.int 1)) J J (wg J (A7 t)) H () p);erw[o];calc h.t ?_;rw[bN,bN];rfl
   |false=>
    rw[q]at j;have e:fu (t::l) Kd.mk=fu l Kd.mk:=by delta fu;rw[fO,q,ai #[]]
    rw[e]at c ⊢;let#v[d,h]:=w a b (.q (ff t)) c () p;calc#v[d,?_];rw[aA];delta fl;rw[show gN 3 (ff t) [.q (TD T),.q (MD M),.dk a b,s,.un]=U [.q (TD T),.q (MD M),.dk a b,.q (ff t),.un] from J];have o:=(vQ (f:=wK 2 (c1 (vP vV "name") aB) aO) (g:=vJ) j);erw[o];show h
 let#v[r,u]:=F T [] [] .un (by rw[bQ];show(cq.1 ndk).1) (by simp;omega) J;rw[bQ,bQ]at u;let#v[P,B]:=Bq (g:=gN 4) (i:=2) (fk:=c1 (vP vV "name") aF) (fv:=c1 (vP Am "most") aF) W' Mk.n (λm=>D.int m.mo) (λa b s=>[.q (TD T),.q (MD M),.dk a b,r,s])
  (λm a b s=>#v[[.q (TD T),.q (MD M),.dk a b,r,.q (W' m)],J,wg J (Xg m),J,wg J (KC m),λI x=>#v[_,J]]) M ((fu T Kd.mk).map kS) ((fu T Kd.mk).map λv=>D.int 1) .un ndk (by rw[ah];omega) (by rw[ah,ah])
 calc vA (ρ:=[.q (TD T),.q (MD M),.q (vj (ov T M)),r,P]) J ?_;calc(ve J).t ?_;calc(ve ((wZ J).t u)).t ((ve ((wZ J).t B)).t ?_);have N:(ov T M).map (λq=>kS q.1)=(fu T Kd.mk).map kS++M.map λm=>kS m.n:=by erw[ov,aZ,aT];rfl
 have O:(ov T M).map (λq=>D.int q.2)=((fu T Kd.mk).map λv=>D.int 1)++M.map λm=>D.int m.mo:=by erw[ov,aZ,aT];rfl
 delta vj;rw[N,O];rfl
def zX:(ov T M).map aj=fu T Kd.mk++M.map Mk.n:=by erw[ov,aZ,aT];rw[show (aj∘λx:Str=>(x,(1:Int)))=id from J,nO];rfl
abbrev wM(T:List Th)(M:List Mk)(dk:aD)(y:Str):L4.D:=wO T M dk y (vj (ov T M))
def NY{V:List (Str×Int)}(a:(V.map aj).Nodup){x:Str}{z:Int}(h:(x,z)∈V):xX (V.map λq=>kS q.1) (V.map λq=>D.int q.2) (kS x)=U (.int z):=
 Bj (by have:=yL a;rw[aT]at this;show this) (by rw[jv];show aw.2 #v[_,h,J])
def Dw(a:DE A y)(o:Gx A V S){x z:Str}(h:(x,z)∈A):yt [sD S,.str x]=U (.str z):=by
 calc vA J (vF (vn J ?_));rcases E1 S ("at", x)with ⟨d,b,c⟩|⟨b,c⟩
 .let#v[f,rfl,e]:=o.o x d b;rw[c,Cd a.nd e h]
 .show au (aw.2 #v[_,o.i _ h,J]) b
def GQ(o:Gx A V S){x:Str}(h:x∉A.map aj):yt [sD S,.str x]=U .I:=by
 calc vA J (vF (vn J ?_));rcases E1 S ("at", x)with ⟨d,a,b⟩|⟨a,b⟩
 .let#v[e,rfl,c]:=o.o x d a;show au (aw.2 #v[_,c,J]) h
 .show b
abbrev oj:=(ab ao (ab aF vG))
def QL(a:DE A y)(o:Gx A V S)(w f:Sl){x:Str}{l:aD}(c:Ch A x l):∀(n:Nat) (b:List L4.D) (i:L4.D),yt [sD S,.str x]=U i->l.length<n->b.length+l.length<=1000->
  K' (cT (c2 zy aF bu)) (a0 (vY (zF 3 aF)) (vR 4 (vo yt oj))) n [w,.q (sD S),f,.J b,.q i]=U (.nx [w,.q (sD S),f,.J (b++l.map D.str),.q .I]):=by
 induction c with
 |@nil x h=>
  intro n b i e j _;rw[GQ o h]at e;ext e;cases n with
  |zero=>cases j
  |succ n=>rw[cf,bF];rfl
 |@cons x z l h c r=>
  intro n b i e j q;rw[Dw a o h]at e;ext e;rw[aL]at j q;cases n with
  |zero=>cases j
  |succ n=>
   let#v[d,m]:∃d,yt [sD S,.str z]=U d:=by
    cases c with
    |nil h=>show#v[_,GQ o h]
    |cons h _=>show#v[_,Dw a o h]
   have p:a0 (vY (zF 3 aF)) (vR 4 (vo yt oj)) [w,.q (sD S),f,.J b,.q (.str z)]=U (.nx [w,.q (sD S),f,.J (b++[.str z]),.q d]):=by calc(ve (wU ((CD J J J ())))).t ?_;show(vK (vn J m)).t J
   rw[aA];delta K';rw[show cT (c2 zy aF bu) [w,.q (sD S),f,.J b,.q (.str z)]=U (γ,[w,.q (sD S),f,.J b,.q (.str z)]) from J];erw[p];calc(r n (b++[.str z]) d m () (by rw[aH,bq];omega)).t ?_;rw[bN];rfl
def Pg(a:DE A y)(o:Gx A V S)(w:L4.D){x:Str}{l:aD}(c:Ch A x l)(d:l.length<=40):zT [w,sD S,.str x]=U (l.map D.str):=by
 let#v[b,e]:∃b,yt [sD S,.str x]=U b:=by
  cases c with
  |nil h=>show#v[_,GQ o h]
  |cons h _=>show#v[_,Dw a o h]
 calc DX (ρ:=[.q w,.q (sD S),.q (.str x),.un,.q .I]) J ?_;calc(ve J).t ?_;calc(ve ((vK (vn J e)))).t ?_;show(ve (QL a o (.q w) (.q (.str x)) c 50 [] b e () (by simp;omega)))
def Xx{x:Str}(h:x∉A.map aj):xX (A.map λq=>kS q.1) (A.map λq=>D.str q.2) (kS x)=Z:=
 Do λz=>by let#v[q,a,b]:=aw.1 z;show h (aw.2 #v[q,a,by injection b])
def KL{V:List (Str×Int)}(b:(V.map aj).Nodup){x:Str}{z c:Int}(h:(x,z)∈V)(d:(x,c)∈V):z=c:=by
 induction V with
 |nil=>cases h
 |cons a V e=>
  rw[aA,cu]at b;rcases aJ.1 h with h1|h1<;>rcases aJ.1 d with h2|h2
  .rw[<-h1]at h2;show(aW cb h2).symm
  .show au (show a.1∈V.map aj from h1▸aw.2 #v[_,h2,J]) b.1
  .show au (show a.1∈V.map aj from h2▸aw.2 #v[_,h1,J]) b.1
  .show e b.2 h1 h2
def KM(e:(V.map aj).Nodup)(o:Gx A V S){x:Str}{z:Int}(h:(x,z)∈V):yN [sD S,.str x]=U (.int z):=by
 calc vA J (vF (vn J ?_));rcases E1 S ("mark", x)with ⟨d,a,b⟩|⟨a,b⟩
 .let#v[f,rfl,c]:=o.mo x d a;rw[b,KL e c h]
 .show au (aw.2 #v[_,o.mi _ h,J]) a
def Di(b:(T.map Th.n).Nodup){t:Th}(a:t∈T):Bo [wO T M dk y mo,.str t.n]=U (ff t):=by calc vA J (vF (vq J J ?_));change U ((xX (nK T) (T.map ff) (kS t.n)).getD .I)=_;rw[Bj (Pb b) (by delta nK;rw[jv];show aw.2 #v[t,a,J])];rfl
def M?(T:List Th)(V:List (Str×Int))(x:Str):Bool:=decide (x∈fu T λk=>decide (k=.box))&&decide ((x,0)∈V)
def Ph(e:(T.map Th.n).Nodup){t:Th}(a:t∈T):t.n∈(fu T λk=>decide (k=.box)) ↔ t.k=.box:=by
 constructor
 .intro h;let#v[u,b,c,d]:=xP h;have:=Ea e b a c;subst this;show ba d
 .intro h;show aw.2 #v[t,bE.2 #v[a,aM h],J]
def Ur(t:Th):eo δ (.str t.k.s) (.str "box")=U (.bl (decide (t.k=.box))):=by cases t.k<;>kernel_rfl
def aeK(b:(V.map aj).Nodup){x:Str}{z:Int}(h:(x,z)∈V):decide ((x,0)∈V)=decide (z=0):=by
 rw[dj,bU,bU];constructor
 .intro a;show KL b h a
 .intro e;rw[<-e];show h
def Ax{e b:FE}{ρ a:aU}(c:e ρ=U (.bl δ,a)):xB e b ρ=U (.bl δ,a):=by delta xB;rw[c]
abbrev jT:=(ab az vG)
def Xy(d:(T.map Th.n).Nodup)(i:(V.map aj).Nodup)(j:∀x∈(fu T λk=>decide (k=.box)),∃z,(x,z)∈V)(o:Gx A V S){t:Th}(c:t∈T):yP [wO T M dk y mo,sD S,.str t.n]=U (.bl (M? T V t.n)):=by
 let b:aU:=[.q (wO T M dk y mo),.q (sD S),.q (.str t.n)];have a:c2 (eo δ) (c1 (vP wo "kind") (vZ wN "thing_of" ae jT)) gY b=U (.bl (decide (t.k=.box)),b):=
  vq (wg (wt J J J J (Di d c)) (Cc t)) J (Ur t)
 calc vA (ρ:=b) J (vF ?_);delta M?;by_cases h:t.k=.box
 .have e:=(Ph d c).2 h;let#v[z,f]:=j _ e;rw[aM h]at a;rw[aM e,aeK i f];calc(wD a).t (vq (vn J (KM i o f)) J ?_);rw[zm];rfl
 .rw[aP h]at a;rw[aP λz=>h ((Ph d c).1 z)];show Ax a
def Kx(b:Str->Bool)(h:Str):aD->Bool
 |[]=>δ
 |a::l=>if a=h then γ else if b a then δ else Kx b h l
def Us{b:Str->Bool}{h a:Str}{l:aD}:Kx b h (a::l)=if a=h then γ else if b a then δ else Kx b h l:=rfl
abbrev oM:=(ab ae oj)
theorem JG{w st x:L4.D}{d:Str->Bool}(h:Str):∀(l:aD) (s:Sl),(∀a∈l,yP [w,st,.str a]=U (.bl (d a)))->∃m,fl (gN 4) (a0 (fx (cT (c2 (eo δ) aF aB)) (vz cN) vJ)
 (fx (cT (vo yP oM)) (vz dB) vJ)) (l.map D.str) [.q w,.q st,.q x,.q (.str h),s]=U (.rt (.bl (Kx d h l)) [.q w,.q st,.q x,.q (.str h),m])\/(Kx d h l=δ/\fl (gN 4) (a0 (fx (cT (c2 (eo δ) aF aB)) (vz cN) vJ)
 (fx (cT (vo yP oM)) (vz dB) vJ)) (l.map D.str) [.q w,.q st,.q x,.q (.str h),s]=U (.nx [.q w,.q st,.q x,.q (.str h),m]))
 |[],s,_=>#v[s,.inr #v[J,J]]
 |a::l,s,p=>by
  let c:aU:=[.q w,.q st,.q x,.q (.str h),.q (.str a)];have e:cT (c2 (eo δ) aF aB) c=U (decide (a=h),c):=wz (vq J J (yW δ a h));have i:cT (vo yP oM) c=U (d a,c):=wz (vn J (p a aX));rw[aA];delta fl;rw[show gN 4 (.str a) [.q w,.q st,.q x,.q (.str h),s]=U c from J];rw[Us];by_cases j:a=h
  .rw[aM j]at e;rw[af j];calc#v[.q (.str a),.inl ?_];have o:∀f:FS,a0 (fx (cT (c2 (eo δ) aF aB)) (vz cN) vJ) f c=U (.rt (.bl γ) c):=λf=>vW ((v5 e));erw[o];rfl
  .rw[aP j]at e;rw[ai j];have o:∀f:FS,a0 (fx (cT (c2 (eo δ) aF aB)) (vz cN) vJ) f c=f c:=λf=>ve ((vQ e));erw[o];cases q:d a with
   |true=>rw[q]at i;calc#v[.q (.str a),.inl ?_];erw[(v5 i).t (J:vz dB c=U (.rt (.bl δ) c)),if_true];rfl
   |false=>rw[q]at i;let#v[m,g]:=JG h l (.q (.str a)) λb r=>p b (bg _ r);calc#v[m,?_];erw[(vQ i).t (J:vJ c=U (.nx c)),gm,if_false];show g
def Xz(a:DE A y)(o:Gx A V S){w:L4.D}{d:Str->Bool}{x h:Str}{l:aD}(c:Ch A x l)(i:l.length<=40)(f:∀a∈l,yP [w,sD S,.str a]=U (.bl (d a))):yQ [w,sD S,.str x,.str h]=U (.bl (Kx d h l)):=by
 let#v[j,g]:=JG h l .un f;have b:=wq (vn (a:=ab ae (ab ao jT)) (ρ:=[.q w,.q (sD S),.q (.str x),.q (.str h),.un]) J (Pg a o w c i));rcases g with g|⟨e,g⟩
 .show vA J (vW ((wZ (Dh b)).t g))
 .rw[e];show vA J ((ve ((wZ (Dh b)).t g)))
end
section
variable{A:List (Str×Str)}{V:List (Str×Int)}{y r:Str}{T:List Th}{M:List Mk}{dk:aD}{mo:L4.D}
#print "ti box;Mn lamp" in abbrev ϑ0(T:List Th):aD:=fu T λk=>decide (k=.ϑ1)
def Ut(b:(V.map aj).Nodup){x:Str}{z:Int}(k:Int)(h:(x,z)∈V):decide ((x,k)∈V)=decide (z=k):=by
 rw[dj,bU,bU];constructor
 .intro a;show KL b h a
 .intro e;rw[<-e];show h
end
structure ZX(T:List Th)(A:List (Str×Str))(V:List (Str×Int))(S:List (Ky×L4.D))(y r:Str):Prop where
 nd:(T.map Th.n).Nodup
 hT:T.length<=200
 p7:(T.filter λt=>t.k.pl).length<=7
 a:DE A y
 pn:∀q∈A,q.2∈T.map Th.n
 nv:(V.map aj).Nodup
 hv:∀x∈fu T Kd.mk,∃z,(x,z)∈V
 o:Gx A V S
 hr:(y,r)∈A
section
variable{A:List (Str×Str)}{V:List (Str×Int)}{S:List (Ky×L4.D)}{y r:Str}{T:List Th}{M:List Mk}{dk:aD}{mo:L4.D}
def lf(a:DE A y)(x:Str):aD:=Classical.choose (Il a x)
def FD(a:DE A y)(x:Str):Ch A x (lf a x):=(pE (Il a x)).1
def lf_l(a:DE A y)(x:Str):(lf a x).length<=40:=(pE (Il a x)).2
def KN{p q:Kd->Bool}(h:∀k,p k=γ->q k=γ){x:Str}(d:x∈fu T p):x∈fu T q:=by let#v[t,a,b,c]:=xP d;show aw.2 #v[t,bE.2 #v[a,h _ c],b]
#print "b ti;l Mn" in def ZX.vϑ0(s:ZX T A V S y r):∀x∈ϑ1 T,∃z,(x,z)∈V:=λx a=>s.hv x (KN (λk h=>by rw[ba h];rfl) a)
def ZX.op(s:ZX T A V S y r)(x h:Str):yQ [wO T M dk y mo,sD S,.str x,.str h]=U (.bl (Kx (M? T V) h (lf s.a x))):=
 Xz s.a s.o (FD s.a x) (lf_l s.a x) λb c=>by let#v[q,d,rfl]:=Uo (FD s.a x) b c;let#v[t,f,e]:=aw.1 (s.pn q d);rw[<-e];show Xy s.nd s.nv s.vb s.o f
def Uu:Gd [wO T M dk y mo]=U (.str y):=rfl
def Mw(s:ZX T A V S y r):yO [wO T M dk y mo,sD S]=U (.str r):=
 vA J (vF (vn (vm J (vm (wt J J J J Uu) J)) (Dw s.a s.o s.hr)))
def NZ(dk:aD)(s:ZX T A V S y r):Bool:=!decide (r∈dk)||(Mn T).any λb=>decide ((b,1)∈V)&&Kx (M? T V) r (lf s.a b)
def XA:Ck [wO T M dk y mo,.str r]=U (.bl (decide (r∈dk))):=
 vA J (vF (vq J J (Bi δ r dk)))
def Uv(s:ZX T A V S y r){b:Str}(f:b∈Mn T):BZ [wO T M dk y mo,sD S,.str b,.str r]=U (.bl (decide ((b,1)∈V)&&Kx (M? T V) r (lf s.a b))):=by
 let d:aU:=[.q (wO T M dk y mo),.q (sD S),.q (.str b),.q (.str r)];let#v[z,e]:=s.vl b f;have c:c2 (eo δ) (vo yN (ab ao jT)) aO d=U (.bl (decide ((b,1)∈V)),d):=vq (vn J (KM s.nv s.o e)) J (by rw[zm,Ut s.nv 1 e];rfl);calc vA (ρ:=d) J (vF ?_);cases q:decide ((b,1)∈V)with
 |true=>rw[q]at c;show(wD c).t (vn J (s.op b r))
 |false=>rw[q]at c;show Ax c
def Uw(s:ZX T A V S y r):EW [wO T M dk y mo,sD S]=U (.bl (NZ dk s)):=by
 let W:=wO T M dk y mo;let d:aU:=[.q W,.q (sD S),.q (.str r)];have f:vR 2 (vo yO (ab ae iO)) [.q W,.q (sD S),.un]=U (.nx d):=(vK (vn J (Mw s))).t J;have e:zK (cT (vZ zq "is_dark" ae jT)) d=U (!decide (r∈dk),d):=J2 (wz (wt J J J J XA));delta NZ;cases q:decide (r∈dk)with
 |false=>rw[q]at e;show vA J ((ve f).t (vW ((v5 e))))
 |true=>
  rw[q]at e;have j:=s.hT;have h:vS 1 [0,1,2] (iL (vZ wG "of_kind" ae (ab lg vG))) (gN 0) wJ (vo BZ (ab ao (ab az (ab ae (ab aB vG))))) d=U ((Mn T).map λb=>D.bl (decide ((b,1)∈V)&&Kx (M? T V) r (lf s.a b)),d):=by
   have c:(Mn T).length<=1000:=by have:=(wx T λk=>decide (k=.lamp)).length_le;rw[ah]at this;show bW this ()
   refine Cn D.str (λb=>D.bl (decide ((b,1)∈V)&&Kx (M? T V) r (lf s.a b))) (Mn T) ((Dh (wt J J J J (D9 T () _ _ .lamp))).t (by delta Mn fu;rw[aT];rfl)) c λb i=>#v[[.q (.str b),.q W,.q (sD S),.q (.str r)],[.q (.str b),.q W,.q (sD S),.q (.str r)],J,vn J (Uv s i),J]
  show vA J ((ve f).t ((ve ((vQ e))).t (vF (wg (wq h) (OS _ _)))))
def JH(dk:aD)(s:ZX T A V S y r)(x:Str):Bool:=(NZ dk s&&Kx (M? T V) r (lf s.a x))||Kx (M? T V) y (lf s.a x)
def Ux(s:ZX T A V S y r){t:Th}(l:t∈T):Fy [wO T M dk y mo,sD S,.str t.n]=U (.bl (t.k.pl&&JH dk s t.n)):=by
 let W:=wO T M dk y mo;let b:aU:=[.q W,.q (sD S),.q (.str t.n),.q (ff t)];have f:vR 3 (vZ wN "thing_of" ae jT) [.q W,.q (sD S),.q (.str t.n),.un]=U (.nx b):=(vK (wt J J J J (Di s.nd l))).t J;have c:Ah (cT (c2 Be aB bu)) (zK (cT (vZ xG "is_plainly" aB vG))) b=U (!t.k.pl,b):=CC J (J2 (wz (wt J J J J (Ma t))));have d:cT (vo yQ (ab ae (ab ao (ab az (ab (vZ z9 "you" ae vG) vG))))) b=U (Kx (M? T V) y (lf s.a t.n),b):=wz (vn (vm J (vm J (vm J (vm (wt J J J J Uu) J)))) (s.op t.n y));have e:vo yQ (ab ae (ab ao (ab az (ab (vo yO (ab ae iO)) vG)))) b=U (.bl (Kx (M? T V) r (lf s.a t.n)),b):=vn (vm J (vm J (vm J (vm (vn J (Mw s)) J)))) (s.op t.n r);delta JH;cases h:t.k.pl with
 |false=>rw[h]at c;show vA J ((ve f).t (vW ((v5 c))))
 |true=>
  rw[h]at c;cases i:Kx (M? T V) y (lf s.a t.n)with
  |true=>rw[i]at d;rw[nz];show vA J ((ve f).t ((ve ((vQ c))).t (vW ((v5 d)))))
  |false=>
   rw[i]at d;rw[mV,mZ,Bool.and_comm];calc vA (ρ:=b) J ((ve f).t ((ve ((vQ c))).t ((ve ((vQ d))).t (vF ?_))));cases j:Kx (M? T V) r (lf s.a t.n)with
   |true=>rw[j]at e;show(wD e).t (vn J (Uw s))
   |false=>rw[j]at e;show Ax e
end
section
variable{A:List (Str×Str)}{V:List (Str×Int)}{S:List (Ky×L4.D)}{y:Str}{T:List Th}{M:List Mk}{dk:aD}{mo:L4.D}
#print "XB take;Uy put" in def ϑ0(a b:L4.D):yj [wO T M dk y mo,.bx [.str "ϑ1", a,b]]=U (.bx [a,b]):=by kernel_rfl
def noT(x:Str):Bool:=decide (x∉(["here", "it", "other"]:aD))
def Uz{x:Str}(h:Nm x):x∉(["here", "it", "other"]:aD):=ba (KD (p:=noT) (by kernel_rfl) h)
def Pi{w st c a b:L4.D}(h:yj [w,c]=U (.bx [a,b])):yG [w,st,c,.str "it"]=U a:=by let d:aU:=[.q w,.q st,.q c,.q (.str "it")];calc vA (ρ:=d) J ?_;calc(ve ((vQ (wz (vq J J (by kernel_rfl)))))).t ?_;show vW ((v5 (wz (vq J J (by kernel_rfl)))).t (vF (vq (vn J h) J J)))
def N0{w st c a b:L4.D}(h:yj [w,c]=U (.bx [a,b])):yG [w,st,c,.str "other"]=U b:=by let d:aU:=[.q w,.q st,.q c,.q (.str "other")];calc vA (ρ:=d) J ?_;calc(ve ((vQ (wz (vq J J (by kernel_rfl)))))).t ?_;calc(ve ((vQ (wz (vq J J (by kernel_rfl)))))).t ?_;show vW ((v5 (wz (vq J J (by kernel_rfl)))).t (vF (vq (vn J h) J J)))
def XD{w st c:L4.D}{x:Str}(b:Nm x):yG [w,st,c,.str x]=U (.str x):=by
 have n:=Uz b;have d:eo δ (.str x) (.str "here")=U (.bl δ):=by rw[yW,aP λe=>n (by rw[e];simp)];rfl
 have f:eo δ (.str x) (.str "it")=U (.bl δ):=by rw[yW,aP λe=>n (by rw[e];simp)];rfl
 have h:eo δ (.str x) (.str "other")=U (.bl δ):=by rw[yW,aP λe=>n (by rw[e];simp)];rfl
 let a:aU:=[.q w,.q st,.q c,.q (.str x)];calc vA (ρ:=a) J ?_;calc(ve ((vQ (wz (vq J J d))))).t ?_;calc(ve ((vQ (wz (vq J J f))))).t ?_;calc(ve ((vQ (wz (vq J J h))))).t ?_;rfl
def XE(a:DE A y)(o:Gx A V S){r:Str}(h:(y,r)∈A):yO [wO T M dk y mo,sD S]=U (.str r):=
 vA J (vF (vn J (Dw a o h)))
def QM(a:DE A y)(o:Gx A V S){c:L4.D}{r:Str}(h:(y,r)∈A):yG [wO T M dk y mo,sD S,c,.str "here"]=U (.str r):=by let b:aU:=[.q (wO T M dk y mo),.q (sD S),.q c,.q (.str "here")];calc vA (ρ:=b) J ?_;show vW ((v5 (wz (vq J J (by kernel_rfl)))).t (vF (vn J (XE a o h))))
end
section
variable{y:Str}{T:List Th}{M:List Mk}{dk:aD}
def tk{ρ:aU}{j:Nat}{e:FE}{n:Int}{b:List L4.D}(o:0<n)(m:IL b)(c:xb ρ j=U b)(l:e ρ=U (.int n,ρ)):∃r a,IL a/\0<=r/\r<n/\v9 vg j (ab e vG) ρ=U (.int r,putAt ρ j a):=by let#v[r,a,d,f,h,i]:=xt m n o;show#v[r,a,d,f,h,yf c (vm l J) c i]
def pk{ρ:aU}{i j:Nat}{l:aD}{b:List L4.D}(q:l≠[])(p:IL b)(f:xb ρ j=U b)(d:cV i ρ=U (.ax (l.map D.str),ρ)):∃x a,x∈l/\IL a/\c2 e7 (cV i) (v9 vg j (ab (c1 wW (cV i)) vG)) ρ=U (.str x,putAt ρ j a):=by
 have u:=eX.2 q;let#v[r,a,h,m,t,o]:=tk (n:=l.length) (e:=c1 wW (cV i)) () p f (wg d (by change U (D.int _)=_;rw[ah]));let#v[r,rfl]:=cW m;have c:r<l.length:=by omega
 show#v[l[r],a,cG c,h,vq d o (yn (aI c))]
def Gj(x:Str)(a:aD):eo δ (.ax ((x::a).map D.str)) (.ax [])=U (.bl δ):=by
 have b:Hl δ (.ax ((x::a).map D.str)) (.ax [])=Z:=rfl;have c:p? (.ax ((x::a).map D.str))=U (.ax ((x::a).map L3.Dq.str)):=by delta p?;rw[Du]
 have d:ij (.ax ((x::a).map L3.Dq.str))=1:=by rw[ij,Bc]
 delta eo;rw[b];delta M5;rw[c,show p? (.ax [])=U (.ax []) from J];change (if Lh (.ax ((x::a).map L3.Dq.str)) (.ax [])&&decide (ij (.ax ((x::a).map L3.Dq.str))<=20)&&decide (ij (.ax [])<=20)then U (D.bl (n3 (.ax ((x::a).map L3.Dq.str)) (.ax [])))else Z)=_;rw[d];rfl
def aeM(k:Kd):k? δ (.str k.s) (.ax [.str "plain", .str "fixed", .str "box", .str "lamp"])=U (.bl k.pl):=by ext k<;>kernel_rfl
def Im{c b:FT}{ρ a:aU}(h:c ρ=U (γ,a)):Ah c b ρ=U (γ,a):=by delta Ah;rw[h]
inductive Cm(sm:aD):L4.D->Str->Prop
 |go (z:Str):Cm sm (.bx [.str "go", .str z,.I]) "way"
 |wait:Cm sm (.bx [.str "wait", .I,.I]) "alone"
 |take {a:Str}:a∈sm->Cm sm (.bx [.str "take", .str a,.I]) "one"
 |put {a b:Str}:a∈sm->b∈sm->Cm sm (.bx [.str "put", .str a,.str b]) "two"
def XG{a:aD}{c:L4.D}{f:Str}(h:Cm a c f):De [c]=U (.str f):=by ext h<;>kernel_rfl
def N1{a b:L4.D}{r:Int}(c:0<=r)(d:r<2):e7 (.ax [a,b]) (.int r)=U (if r=0 then a else b):=by
 have:r=0\/r=1:=by omega
 rcases this with rfl|rfl<;>rfl
abbrev sH:=(ab (cC (.str "north")) (ab (cC (.str "up")) vG))
abbrev sO:=(ab (v8 (ab (cC (.str "go")) (ab (c2 e7 (cL (vL sH)) (v9 vg 1 oN)) (ab bu vG)))) (ab (v8 (ab (cC (.str "wait")) (ab bu (ab bu vG)))) vG))
def N2(g:fy T M dk){q:List L4.D}(hi:IL q):∃c f d,IL d/\Cm (fu T Kd.pl) c f/\yk q [wF T M dk y]=U (c,d):=by
 let m:=wF T M dk y;let u:=fu T Kd.pl;let L:L4.D:=.ax (u.map D.str);have hl:=g.len;have run:∃c f d W,IL d/\Cm u c f/\∃S,za (L? 5 q [m])=U (.rt c [.q m,.pm d,.q L,S,W]):=by
  delta za;have Y:(vR 2 (cL (wb wV (ab ae (ab (cL (vL (ab oe (ab (cC (.str "fixed")) (ab gY (ab lg vG)))))) vG)))):FS) (L? 5 q [m])=U (.nx [.q m,.pm q,.q L,.un,.un]):=(vK (wq (vn J (t6 () Kd.pl aeM)))).t J;rw[ve Y];let#v[w,A,P,w0,w1,h1]:=tk (ρ:=[.q m,.pm q,.q L,.un,.un]) (j:=1) (e:=cC (.int 8)) #[] hi J J;rw[ve ((vK h1).t (show _=U (mn.nx [.q m,.pm A,.q L,.q (.int w),.un]) from J))];let l:aU:=[.q m,.pm A,.q L,.q (.int w),.un];have far:∃c f d,IL d/\Cm u c f/\(vz (c2 e7 (cL (vL sO)) (c2 ye aB cz)):FS) l=U (.rt c [.q m,.pm d,.q L,.q (.int w),.un]):=by
   let#v[r,h,B,r0,r1,H]:=tk (ρ:=l) (j:=1) (e:=cC (.int 2)) #[] P J J;have m0:=mJ w (by decide:(2:Int)≠0);have m1:=l6 w (by decide:(0:Int)<2);let z:Str:=if r=0 then "north" else "up"
   let o:aU:=[.q m,.pm h,.q L,.q (.int w),.un];have ez:(if r=0 then D.str "north" else .str "up")=.str z:=by change _=D.str (if r=0 then "north" else "up");split<;>rfl
   have en:=vq (e:=cL (vL sH)) J H ((N1 r0 r1).t (aW U ez));have E:=vF (vq (e:=cL (vL sO)) (e':=c2 ye aB cz) (wq (BF (vm (xV (vm J (vm en J)) (cB J)) J) (cB J))) (vq J J (zO #[])) (N1 m0 m1));by_cases p:w % 2=0
   .rw[af p]at E;show#v[_,_,h,B,.go z,E]
   .rw[ai p]at E;show#v[_,_,h,B,.wait,E]
  let#v[I,N,x,Q,R,far]:=far;by_cases F:u=[]
  .have t:Ah (cT (c2 (eo δ) az (cL (vL vG)))) (cT (c2 IC aB fI)) l=U (γ,l):=Im (wz (vq J J (by change eo δ (.ax (u.map D.str)) _=_;rw[F];rfl)));show#v[I,N,x,_,Q,R,_,vW ((v5 t).t far)]
  .have ee:cT (c2 (eo δ) az (cL (vL vG))) l=U (δ,l):=wz (vq J J (by
    change eo δ (.ax (u.map D.str)) _=_;let#v[a,r,e]:=j3 F;rw[e];show Gj a r))
   have t:Ah (cT (c2 (eo δ) az (cL (vL vG)))) (cT (c2 IC aB fI)) l=U (decide (w > 5),l):=CC ee (wz (vq J J J));by_cases p:w > 5
   .rw[aM p]at t;show#v[I,N,x,_,Q,R,_,vW ((v5 t).t far)]
   .rw[aP p]at t;rw[ve ((vQ t).t (show _=U (mn.nx l) from J))];let#v[a,h,O,B,H]:=pk (ρ:=l) (i:=2) (j:=1) F P J J;rw[ve ((vK H).t (show _=U (mn.nx [.q m,.pm h,.q L,.q (.int w),.q (.str a)]) from J))];let o:aU:=[.q m,.pm h,.q L,.q (.int w),.q (.str a)];have C:cT (c2 DA aB cz) o=U (decide (w<2),o):=wz (vq J J J);by_cases p:w<2
    .rw[aM p]at C;show#v[_,_,h,_,B,.take O,_,vW ((v5 C))]
    .rw[aP p]at C;rw[ve ((vQ C).t (show _=U (mn.nx o) from J))];let#v[b,G,hb,i3,h3]:=pk (ρ:=o) (i:=2) (j:=1) F B J J;show#v[_,_,G,_,i3,.put O hb,_,vF (xV (vm J (vm J (vm h3 J))) (cB J))]
 let#v[c,f,d,W,i',X,S,run]:=run;calc#v[c,f,d,i',X,?_];delta yk z5;rw[af (show [m].length=1 from J),run];rfl
end
section
variable{y:Str}{T:List Th}{M:List Mk}{dk:aD}
abbrev mks(T:List Th)(M:List Mk):aD:=fu T Kd.mk++M.map Mk.n
def ndM(g:fy T M dk):(mks T M).Nodup:=g.nd.sublist ((wx T _).append (fj _))
def XH(g:fy T M dk):(mks T M).length<=11:=by
 rw[aH,ah];have a:=NV (T:=T) (p:=Kd.mk) (q:=Kd.pl) λk h=>by ext k<;>first|rfl|ext h
 have b:=g.p7;have c:=g.m4;omega
inductive Tm:L4.D->Str->Str->Prop
 |it1 (a:Str):Tm (.bx [.str "take", .str a,.I]) "it" a
 |it2 (a b:Str):Tm (.bx [.str "put", .str a,.str b]) "it" a
 |W1 (a b:Str):Tm (.bx [.str "put", .str a,.str b]) "other" b
 |nm (c:L4.D) {x:Str}:Nm x->Tm c x x
theorem JI:∀V:List (Str×Int),F0 (V.map λq=>kS q.1)=U (V.map aj)
 |[]=>rfl
 |q::V=>by rw[aA,aA];change (F0 _).map _=_;rw[JI V];rfl
def UA{V:List (Str×Int)}{e:FE}{ρ:aU}(h:e ρ=U (vj V,ρ))(a:V.length<64):Fn e ρ=U ((FY (V.map aj)).map D.str,ρ):=by delta Fn;rw[h];erw[JI,ah,a,if_true]
def Br{c b:FT}{ρ a:aU}(h:c ρ=U (γ,a)):zu c b ρ=b a:=by delta zu;rw[h]
def Dy{c b:FT}{ρ a:aU}(h:c ρ=U (δ,a)):zu c b ρ=U (δ,a):=by delta zu;rw[h]
abbrev k9:=(ab (cC (.str "one")) (ab (cC (.str "two")) vG))
abbrev la:=(cC (.str "two"))
abbrev oF:=(cC (.str "other"))
abbrev sI:=(ab (cC (.str "it")) (ab oF vG))
abbrev sN:=(ab (c2 e7 (cL (vL (ab (cC (.str "it")) (ab (c2 e7 (cL (vL sI)) (c1 ID (c2 (eo δ) ao la))) vG)))) (v9 vg 2 oN)) (ab (v9 vg 2 (ab fX vG)) vG))
def QN(g:fy T M dk){c:L4.D}{f:Str}(cm:Cm (fu T Kd.pl) c f){o:List L4.D}(R:IL o)(hf:f="one" \/ f="two" \/ ov T M≠[]):∃t z v d,IL d/\Tm c t z/\yE o [wF T M dk y,.str f]=U (.bx [.str t,.int v],d):=by
 let O:=wF T M dk y;let#v[V,em,X,v2,rfl]:=Ie (y:=y) g;let N:=FY ((ov T M).map aj);let L:L4.D:=.ax (N.map D.str);have hN:∀x,x∈N ↔ x∈(ov T M).map aj:=λx=>(lU _ P?).mem_iff;have hl:(ov T M).length<=11:=by have:=XH g;have h:=aW cD X;rw[ah]at h;rw[h];show this
 let m:List L4.D->Sl->aU:=λo s=>[.q O,.q (.str f),.pm o,.q (vj (ov T M)),.q L,s];have byit:∀l,IL l->(f="one" \/ f="two")->∃t z v d,IL d/\Tm c t z/\(vz (v8 sN):FS) (m l .un)=U (.rt (.bx [.str t,.int v]) (m d .un)):=λl C h=>by
  let#v[r,w,W,r0,r1,P]:=tk (ρ:=m l .un) (j:=2) (e:=cC (.int 2)) #[] C J J;let#v[v,u,G,_,_,Q]:=tk (ρ:=m w .un) (j:=2) (e:=cC (.int 4)) #[] W J J;have fin:∀b:Str,c2 e7 (cL (vL sI)) (c1 ID (c2 (eo δ) ao la)) (m l .un)=U (.str b,m l .un)->(vz (v8 sN):FS) (m l .un)=U (.rt (.bx [.str (if r=0 then "it" else b),.int v]) (m u .un)):=λb eb=>by
   have ez:(if r=0 then D.str "it" else .str b)=.str (if r=0 then "it" else b):=by split<;>rfl
   show vF (xV (vm (vq (wq (BF (vm J (vm eb J)) (cB J))) P ((N1 r0 r1).t (aW U ez))) (vm Q J)) (cB J))
  cases cm with
  |go z=>rcases h with h|h<;>show au h #[]
  |wait=>rcases h with h|h<;>show au h #[]
  |@take a ha=>calc#v[_,a,v,u,G,?_,fin "it" (by kernel_rfl)];rw[ite_self];show .it1 a
  |@put a b ha hb=>
   by_cases F:r=0
   .calc#v[_,a,v,u,G,?_,fin "other" (by kernel_rfl)];rw[af F];show .it2 a b
   .calc#v[_,b,v,u,G,?_,fin "other" (by kernel_rfl)];rw[ai F];show .W1 a b
 have byname:∀l,IL l->N≠[]->∃t z v d s,IL d/\Tm c t z/\(a0 (vR 5 (c2 e7 aF (v9 vg 2 (ab (c1 wW aF) vG))))
   (vz (v8 (ab aY (ab (v9 vg 2 (ab (c2 wA (c2 wX aB aY) aO) vG)) vG)))):FS) (m l .un)=U (.rt (.bx [.str t,.int v]) (m d s)):=λl C h=>by
  let#v[x,w,hx,W,P]:=pk (ρ:=m l .un) (i:=4) (j:=2) h C J J;let#v[q,S,rfl]:=aw.1 ((hN x).1 hx);have Y:=v2 q S;have hm:=by change q.1∈fu T Kd.mk++M.map Mk.n;rw[<-X];show aw.2 #v[q,S,J]
  have nm:=g.nm _ (((wx T Kd.mk).append (fj _)).subset hm);rw[ve ((vK P).t (show _=U (mn.nx (m w (.q (.str q.1)))) from J))];let#v[v,u,G,_,_,Q]:=tk (ρ:=m w (.q (.str q.1))) (j:=2) (e:=c2 wA (c2 wX aB aY) aO) () W J (vq (vq J J (NY (by rw[X];show ndM g) S)) J J);show#v[q.1,q.1,v,u,_,G,.nm c nm,vF (xV (vm J (vm Q J)) (cB J))]
 have run:∃t z v d s,IL d/\Tm c t z/\zt (L? 6 o [O,.str f])=U (.rt (.bx [.str t,.int v]) (m d s)):=by
  delta zt;rw[ve ((vK (vn J em)).t (show _=U (mn.nx [.q O,.q (.str f),.pm o,.q (vj (ov T M)),.un,.un]) from J))];rw[ve ((vK (wq (UA J ()))).t (show _=U (mn.nx (m o .un)) from J))];by_cases p:f="one" \/ f="two"
  .have H:cT (c2 (k? δ) ao (cL (vL k9))) (m o .un)=U (γ,m o .un):=by rcases p with h|h<;>(subst h;kernel_rfl)
   by_cases E:N=[]
   .let#v[t,z,v,d,A,B,e]:=byit o R p;show#v[t,z,v,d,.un,A,B,vW ((v5 ((Br H).t (Im (wz (vq J J (by change eo δ (.ax (N.map D.str)) _=_;rw[E];rfl)))))).t e)]
   .have e2:cT (c2 (eo δ) aF (cL (vL vG))) (m o .un)=U (δ,m o .un):=wz (vq J J (by
     change eo δ (.ax (N.map D.str)) _=_;let#v[a,r,e]:=j3 E;rw[e];show Gj a r))
    let#v[r,l,C,_,_,Y]:=tk (ρ:=m o .un) (j:=2) (e:=cC (.int 2)) #[] R J J;have I:=(Br H).t (CC e2 (wz (vq (e':=cC (.int 0)) Y J (zm δ r 0))));by_cases F:r=0
    .let#v[t,z,v,d,A,B,e]:=byit l C p;rw[aM F]at I;show#v[t,z,v,d,.un,A,B,vW ((v5 I).t e)]
    .let#v[t,z,v,d,s,A,B,e]:=byname l C E;rw[aP F]at I;show#v[t,z,v,d,s,A,B,(ve ((vQ I))).t e]
  .have E:N≠[]:=λh=>by
    rcases hf with h'|h'|h'
    .show p (.inl h')
    .show p (.inr h')
    .let#v[q,r,e]:=j3 h';have:=(hN _).2 (by rw[e];show aX ..);rw[h]at this;ext this
   have H:cT (c2 (k? δ) ao (cL (vL k9))) (m o .un)=U (δ,m o .un):=wz (vq J J ((Bi δ f ["one", "two"]).t (by simp;show#v[λh=>p (.inl h),λh=>p (.inr h)])));let#v[t,z,v,d,s,A,B,e]:=byname o R E;show#v[t,z,v,d,s,A,B,(ve ((vQ (Dy H)))).t e]
 let#v[t,z,v,d,s,A,B,run]:=run;calc#v[t,z,v,d,A,B,?_];delta yE z5;rw[af (show [O,D.str f].length=2 from J),run];rfl
end
section
variable{y:Str}{T:List Th}{M:List Mk}{dk:aD}
inductive Tp(T:List Th) (c:L4.D):Str->Option Str->Prop
 |here:Tp T c "here" Z
 |tm {p w:Str}:Tm c p w->w∈T.map Th.n->Tp T c p (U w)
def aeN(k:Kd):k? δ (.str k.s) (.ax [.str "room", .str "box", .str "you"])=U (.bl k.hd):=by ext k<;>kernel_rfl
def UB{c:L4.D}{f:Str}{b:aD}(a:Cm b c f):k? δ (.str f) (.ax [.str "one", .str "two"])=U (.bl (decide (f="one" \/ f="two"))):=by ext a<;>kernel_rfl
def is2{c:L4.D}{f:Str}{b:aD}(a:Cm b c f):eo δ (.str f) (.str "two")=U (.bl (decide (f="two"))):=by ext a<;>kernel_rfl
def nmN(g:fy T M dk){p:Kd->Bool}{x:Str}(h:x∈fu T p):Nm x:=g.nm _ (bw _ ((wx T p).subset h))
def Pj{e:aD}{c:L4.D}{f:Str}(i:Cm e c f){t:Str}(h:(t="it" /\ (f="one" \/ f="two"))\/(t="other" /\ f="two")):∃z,Tm c t z/\z∈e:=by
 cases i with
 |go z=>rcases h with ⟨_,h|h⟩|⟨_,h⟩<;>show au h #[]
 |wait=>rcases h with ⟨_,h|h⟩|⟨_,h⟩<;>show au h #[]
 |@take a d=>
  rcases h with ⟨rfl,_⟩|⟨_,h⟩
  .show#v[a,.it1 a,d]
  .show au h #[]
 |@put a b d j=>
  rcases h with ⟨rfl,_⟩|⟨rfl,_⟩
  .show#v[a,.it2 a b,d]
  .show#v[b,.W1 a b,j]
def itL(n:Nat)(f:Str):aD:=if f="one" \/ f="two" then fR n "it" else []
def otL(f:Str):aD:=if f="two" then ["other", "other"]else []
#print h
def UC{a:aD}{c:L4.D}{f:Str}(b:Cm a c f){n:Nat}{t:Str}(h:t∈itL n f\/t∈otL f):∃z,Tm c t z/\z∈a:=by
 calc Pj b ?_;rcases h with h|h
 .delta itL at h;split at h
  .rename_i e;show .inl #v[(List.mem_replicate.1 h).2,e]
  .ext h
 .delta otL at h;split at h
  .rename_i e;calc .inr #v[?_,e];rcases aJ.1 h with h|h
   .show h
   .show aN.1 h
  .ext h
#print f
def UD(g:fy T M dk){c:L4.D}{f:Str}(B:Cm (fu T Kd.pl) c f){u:List L4.D}(X:IL u):∃p w r,IL r/\Tp T c p w/\zV u [wF T M dk y,.str f]=U (.str p,r):=by
 let H:=wF T M dk y;let G:=fu T Kd.hd;let L:L4.D:=.ax (G.map D.str);have hl:=g.len;have I:G≠[]:=λe=>by have:=g.r1;let#v[t,ht]:=List.exists_mem_of_length_pos (by omega:0<(T.filter λt=>decide (t.k=.room)).length);rw[bE]at ht;have P:t.n∈G:=aw.2 #v[t,bE.2 #v[ht.1,by rw[ba ht.2];rfl],J];rw[e]at P;ext P
 let l:List L4.D->Sl->aU:=λu s=>[.q H,.q (.str f),.pm u,.q L,s];let#v[a,C,N,i1,R]:=pk (ρ:=l u .un) (i:=3) (j:=2) I X J J;let#v[b,d,O,i2,S]:=pk (ρ:=l C .un) (i:=3) (j:=2) I i1 J J;let m:=[a,b,"here"]++itL 1 f;let o:=m++otL f;have hP:∀t∈o,∃w,Tp T c t w:=λt ht=>by
  have sub:∀{p:Kd->Bool} {x:Str},x∈fu T p->x∈T.map Th.n:=λh=>(wx T _).subset h;rcases bt.1 ht with ht|ht
  .rcases bt.1 ht with ht|ht
   .rcases aJ.1 ht with rfl|ht
    .show#v[_,.tm (.nm c (nmN g N)) (sub N)]
    .rcases aJ.1 ht with rfl|ht
     .show#v[_,.tm (.nm c (nmN g O)) (sub O)]
     .rw[aN.1 ht];show#v[Z,.here]
   .let#v[z,E,F]:=UC B (.inl ht);show#v[_,.tm E (sub F)]
  .let#v[z,E,F]:=UC (n:=1) B (.inr ht);show#v[_,.tm E (sub F)]
 have lP:o.length<=10:=by change (([a,b,"here"]++itL 1 f)++otL f).length<=10;delta itL otL;split<;>split<;>simp
 have s1:(fx (cT (c2 (k? δ) ao (cL (vL k9)))) (vY (zF 4 (cC (.str "it")))) vJ:FS) (l d (.J ([a,b,"here"].map D.str)))=U (.nx (l d (.J (m.map D.str)))):=by
  have q:cT (c2 (k? δ) ao (cL (vL k9))) (l d (.J ([a,b,"here"].map D.str)))=U (decide (f="one" \/ f="two"),l d (.J ([a,b,"here"].map D.str))):=wz (vq J J (UB B));by_cases h:f="one" \/ f="two"
  .rw[aM h]at q;change _=U (mn.nx (l d (.J (([a,b,"here"]++itL 1 f).map D.str))));delta itL;rw[af h];show(v5 q)
  .rw[aP h]at q;change _=U (mn.nx (l d (.J (([a,b,"here"]++itL 1 f).map D.str))));delta itL;rw[ai h];show(vQ q)
 have s2:(fx (cT (c2 (eo δ) ao la)) (yc 4 (xi (t9 4) (cL (vL (ab oF (ab oF vG)))))) vJ:FS) (l d (.J (m.map D.str)))=U (.nx (l d (.J (o.map D.str)))):=by
  have q:cT (c2 (eo δ) ao la) (l d (.J (m.map D.str)))=U (decide (f="two"),l d (.J (m.map D.str))):=wz (vq J J (is2 B));by_cases h:f="two"
  .rw[aM h]at q;have e:o=m++(["other", "other"]:aD):=by change m++otL f=_;delta otL;rw[af h]
   rw[e]at lP ⊢;rw[aH]at lP;calc(v5 q).t ((BE (xM J J (by rw[ah];simp at lP ⊢;omega))).t ?_);rw[aZ (l₁:=m)];rfl
  .rw[aP h]at q;have e:o=m:=by change m++otL f=_;delta otL;rw[ai h,bF]
   rw[e];show(vQ q)
 have hne:o≠[]:=λe=>by have:=aW cD e;simp[o,m]at this
 let#v[p,A,Y,i3,W]:=KI (ρ:=l d (.J (o.map D.str))) (i:=2) (j:=4) i2 hne J J J (λr=>J);let#v[w,tm]:=hP p Y;calc#v[p,w,A,i3,tm,?_];have run:Ca (L? 5 u [H,.str f])=U (.rt (.str p) (l A (.J (o.map D.str)))):=by calc(ve ((vK (wq (vn J (t6 () Kd.hd aeN)))))).t ?_;calc(ve ((BE (BF (vm R (vm S J)) (cB J))))).t ?_;calc(ve s1).t ((ve s2).t ?_);show(vF W)
 delta zV z5;rw[af (show [H,D.str f].length=2 from J),run];rfl
def AO{g:List L4.D->List L4.D->Option (L4.D×List L4.D)}{i:Nat}{a:FA}{ρ ρ1:aU}{ds c b:List L4.D}{d:L4.D}(e:a ρ=U (ds,ρ1))(f:xb ρ1 i=U c)(h:g c ds=U (d,b)):wY g i a ρ=U (d,putAt ρ1 i b):=by delta wY;rw[e];erw[f,h]
end
section
variable{y:Str}{T:List Th}{M:List Mk}{dk:aD}{A:List (Str×Str)}
def Pk(l:aD)(lo b:Option Int):∃a:aD,gs (l.map D.str) lo b=a.map D.str/\(∀x∈a,x∈l)/\a.length<=l.length:=
 #v[(l.drop (HT.tX l.length 0 lo)).take (HT.tX l.length l.length b - HT.tX l.length 0 lo),by delta gs;rw[ah,<- gA,<- gE],λx c=>kh (pK c),by rw[bJ,cJ];omega]
def Pm{ρ:Sl->aU}{c:FT}{b:Bool}{e:FA}{P ys:aD}(i:∀d s,(ρ s).set 4 (.q d)=ρ (.q d))(f:∀d,cV 4 (ρ (.q d))=U (d,ρ (.q d)))(a:∀s,c (ρ s)=U (b,ρ s))(h:∀s,e (ρ s)=U (ys.map D.str,ρ s))(j:P.length+ys.length<=900):
  (fx c (vR 4 (cL (xi aF (cL e)))) vJ:FS) (ρ (.q (.ax (P.map D.str))))=U (.nx (ρ (.q (.ax ((P++if b then ys else []).map D.str))))):=by
 cases b with
 |false=>show(vQ (a _)).t (by rw[ai bB,bF];rfl)
 |true=>calc(v5 (a _)).t ((vK (wq (xM (f _) (wq (h _)) (by rw[ah,ah];omega)))).t ?_);rw[i,af J,aZ]
#print h
def XI(g:fy T M dk){c:L4.D}{f:Str}(G:Cm (fu T Kd.pl) c f){d:List L4.D}(X:IL d):∃t z q,IL q/\Tp T c t z/\ym d [wF T M dk y,.str f]=U (.str t,q):=by
 let x:=wF T M dk y;let N:=T.map Th.n;have hl:=g.len;let a:List L4.D->Sl->aU:=λd s=>[.q x,.q (.str f),.pm d,.q (.ax (N.map D.str)),s];have hN:0<N.length:=by have E:=g.r1;have Q:=iX (λt:Th=>decide (t.k=.room)) T;rw[ah];omega
 have lN:N.length=T.length:=ah _;let#v[r,b,Y,_,_,R]:=tk (ρ:=a d .un) (j:=2) (e:=c1 wW aB) (n:=N.length) () X J (wg J (by change U (D.int ((N.map D.str).length:Nat))=_;rw[ah]));let#v[O,H,m1,n1]:=Pk N (U r) Z;let#v[F,I,m2,n2]:=Pk O Z (U 3);let o:=F++(["here"]:aD);let C:=o++if decide (f="one" \/ f="two")then (["it", "it", "it"]:aD)else []
 let p:=C++if decide (f="two")then (["other", "other"]:aD)else []
 have lP0:o.length<=300:=by change (F++(["here"]:aD)).length<=300;rw[aH];simp;omega
 have lP1:C.length<=303:=by rw[aH];split<;>simp<;>omega
 have hP:∀t∈p,∃w,Tp T c t w:=λt ht=>by
  have byc:((t="it" /\ (f="one" \/ f="two"))\/(t="other" /\ f="two"))->∃w,Tp T c t w:=λh=>by let#v[z,E,Q]:=Pj G h;show#v[_,.tm E ((wx T _).subset Q)]
  rcases bt.1 ht with ht|ht
  .rcases bt.1 ht with ht|ht
   .rcases bt.1 ht with ht|ht
    .have h:=m1 _ (m2 _ ht);show#v[_,.tm (.nm c (g.nm _ (bw _ h))) h]
    .rw[aN.1 ht];show#v[Z,.here]
   .split at ht
    .rename_i h;calc byc (.inl #v[?_,ba h]);exists ht
    .ext ht
  .split at ht
   .rename_i h;calc byc (.inr #v[?_,ba h]);exists ht
   .ext ht
 have hne:p≠[]:=λe=>by have:=aW cD e;simp[p,C,o]at this
 let#v[t,u,ht,i2,S]:=pk (ρ:=a b (.q (.ax (p.map D.str)))) (i:=4) (j:=2) hne Y J J;let#v[z,tm]:=hP t ht;calc#v[t,z,u,i2,tm,?_];have run:AN (L? 5 d [x,.str f])=U (.rt (.str t) (a u (.q (.ax (p.map D.str))))):=by
  have W:=Cn (k:=3) (eh:=[]) (s:=iL (c2 wX ae jM)) (g:=gT eQ 3) (fe:=cV 0) (λt:Th=>wm t.rw) (λt=>D.str t.n) T (ρ:=[.q x,.q (.str f),.pm d,.un,.un]) J () λt v=>#v[_,_,J,J,J];refine(ve (ρ':=a d .un) ((vK (wq W)).t ?_)).t ?_
  .change _=U (mn.nx [.q x,.q (.str f),.pm d,.q (.ax ((T.map Th.n).map D.str)),.un]);rw[aT];rfl
  refine(ve (ρ':=a b (.q (.ax (o.map D.str)))) ((vK (wq (xM (xs:=F.map D.str) (ρ2:=a b .un) (wq ?_) J (by rw[ah];simp;omega)))).t ?_)).t ?_
  .have E:BI aB (vu (v9 vg 2 jS)) θ (a d .un)=U (O.map D.str,a b .un):=by change (match (match v9 vg 2 (ab (c1 wW aB) vG) (a d .un)with|some (.int i,m)=>U (U i,m)|_=>Z)with|some (l,B)=>U (gs (N.map D.str) l Z,B)|none=>Z)=_;rw[R];change U (gs (N.map D.str) (U r) Z,a b .un)=_;rw[H]
   delta cSl;rw[wq E];change U (gs (O.map D.str) Z (U 3),a b .un)=_;rw[I]
  .rw[show o.map D.str=F.map D.str++[.str "here"] from aZ];rfl
  calc(ve (Pm (ys:=["it", "it", "it"]) (λv v=>J) (λv=>J) (λs=>wz (vq J J (UB G))) (λv=>J) (by simp;omega))).t ?_;calc(ve (Pm (P:=C) (ys:=["other", "other"]) (λv v=>J) (λv=>J) (λs=>wz (vq J J (is2 G))) (λv=>J) (by simp;omega))).t ?_;show(vF S)
 delta ym z5;rw[af (show [x,D.str f].length=2 from J)];rw[show AN (L? 5 d [wF T M dk y,.str f])=_ from run];rfl
end
#print f
section
variable{y:Str}{T:List Th}{M:List Mk}{dk:aD}
inductive Ak(T:List Th) (c:L4.D):Nat->L4.D->Prop
 |at {n:Nat} {t p:Str} {z w:Option Str}:Tp T c t z->Tp T c p w->Ak T c n (.bx [.str "at", .str t,.str p])
 |has {n:Nat} {t:Str} {z:Option Str}:Tp T c t z->Ak T c n (.bx [.str "has", .str t])
 |seen {n:Nat} {t:Str} {z:Option Str}:Tp T c t z->Ak T c n (.bx [.str "seen", .str t])
 |kind {n:Nat} {t:Str} {z:Option Str} (k:Str):Tp T c t z->Ak T c n (.bx [.str "kind", .str t,.str k])
 |word {n:Nat} (x:Str):Ak T c n (.bx [.str "word", .str x])
 |marked {n:Nat} {t z:Str} (v:Int):Tm c t z->Ak T c n (.bx [.str "marked", .str t,.int v])
 |lit {n:Nat}:Ak T c n (.bx [.str "lit"])
 |no {n:Nat} {a:L4.D}:Ak T c n a->Ak T c (n+1) (.bx [.str "not", a])
 |both {n:Nat} {a b:L4.D}:Ak T c n a->Ak T c n b->Ak T c (n+1) (.bx [.str "both", a,b])
def UE{f:FE}{b:FG}{ρ ρ1 a:aU}{d:L4.D}(c:f ρ=U (d,ρ1))(e:b d ρ1=U a):JZ f b ρ=U (.nx a):=by delta JZ;rw[c];erw[e]
def Pn{l:aD}{r:Int}(b:0<=r)(c:r<l.length):∃x,x∈l/\e7 (.ax (l.map D.str)) (.int r)=U (.str x):=by
 let#v[m,rfl]:=cW b;have a:m<l.length:=by omega
 show#v[_,cG a,yn (aI a)]
def XJ{n:Nat}(h:n<=3)(a b p q r s t:Sl):c2 e7 (cL (vL (ab dU (a1 fZ)))) (c1 ID (c2 IC aB aO)) [a,b,p,.q (.int ((n+1:Nat):Int)),q,r,s,t]=U (.int (if n=0 then 7 else 10),[a,b,p,.q (.int ((n+1:Nat):Int)),q,r,s,t]):=by
 match n,h with
 |0,_=>kernel_rfl
 |1,_=>kernel_rfl
 |2,_=>kernel_rfl
 |3,_=>kernel_rfl
def Akr(T:List Th)(c:L4.D)(n:Nat)(ρ:List L4.D->Sl->Sl->Sl->Sl->aU)(x:Option mn):Prop:=∃d e a b p q,IL e/\Ak T c n d/\x=U (.rt d (ρ e a b p q))
def akr{T:List Th}{c:L4.D}{n:Nat}{ρ:List L4.D->Sl->Sl->Sl->Sl->aU}{x:Option mn}{d:L4.D}{e:List L4.D}{a b p q:Sl}(f:IL e)(h:Ak T c n d)(i:x=U (.rt d (ρ e a b p q))):Akr T c n ρ x:=#v[d,e,a,b,p,q,f,h,i]
def My(g:fy T M dk){c:L4.D}{f:Str}(H:Cm (fu T Kd.pl) c f){n:Nat}(hn:n<=3)
  (ih:∀m,n=m+1->∀A,IL A->∃d i,IL i/\Ak T c m d/\vU n A [wF T M dk y,.str f,.int n]=U (d,i)) {A:List L4.D} (hi:IL A):∃d i,IL i/\Ak T c n d/\vU (n+1) A [wF T M dk y,.str f,.int ((n+1:Nat):Int)]=U (d,i):=by
 let W:=((n+1:Nat):Int);let sp:=wF T M dk y;let u:List L4.D->Sl->Sl->Sl->Sl->aU:=λA a b p q=>[.q sp,.q (.str f),.pm A,.q (.int W),a,b,p,q];have suf:∀{d:L4.D} {i:List L4.D} {a b p q:Sl},w9 (vU n) (u A .un .un .un .un)=U (.rt d (u i a b p q))->vU (n+1) A [wF T M dk y,.str f,.int W]=U (d,i):=λ{d i a b p q} run=>by delta vU fnJ;rw[af (show [sp,D.str f,.int W].length=3 from J)];rw[show w9 (vU n) (stJ 2 8 A [wF T M dk y,.str f,.int W])=_ from run];rfl
 let#v[r,o,G,r0,r1,e1]:=tk (ρ:=u A .un .un .un .un) (j:=2) (by split<;>decide) hi J (XJ hn _ _ _ _ _ _ _);have fin:Akr T c n u (w9 (vU n) (u A .un .un .un .un))->∃d i,IL i/\Ak T c n d/\vU (n+1) A [wF T M dk y,.str f,.int W]=U (d,i):=λ#v[d,i,a,b,p,q,X,Y,h3]=>#v[d,i,X,Y,suf h3];calc fin ?_;delta w9;rw[ve ((vK e1).t (show _=U (mn.nx (u o (.q (.int r)) .un .un .un)) from J))];have trm:∀{x:List L4.D} (s5:Sl),IL x->∃t z i,IL i/\Tp T c t z/\wY ym 2 cO (u x (.q (.int r)) s5 .un .un)=U (.str t,u i (.q (.int r)) s5 .un .un):=λ{x} s5 h=>by let#v[t,z,i,X,Y,h4]:=XI g H h;show#v[t,z,i,X,Y,(AO J J h4).t J]
 have hgo:f="way" -> ∃z,c=.bx [.str "go", .str z,.I]:=λh=>by
  cases H with
  |go z=>show#v[z,J]
  |_=>show au h #[]
 have eu:(4<=r)->f≠"way" \/ r≠4->∀S:FS,S=(a0 (fx (zu (cT (c2 DA aF dD)) (Ah (cT (c2 (k? δ) ao (cL (vL gV)))) (cT (c2 WY (vo yu bX) (CG []))))) (a0 (JZ (wY yE 2 cO) (gT sL 2))
   (vz (v8 sU))) vJ)
   (a0 (fx (cT (c2 DA aF dU)) (vz (v8 (a1 (cS "lit")))) vJ)
   (a0 (fx (cT (c2 (eo δ) aF dU)) (vz (v8 (ab (cS "not") (a1 (wY (vU n) 2 gZ))))) vJ)
   (vz (v8 (ab (cS "both") (ab (wY (vU n) 2 gZ) (a1 (wY (vU n) 2 gZ)))))))))->Akr T c n u (S (u o (.q (.int r)) .un .un .un)):=λh4 hw S et=>by
  subst et;let#v[V,em,v1,v2,rfl]:=Ie (y:=y) g;have lit:r<7->∀{S:FS},(a0 (fx (cT (c2 DA aF dU)) (vz (v8 (a1 (cS "lit")))) vJ) S:FS) (u o (.q (.int r)) .un .un .un)=U (.rt (.bx [.str "lit"]) (u o (.q (.int r)) .un .un .un)):=λh7 {S}=>vW ((v5 (wz (vq J J (by change U (D.bl (decide (r<7)))=_;rw[aM h7])))));have lt:∀k:Int,cT (c2 DA aF (cC (.int k))) (u o (.q (.int r)) .un .un .un)=U (decide (r<k),u o (.q (.int r)) .un .un .un):=λk=>J;by_cases h7:7<=r
  .have hn0:n≠0:=λe=>by rw[af e]at r1;omega
   let#v[m,O]:=Nat.exists_eq_succ_of_ne_zero hn0;have rcr:∀x,IL x->∃d i,IL i/\Ak T c m d/\wY (vU n) 2 gZ (u x (.q (.int r)) .un .un .un)=U (d,u i (.q (.int r)) .un .un .un):=λx h=>by let#v[d,i,X,Y,h3]:=ih m O x h;calc#v[d,i,X,Y,(AO (vm J (vm J (vm (vq J J ?_) J))) J h3).t J];change U (D.int (((n+1:Nat):Int) - 1))=_;congr 2;omega
   have n6:=lt 6;rw[aP ()]at n6;have n7:=lt 7;rw[aP ()]at n7;rw[ve ((vQ (Dy n6))),ve ((vQ n7))];let#v[d1,B,F,k1,E]:=rcr o G;have q7:cT (c2 (eo δ) aF dU) (u o (.q (.int r)) .un .un .un)=U (decide (r=7),u o (.q (.int r)) .un .un .un):=wz (vq J J (zm δ r 7));by_cases h8:r=7
   .rw[aM h8]at q7;show akr F (O▸.no k1) (vW ((v5 q7).t (vF (xV (vm J (vm E J)) (cB J)))))
   .rw[aP h8]at q7;let#v[d2,P,Q,k2,N]:=rcr B F;show akr Q (O▸.both k1 k2) ((ve ((vQ q7))).t (vF (xV (vm J (vm E (vm N J))) (cB J))))
  by_cases hb:r<6/\(f="one" \/ f="two" \/ ov T M≠[])
  .let#v[h6,hf]:=hb;let#v[t,z,v,i,i',tm,e]:=QN g H G hf;calc akr i' (.marked v tm) (vW ((v5 (ρ':=u o (.q (.int r)) .un .un .un) ?_).t ((ve (UE (AO J J e) J)).t J)));calc(Br ((lt 6).t (by rw[aM h6]))).t ?_;have I:cT (c2 (k? δ) ao (cL (vL gV))) (u o (.q (.int r)) .un .un .un)=U (decide (f="one" \/ f="two"),u o (.q (.int r)) .un .un .un):=wz (vq J J (UB H));by_cases C:f="one" \/ f="two"
   .rw[aM C]at I;show Im I
   .rw[aP C]at I;have hm:ov T M≠[]:=by
     rcases hf with h|h|h
     .show au (.inl h) C
     .show au (.inr h) C
     .show h
    calc(CC I (wz (vq (vn J em) J J))).t ?_;let#v[q,l,e]:=j3 hm;rw[e];rfl
  .calc akr G (.lit) ((ve ((vQ ?_))).t (lit ()));by_cases h6:r<6
   .have hn:=λh=>hb #v[h6,h];have C:¬(f="one" \/ f="two"):=λh=>hn (h.elim .inl λh=>.inr (.inl h));have hm:=hU λh=>hn (.inr (.inr h));calc(Br ((lt 6).t (by rw[aM h6]))).t ?_;have I:cT (c2 (k? δ) ao (cL (vL gV))) (u o (.q (.int r)) .un .un .un)=U (decide (f="one" \/ f="two"),u o (.q (.int r)) .un .un .un):=wz (vq J J (UB H));rw[aP C]at I;calc(CC I (wz (vq (vn J em) J J))).t ?_;rw[hm];rfl
   .have:r=6:=by omega
    subst this;show Dy J
 have cs:r=0\/r=1\/r=2\/r=3\/4<=r:=by omega
 rcases cs with rfl|rfl|rfl|rfl|h4
 .let#v[t,z,B,F,R,E]:=trm .un G;let#v[p,w,P,Q,tw,N]:=UD g H F;show akr Q (.at R tw) (vW ((v5 J).t (vF (xV (vm J (vm E (vm (AO J J N) J))) (cB J)))))
 .let#v[t,z,B,F,R,E]:=trm .un G;show akr F (.has R) ((ve ((vQ J))).t (vW ((v5 J).t (vF (xV (vm J (vm E J)) (cB J))))))
 .let#v[t,z,B,F,R,E]:=trm .un G;show akr F (.seen R) ((ve ((vQ J))).t ((ve ((vQ J))).t (vW ((v5 J).t (vF (xV (vm J (vm E J)) (cB J)))))))
 .let ks:aD:=["room", "plain", "fixed", "box", "lamp", "you", "box", "lamp"];let#v[t,z,B,F,R,E]:=trm (.q (.ax (ks.map D.str))) G;let#v[q,P,Q,q0,q1,N]:=tk (ρ:=u B (.q (.int 3)) (.q (.ax (ks.map D.str))) .un .un) (j:=2) (e:=cC (.int 8)) #[] F J J;let#v[k,hk,ek]:=Pn (l:=ks) q0 q1;refine akr Q (.kind k R) ((ve ((vQ J))).t ((ve ((vQ J))).t ((ve ((vQ J))).t (vW ((v5 J).t ((ve J).t (vF (xV (vm J (vm E (vm (vq J N ek) J))) (cB J)))))))) )
 .have n0:∀k:Int,k<4->∀{s t:FS},(a0 (fx (cT (c2 (eo δ) aF (cC (.int k)))) s vJ) t:FS) (u o (.q (.int r)) .un .un .un)=t (u o (.q (.int r)) .un .un .un):=λk hk s t=>ve ((vQ (wz (vq J J ((zm δ r k).t (by rw[aP ()];rfl))))));rw[n0 0 #[],n0 1 #[],n0 2 #[],n0 3 #[]];by_cases hw:f="way" /\ r=4
  .let#v[rfl,rfl]:=hw;let#v[q,P,Q,q0,q1,N]:=tk (ρ:=u o (.q (.int 4)) .un .un .un) (j:=2) (e:=cC (.int 4)) #[] G J J;let#v[k,_,ek]:=Pn (l:=["north", "up", "down", "upp"]) q0 q1;show akr Q (.word k) (vW ((v5 (by kernel_rfl)).t (vF (xV (vm J (vm (vq J N ek) J)) (cB J)))))
  .have ew:zu (cT (c2 (eo δ) aF fX)) (cT (c2 (eo δ) ao jN)) (u o (.q (.int r)) .un .un .un)=U (δ,u o (.q (.int r)) .un .un .un):=by
    have e4:cT (c2 (eo δ) aF fX) (u o (.q (.int r)) .un .un .un)=U (decide (r=4),u o (.q (.int r)) .un .un .un):=wz (vq J J (zm δ r 4));by_cases h:r=4
    .rw[aM h]at e4;calc(Br e4).t (wz (vq J J ?_));cases H with
     |go z=>show au #v[J,h] hw
     |_=>rfl
    .rw[aP h]at e4;show Dy e4
   rw[ve ((vQ ew).t (show _=U (mn.nx (u o (.q (.int r)) .un .un .un)) from J))];show eu h4 (hU λh=>hw #v[hU λq=>h (.inl q),hU λq=>h (.inr q)]) _ J
theorem Mz(g:fy T M dk){c:L4.D}{f:Str}(i:Cm (fu T Kd.pl) c f):∀{n:Nat},n<=3->∀{b:List L4.D},IL b->∃d a,IL a/\Ak T c n d/\vU (n+1) b [wF T M dk y,.str f,.int ((n+1:Nat):Int)]=U (d,a)
 |0,h,b,j=>My g i h (λm e=>by ext e) j
 |n+1,h,b,j=>My g i h (λm e a l=>by ext e;show Mz g i () l) j
end
def kD(k:Ky):L4.D:=.bx [.str k.1,.str k.2]
section
variable{y:Str}{T:List Th}{M:List Mk}{dk:aD}{mo:L4.D}
def XM(a:(fu T Kd.mk++M.map Mk.n).Nodup){x:Str}{m:Int}(h:(x,m)∈ov T M):zJ [wM T M dk y,.str x]=U (.int m):=by calc vA J (vF (vq J J ?_));change U ((xX _ _ (kS x)).getD .I)=_;rw[NY (by rw[zX];show a) h];rfl
#print "MA γ f;Io δ g" in def ϑ0{c:FT}{f g:FE}{ρ a:aU}(h:c ρ=U (ϑ1,a)):Y? c f g ρ=ϑ2 a:=by delta Y?;rw[h]
def UF{V:List (Str×Int)}{x:Str}(h:x∉V.map aj):xX (V.map λq=>kS q.1) (V.map λq=>D.int q.2) (kS x)=Z:=by calc Do λz=>h ?_;let#v[q,a,e]:=aw.1 z;show aw.2 #v[q,a,D8 e]
def XN{x:Str}(h:x∉fu T Kd.mk++M.map Mk.n):zJ [wM T M dk y,.str x]=U .I:=by calc vA J (vF (vq J J ?_));change U ((xX _ _ (kS x)).getD .I)=_;rw[UF (by rw[zX];show h)];rfl
def UG{x:Str}(h:x∉fu T Kd.mk++M.map Mk.n):y3 [wM T M dk y,.str x]=U (.ax []):=by let a:aU:=[.q (wM T M dk y),.q (.str x)];calc vA (ρ:=a) J (vF ?_);have t:cT (c2 Be (vZ yD "most_of" ae iO) bu) a=U (γ,a):=wz (vq (wt J J J J (XN h)) J J);show(MA t)
def QO(b:(fu T Kd.mk++M.map Mk.n).Nodup){x:Str}{m:Int}(h:(x,m)∈ov T M):y3 [wM T M dk y,.str x]=U (.ax [kD ("mark", x)]):=by let a:aU:=[.q (wM T M dk y),.q (.str x)];calc vA (ρ:=a) J (vF ?_);have t:cT (c2 Be (vZ yD "most_of" ae iO) bu) a=U (δ,a):=wz (vq (wt J J J J (XM b h)) J J);show(Io t)
def N3(d:(T.map Th.n).Nodup){t:Th}(c:t∈T)(b:t.k≠.room):xu [wO T M dk y mo,.str t.n]=U (.ax [kD ("at", t.n)]):=by let W:=wO T M dk y mo;let a:aU:=[.q W,.q (.str t.n),.q (ff t)];calc vA (ρ:=a) J ?_;calc(ve ((vK (wt J J J J (Di d c))))).t (vF ?_);have e:cT (c2 (eo δ) (c1 (vP wo "kind") az) gX) a=U (δ,a):=wz (vq (wg J (Cc t)) J ((EY t.k .room).t (by rw[aP b])));show(Io (CC J e))
end
section
variable{y:Str}{T:List Th}{M:List Mk}{dk:aD}
def KO{c:L4.D}{t z:Str}(e:Tm c t z):(c=.bx [.str "take", .str z,.I]/\t="it")\/(∃b,c=.bx [.str "put", .str z,.str b]/\t="it")\/(∃a,c=.bx [.str "put", .str a,.str z]/\t="other")\/(Nm t/\z=t):=by
 cases e with
 |it1 a=>show .inl #v[J,J]
 |it2 a b=>show .inr (.inl #v[b,J,J])
 |W1 a b=>show .inr (.inr (.inl #v[a,J,J]))
 |nm c d=>show .inr (.inr (.inr #v[d,J]))
structure Gv(c it ot a b:L4.D):Prop where
 g:∀t z,Tm c t z->BW [.str t,it,ot]=U (.str z)
 l:∀t z,Tm c t z->(xX [kS "it", kS "other", kS "here"] [a,b,.I] (kS t)).getD (.str t)=.str z
 c:∃v,c=.bx [v,a,b]
def Gk{it ot a b:L4.D}{x:Str}(d:Nm x):BW [.str x,it,ot]=U (.str x)/\(xX [kS "it", kS "other", kS "here"] [a,b,.I] (kS x)).getD (.str x)=.str x:=by
 have n:=Uz d;have f:eo δ (.str x) (.str "here")=U (.bl δ):=by rw[yW,aP λe=>n (by rw[e];simp)];rfl
 have h:eo δ (.str x) (.str "it")=U (.bl δ):=by rw[yW,aP λe=>n (by rw[e];simp)];rfl
 have i:eo δ (.str x) (.str "other")=U (.bl δ):=by rw[yW,aP λe=>n (by rw[e];simp)];rfl
 let c:aU:=[.q (.str x),.q it,.q ot];refine#v[vA (ρ:=c) J ?_,?_]
 .delta Kz;calc(ve ((vQ (wz (vq J J h))))).t ?_;calc(ve ((vQ (wz (vq J J i))))).t ?_;show vF ((Io (wz (vq J J f))).t J)
 .rw[Do λw=>?_]
  .rfl
  .rcases aJ.1 w with w|w
   .show n (by rw[D8 w];simp)
   .rcases aJ.1 w with w|w
    .show n (by rw[D8 w];simp)
    .show n (by rw[D8 (aN.1 w)];simp)
#print "MB it a;UH other b" in def ϑ0(a b:L4.D):BW [.str "ϑ1", a,b]=U ϑ2:=by kernel_rfl
def DR{a b c d e f:L4.D}(h:D.bx [a,b,c]=.bx [d,e,f]):a=d/\b=e/\c=f:=by ext h;show#v[J,J,J]
def KP{a b:Str}(h:¬a=b):D.str a≠.str b:=λe=>h (D.str.inj e)
def QP{j:aD}{c:L4.D}{f:Str}(e:Cm j c f):∃it ot a b,zW [c]=U (.bx [it,ot])/\Gv c it ot a b:=by
 cases e with
 |go z=>
  calc#v[.I,.I,.str z,.I,by kernel_rfl,λt x d=>?_,λt x d=>?_,_,J]<;>(rcases KO d with ⟨h,_⟩|⟨_,h,_⟩|⟨_,h,_⟩|⟨h,rfl⟩)
  all_goals first
   |show au (DR h).1 (KP #[])
   |show(Gk (a:=.I) (b:=.I) h).1
   |show(Gk (it:=.I) (ot:=.I) h).2
 |wait=>
  calc#v[.I,.I,.I,.I,by kernel_rfl,λt x d=>?_,λt x d=>?_,_,J]<;>(rcases KO d with ⟨h,_⟩|⟨_,h,_⟩|⟨_,h,_⟩|⟨h,rfl⟩)
  all_goals first
   |show au (DR h).1 (KP #[])
   |show(Gk (a:=.I) (b:=.I) h).1
   |show(Gk (it:=.I) (ot:=.I) h).2
 |@take a i=>
  calc#v[.str a,.I,.str a,.I,by kernel_rfl,λt x d=>?_,λt x d=>?_,_,J]<;>(rcases KO d with ⟨h,rfl⟩|⟨_,h,_⟩|⟨_,h,_⟩|⟨h,rfl⟩)
  all_goals first
   |show au (DR h).1 (KP #[])
   |show(Gk (a:=.I) (b:=.I) h).1
   |show(Gk (it:=.I) (ot:=.I) h).2
   |(rw[(DR h).2.1];show MB _ _)
   |(rw[(DR h).2.1];rfl)
 |@put a b i l=>
  calc#v[.str a,.str b,.str a,.str b,by kernel_rfl,λt x d=>?_,λt x d=>?_,_,J]<;>(rcases KO d with ⟨h,rfl⟩|⟨_,h,rfl⟩|⟨_,h,rfl⟩|⟨h,rfl⟩)
  all_goals first
   |show au (DR h).1 (KP #[])
   |show(Gk (a:=.I) (b:=.I) h).1
   |show(Gk (it:=.I) (ot:=.I) h).2
   |(rw[(DR h).2.1];show MB _ _)
   |(rw[(DR h).2.2];show UH _ _)
   |(rw[(DR h).2.1];rfl)
   |(rw[(DR h).2.2];rfl)
def Two(a:List aD):Prop:=∀k∈a,∃p q,k=[p,q]
theorem Ip:∀{a:List aD},Two a->DK (a.map fm)=U a
 |[],_=>rfl
 |k::a,h=>by let#v[p,q,rfl]:=h k aX;rw[aA];delta DK;rw[Ip λk b=>h k (bg _ b)];rfl
def aeO{e:FE}{c a:aU}{d:L4.D}{b:List aD}(h:e c=U (d,a))(hd:sqD d=U (b.map fm))(f:Two b)(i:(Hj b).length<63):FN (cL (zi e)) c=U (.bx ((Fp (Hj b)).map fm),a):=by
 have e:zi e c=U ((Fp (Hj b)).map fm,a):=by delta zi;rw[h];erw[hd,Option.bind_some,Ip f];rw[af i]
 delta FN;rw[wq e]
abbrev X?(a:List aD):L4.D:=.bx ((Fp (Hj a)).map fm)
def XO{d:L4.D}{a:List aD}(hd:sqD d=U (a.map fm))(b:Two a)(c:(Hj a).length<63):BX [d]=U (X? a):=vA J (vF (aeO J hd b c))
def E2{c:List aD}{k:aD}:k∈Fp c ↔ k∈c:=by
 delta Fp;by_cases h:c=[]
 .rw[af h,h]
 .rw[ai h];have d:=eX.2 h;constructor
  .intro b;let#v[i,a,rfl]:=aw.1 b;have a:=Dn _ d i a;rw[bV,aI a];show cG a
  .intro b;let#v[i,a,rfl]:=dY.1 b;calc aw.2 #v[i,(zg _ d).mem_iff.2 (bY.2 a),?_];rw[bV,aI a];rfl
def MC{a:List aD}:(Fp a).length=a.length:=by
 delta Fp;by_cases h:a=[]
 .rw[af h,h]
 .rw[ai h,ah,(zg _ (eX.2 h)).length_eq,cI]
def aeP{a b:List aD}(c:Two a)(h:∀k,k∈a ↔ k∈b):X? a=X? b:=by
 have p:(Hj b).Perm (Hj a):=(List.perm_ext_iff_of_nodup (HM _) (HM _)).2 λk=>by rw[zP,zP];show(h k).symm
 change D.bx _=.bx _;rw[O1 p (HM _) λk d=>c k (zP.1 d)]
def tH(b:Str):aD:=["at", b]
def mkK(b:Str):aD:=["mark", b]
def prt(T:List Th)(M:List Mk):List aD:=(T.map Th.n).map tH++((ov T M).map aj).map mkK
abbrev Sb(T:List Th)(M:List Mk)(a:List aD):Prop:=∀k∈a,k∈prt T M
def UI{a:List aD}(h:Sb T M a):Two a:=λk c=>by
 rcases bt.1 (h k c)with h|h
 .let#v[b,_,rfl]:=aw.1 h;show#v[_,_,J]
 .let#v[b,_,rfl]:=aw.1 h;show#v[_,_,J]
def K3(g:fy T M dk):T.length<=13:=by
 have a:=g.r5;have b:=g.y1;have c:=g.p7;have:∀l:List Th,l.length=(l.filter λt=>decide (t.k=.room)).length+(l.filter λt=>decide (t.k=.you)).length+(l.filter λt=>t.k.pl).length:=λl=>by
  induction l with
  |nil=>rfl
  |cons t l d=>rw[aL,fO,fO,fO];let#v[n,w,k,st]:=t;ext k<;>simp[show Kd.room.pl=δ from J,show Kd.you.pl=δ from J,show Kd.plain.pl=γ from J,show Kd.fixed.pl=γ from J,show Kd.box.pl=γ from J,show Kd.lamp.pl=γ from J]<;>omega
 have:=this T;omega
def N4(g:fy T M dk){b:List aD}(h:Sb T M b):(Hj b).length<63:=by have a:=OX (HM b) λk d=>h k (zP.1 d);have e:=K3 g;have c:=(wx T Kd.mk).length_le;have f:=g.m4;delta prt at a;rw[zX]at a;erw[aH,ah]at a c;omega
end
section
variable{y:Str}{T:List Th}{M:List Mk}{dk:aD}
abbrev y?(T:List Th):aD:=fu T λk=>decide (k=.room)
def MS(T:List Th):Option Str->List aD
 |none=>[]
 |some z=>if z∈y? T then []else [tH z]
def mpK(T:List Th)(M:List Mk)(z:Str):List aD:=if z∈(ov T M).map aj then [mkK z]else []
def ζ(T:List Th)(y:Str):List aD:=(ti T++Mn T++[y]).map tH++(ti T++Mn T).map mkK
def YK(g:fy T M dk){z:Option Str}(j:∀x,z=U x->x∈T.map Th.n):xu [wM T M dk y,oS z]=U (.ax ((MS T z).map fm)):=by
 cases z with
 |none=>kernel_rfl
 |some x=>
  let#v[t,b,rfl]:=aw.1 (j x J);change _=U (D.ax ((if t.n∈y? T then []else [tH t.n]).map fm));by_cases a:t.k=.room
  .rw[af (show t.n∈y? T from aw.2 #v[t,bE.2 #v[b,aM a],J])];let c:aU:=[.q (wM T M dk y),.q (.str t.n),.q (ff t)];calc vA (ρ:=c) J ?_;calc(ve ((vK (wt J J J J (Di g.L' b))))).t (vF ?_);have e:cT (c2 (eo δ) (c1 (vP wo "kind") az) gX) c=U (γ,c):=wz (vq (wg J (Cc t)) J ((EY t.k .room).t (by rw[aM a])));show(MA (CC J e))
  .rw[ai λh:t.n∈y? T=>by
    let#v[u,f,i,d]:=xP h;rw[Ea g.L' f b i]at d;show a (ba d)]
   show N3 g.L' b a
def aeQ(g:fy T M dk)(z:Str):y3 [wM T M dk y,.str z]=U (.ax ((mpK T M z).map fm)):=by
 delta mpK;by_cases h:z∈(ov T M).map aj
 .rw[af h];let#v[q,a,rfl]:=aw.1 h;show QO (g.nd.sublist ((wx T _).append (fj _))) a
 .rw[ai h];rw[zX]at h;show UG h
def XQ(a:T.length<=1000)(k:Kd):zI [wM T M dk y,.str k.s]=U (.ax ((fu T λj=>decide (j=k)).map D.str)):=by have:=D9 T a (wNs.tail) ((wDs T M dk y (vj (ov T M))).tail) k;calc this.t ?_;delta fu;rw[aT];rfl
def QQ(g:fy T M dk)(p:Kd->Bool):(fu T p).length<=13:=by have a:=(wx T p).length_le;have b:=K3 g;rw[ah]at a;omega
def KQ{w:Str}{s:FA}{ρ:aU}{l:aD}(a:s ρ=U (l.map D.str,ρ))(c:l.length<=100):vS 1 [] s (gN 0) wJ (v8 (ab (cS w) bX)) ρ=U ((l.map λb=>[w,b]).map fm,ρ):=by rw[aT];show Cn D.str (λb=>fm [w,b]) l a () λb z=>#v[[.q (.str b)],[.q (.str b)],J,J,J]
def of_k(g:fy T M dk)(k:Kd){w:Str}(a:w=k.s){r:aU}:vZ wG "of_kind" ae (a1 (cS w)) (.q (wM T M dk y)::r)=U (.ax ((fu T λj=>decide (j=k)).map D.str),.q (wM T M dk y)::r):=by subst a;have:=K3 g;show wt J J J J (XQ () k)
def acF(g:fy T M dk):CW [wM T M dk y]=U (.ax (((ti T).map tH).map fm)):=by have:=QQ g λk=>decide (k=.box);show NA J (AD (KQ (Dh (of_k g .box J)) (bW this #[])))
def ME(g:fy T M dk):zr [wM T M dk y]=U (.ax ((ζ T y).map fm)):=by
 let N:=ti T++Mn T;have d:=QQ g λk=>decide (k=.box);have e:=QQ g λk=>decide (k=.lamp);have lN:N.length<=26:=by change (ti T++Mn T).length<=26;rw[aH];show mQ d e
 let W:=wM T M dk y;let c:Sl->Sl->aU:=λa b=>[.q W,a,b];let dN:L4.D:=.ax (N.map D.str);let dM:L4.D:=.ax ((N.map mkK).map fm);calc NA (ρ:=c (.q dN) (.q dM)) J ?_;refine(ve (ρ':=c (.q dN) .un) ((vK (wq (xM (of_k g .box J) (of_k g .lamp J) (by rw[ah,ah];show bW (mQ d e) #[])))).t ?_)).t ?_
 .change _=U (mn.nx [.q W,.q (.ax ((ti T++Mn T).map D.str)),.un]);rw[aZ];rfl
 calc(ve ((vK (wq (KQ J ()))))).t ?_;have c1:=KQ (w:="at") (s:=iL (cL (xi ao (cL (vL lp))))) (ρ:=c (.q dN) (.q dM)) (by
  calc Dh (wq ((xM (ys:=[.str y]) (ρ2:=c (.q dN) (.q dM)) J (by kernel_rfl) (by rw[ah,bq];omega)).t ?_));rw[aZ (l₂:=[y])];rfl) (by rw[aH,bq];omega)
 calc(AD (xM (wq c1) J (by erw[ah,aH,bq];omega))).t ?_;delta ζ;rw[aZ (l₁:=oa tH _)];rfl
end
section
variable{y:Str}{T:List Th}{M:List Mk}{dk:aD}{c it ot a b:L4.D}
def Po{t:Str}{z:Option Str}(d:Tp T c t z):∀x,z=U x->x∈T.map Th.n:=λx e=>by
 cases d with
 |here=>cases e
 |tm _ h=>ext e;show h
def aeR(d:Gv c it ot a b){t:Str}{z:Option Str}(e:Tp T c t z):BW [.str t,it,ot]=U (oS z):=by
 cases e with
 |here=>kernel_rfl
 |tm h _=>show d.g _ _ h
end
structure Sv(T:List Th)(M:List Mk)(y:Str)(A:List (Str×Str))(V:List (Str×Int))(S:List (Ky×L4.D))(r:Str):Prop where
 s:ZX T A V S y r
 dm:∀x,x∈A.map aj ↔ x∈fu T λk=>!decide (k=.room)
 hd:∀q∈A,q.2∈fu T Kd.hd
 rm:r∈y? T
 vk:∀q∈V,q.1∈(ov T M).map aj
def Ag(Q:List aD)(A a:List (Str×Str))(V b:List (Str×Int)):Prop:=∀x,(tH x∈Q->∀z,(x,z)∈A ↔ (x,z)∈a)/\(mkK x∈Q->∀z,(x,z)∈V ↔ (x,z)∈b)
section
variable{A A':List (Str×Str)}{V V':List (Str×Int)}{S S':List (Ky×L4.D)}{y r r':Str}{T:List Th}{M:List Mk}{dk:aD}{c d:L4.D}{n:Nat}{t:Str}{z:Option Str}{Q Q':List aD}
def Ag.mono(h:Ag Q A A' V V')(s:∀k∈Q',k∈Q):Ag Q' A A' V V':=λx=>#v[λe=>(h x).1 (s _ e),λe=>(h x).2 (s _ e)]
def Pp{f:L4.D}{z:Str}(h:Tm c t z):yG [wO T M dk y f,sD S,c,.str t]=U (.str z):=by
 cases h with
 |it1 a=>show Pi (XB _ _)
 |it2 a b=>show Pi (Uy _ _)
 |W1 a b=>show N0 (Uy _ _)
 |nm c e=>show XD e
def E3(v:Sv T M y A V S r){mo:L4.D}(b:Tp T c t z):yG [wO T M dk y mo,sD S,c,.str t]=U (.str (z.getD r)):=by
 cases b with
 |here=>show QM v.s.a v.s.o v.s.hr
 |tm tm _=>show Pp tm
def AQ(v:Sv T M y A V S r){x:Str}(h:x∈y? T):x∉A.map aj:=λe=>
 zb v.s.nd (λk b a=>by rw[b]at a;ext a) h ((v.dm x).1 e)
def GR(v:Sv T M y A V S r)(a:Tp T c t z):z.getD r∈T.map Th.n:=by
 cases a with
 |here=>show(wx T _).subset v.rm
 |tm _ h=>show h
def YL(v:Sv T M y A V S r)(q:Sv T M y A' V' S' r')(w:∀x∈ti T,∀z,(x,z)∈A ↔ (x,z)∈A')(B:∀z,(y,z)∈A ↔ (y,z)∈A')(E:(T.filter λt=>decide (t.k=.you)).map Th.n=[y]){l m:aD}:∀{x:Str},(∀z,(x,z)∈A ↔ (x,z)∈A')->Ch A x l->Ch A' x m->l=m:=by
 induction l generalizing m with
 |nil=>
  intro x i c b;cases c with
  |nil h=>
   cases b with
   |nil _=>rfl
   |cons f _=>show au (aw.2 #v[_,(i _).2 f,J]) h
 |cons a l C=>
  intro x i c b;cases c with
  |cons h c=>
   cases b with
   |nil f=>show au (aw.2 #v[_,(i _).1 h,J]) f
   |cons f b=>
    have e:=Cd q.s.a.nd ((i _).1 h) f;subst e;refine aW (a::·) (C (λz=>?_) c b)
    let#v[u,j,rfl,o]:=xP (v.hd _ h);cases k:u.k with
    |box=>show w _ (aw.2 #v[u,bE.2 #v[j,aM k],J]) z
    |you=>have:u.n∈(T.filter λt=>decide (t.k=.you)).map Th.n:=aw.2 #v[u,bE.2 #v[j,aM k],J];rw[E]at this;rw[aN.1 this];show B z
    |room=>have p:u.n∈y? T:=aw.2 #v[u,bE.2 #v[j,aM k],J];show#v[λe=>au (aw.2 #v[_,e,J]) (AQ v p),λe=>au (aw.2 #v[_,e,J]) (AQ q p)]
    |_=>rw[k]at o;ext o
def acG(v:Sv T M y A V S r)(w:Sv T M y A' V' S' r')(B:∀x∈ti T,∀z,(x,z)∈A ↔ (x,z)∈A')(E:(T.filter λt=>decide (t.k=.you)).map Th.n=[y]){l m:aD}:∀{x:Str},(∀z,(x,z)∈A ↔ (x,z)∈A')->Ch A x l->Ch A' x m->(y∈l ↔ y∈m):=by
 induction l generalizing m with
 |nil=>
  intro x i c b;cases c with
  |nil h=>
   cases b with
   |nil _=>show gU
   |cons f _=>show au (aw.2 #v[_,(i _).2 f,J]) h
 |cons a l C=>
  intro x i c b;cases c with
  |cons h c=>
   cases b with
   |nil f=>show au (aw.2 #v[_,(i _).1 h,J]) f
   |cons f b=>
    have e:=Cd w.s.a.nd ((i _).1 h) f;subst e;by_cases o:y=a
    .subst o;show#v[λ_=>aX,λ_=>aX]
    rw[aJ,aJ];calc or_congr gU (C (λz=>?_) c b);let#v[u,j,rfl,p]:=xP (v.hd _ h);cases k:u.k with
    |box=>show B _ (aw.2 #v[u,bE.2 #v[j,aM k],J]) z
    |you=>have:u.n∈(T.filter λt=>decide (t.k=.you)).map Th.n:=aw.2 #v[u,bE.2 #v[j,aM k],J];rw[E]at this;show au (aN.1 this).symm o
    |room=>have q:u.n∈y? T:=aw.2 #v[u,bE.2 #v[j,aM k],J];show#v[λe=>au (aw.2 #v[_,e,J]) (AQ v q),λe=>au (aw.2 #v[_,e,J]) (AQ w q)]
    |_=>rw[k]at p;ext p
#print "UJ ti w;Pq Mn G" in def ϑ0{x:Str}(h:x∈ϑ1 T):tH x∈ζ T y/\mkK x∈ζ T y:=#v[bw _ (bT (bw _ (bϑ2 _ h))),bG _ (bT (bϑ2 _ h))]
def acH:tH y∈ζ T y:=bw _ (bT (bG _ (aN.2 J)))
structure Lt(T:List Th)(y:Str)(A A':List (Str×Str))(V V':List (Str×Int)):Prop where
 b:∀x∈ti T,∀z,(x,z)∈A ↔ (x,z)∈A'
 y:∀z,(y,z)∈A ↔ (y,z)∈A'
 l:∀x∈Mn T,∀z,(x,z)∈A ↔ (x,z)∈A'
 bm:∀x∈ti T,∀z,(x,z)∈V ↔ (x,z)∈V'
 lm:∀x∈Mn T,∀z,(x,z)∈V ↔ (x,z)∈V'
def Ag.lt(h:Ag Q A A' V V')(s:∀k∈ζ T y,k∈Q):Lt T y A A' V V':=
 #v[λx e=>(h x).1 (s _ (UJ e).1),(h y).1 (s _ acH),λx e=>(h x).1 (s _ (Pq e).1),λx e=>(h x).2 (s _ (UJ e).2),λx e=>(h x).2 (s _ (Pq e).2)]
def UK(l:Lt T y A A' V V'):M? T V=M? T V':=by
 funext x
 delta M?;by_cases h:x∈ti T
 .rw[aM h,mZ,mZ,decide_eq_decide.2 (l.bm x h 0)]
 .rw[aP h,jq,jq]
def UL(v:Sv T M y A V S r)(e:Sv T M y A' V' S' r')(l:Lt T y A A' V V')(o:(T.filter λt=>decide (t.k=.you)).map Th.n=[y]):r=r'/\NZ dk v.s=NZ dk e.s:=by
 have i:=Cd e.s.a.nd ((l.y r).1 v.s.hr) e.s.hr;subst i;calc#v[J,?_];delta NZ;congr 1;rw[UK l];have:∀(p q:Str->Bool) (L:aD),(∀x∈L,p x=q x)->L.any p=L.any q:=λp q L h=>by
  induction L with
  |nil=>rfl
  |cons x L m=>rw[fw,fw,h x aX,m λz j=>h z (bg _ j)]
 calc this _ _ _ λx f=>?_;rw[decide_eq_decide.2 (l.lm x f 1),YL v e l.b l.y o (l.l x f) (FD v.s.a x) (FD e.s.a x)]
def XR(v:Sv T M y A V S r)(e:Sv T M y A' V' S' r')(l:Lt T y A A' V V')(f:(T.filter λt=>decide (t.k=.you)).map Th.n=[y]){x:Str}(j:∀z,(x,z)∈A ↔ (x,z)∈A'):JH dk v.s x=JH dk e.s x:=by let#v[i,h]:=UL (dk:=dk) v e l f;subst i;delta JH;rw[h,UK l,YL v e l.b l.y f j (FD v.s.a x) (FD e.s.a x)]
end
section
variable{A A':List (Str×Str)}{V V':List (Str×Int)}{S S':List (Ky×L4.D)}{y r r':Str}{T:List Th}{M:List Mk}{dk:aD}{mo c d:L4.D}{n:Nat}{t p:Str}{z w:Option Str}{Q Q':List aD}
def acI{e:FE}{b:Bool}{ρ a:aU}(h:e ρ=U (.bl b,a)):Gq e ρ=U (.bl !b,a):=by delta Gq;rw[h]
def acJ{e i:FE}{b f:Bool}{ρ a:aU}(h:e ρ=U (.bl b,a))(j:i a=U (.bl f,a)):xB e i ρ=U (.bl (b&&f),a):=by cases b with|true=>show(wD h).t j|false=>show Ax h
def at_h(v:Sv T M y A V S r)(E:Tp T c t z)(C:Tp T c p w):B2 [.obj 3 ["term", "place"] [.str t,.str p],wO T M dk y mo,sD S,c]=U (.bl (decide ((z.getD r,w.getD r)∈A))):=by
 let o:L4.D:=.obj 3 ["term", "place"] [.str t,.str p];let W:=wO T M dk y mo;have m:∀{i:L4.D} {b:Bool},yt [sD S,.str (z.getD r)]=U i->xB (c2 zy aY bu) (c2 (eo δ) aY (vo yG sX)) [.q o,.q W,.q (sD S),.q c,.q (.str (z.getD r)),.q i]=U (.bl b,[.q o,.q W,.q (sD S),.q c,.q (.str (z.getD r)),.q i])->B2 [o,W,sD S,c]=U (.bl b):=λ{i b} x j=>by calc vA (ρ:=[.q o,.q W,.q (sD S),.q c,.q (.str (z.getD r)),.q i]) J ?_;show(ve ((vK (vn J (E3 v E))))).t ((ve (ρ':=[.q o,.q W,.q (sD S),.q c,.q (.str (z.getD r)),.q i]) ((vK (vn J x)).t J)).t (vF j))
 by_cases l:z.getD r∈A.map aj
 .let#v[q,B,e]:=aw.1 l;have f:(z.getD r,q.2)∈A:=by rw[<-e];show B
  calc(m (Dw v.s.a v.s.o f) ((wD J).t (vq J (vn J (E3 v C)) (yW δ _ _)))).t ?_;congr 2;rw[ai bB];show decide_eq_decide.2 #v[λu=>u▸f,λj=>Cd v.s.a.nd f j]
 .rw[aP λh=>l (aw.2 #v[_,h,J])];show m (GQ v.s.o l) (Ax J)
def YM(v:Sv T M y A V S r)(b:Tp T c t z):CZ [.obj 4 ["term"] [.str t],wO T M dk y mo,sD S,c]=U (.bl (decide (y∈lf v.s.a (z.getD r)))):=by let W:=wO T M dk y mo;calc vA J (vF (vn (vm J (vm J (vm (vn J (E3 v b)) J))) ?_));show vA J (vF (vq J (wq (vn J (Pg v.s.a v.s.o W (FD v.s.a _) (lf_l v.s.a _)))) (Bi δ y _)))
def UM(v:Sv T M y A V S r)(f:Tp T c t z){u:Th}(b:u∈T)(e:z.getD r=u.n):B3 [.obj 5 ["term"] [.str t],wO T M dk y mo,sD S,c]=U (.bl (u.k.pl&&JH dk v.s u.n)):=by let W:=wO T M dk y mo;have a:=E3 (dk:=dk) (mo:=mo) v f;rw[e]at a;show vA J (vF (vn (vm J (vm J (vm (vn J a) J))) (Ux v.s b)))
def YN(v:Sv T M y A V S r):Da [.obj 15 [] [],wO T M dk y mo,sD S,c]=U (.bl (NZ dk v.s)):=
 vA J (vF (vn J (Uw v.s)))
def X'(o:Gx A V S){x:Str}(h:x∉V.map aj):yN [sD S,.str x]=U .I:=by
 calc vA J (vF (vn J ?_));rcases E1 S ("mark", x)with ⟨d,a,b⟩|⟨a,b⟩
 .let#v[z,rfl,e]:=o.mo x d a;show au (aw.2 #v[_,e,J]) h
 .show b
def MF(v:Sv T M y A V S r){z:Str}(m:Tm c t z)(j:Int):y4 [.obj 6 ["term", "value"] [.str t,.int j],wO T M dk y mo,sD S,c]=U (.bl (decide ((z,j)∈V))):=by
 let o:L4.D:=.obj 6 ["term", "value"] [.str t,.int j];let W:=wO T M dk y mo;have e:∀{a:L4.D} {b:Bool},yN [sD S,.str z]=U a->xB (c2 zy aF bu) (c2 (eo δ) aF (c1 (vP Ft "value") ae)) [.q o,.q W,.q (sD S),.q c,.q a]=U (.bl b,[.q o,.q W,.q (sD S),.q c,.q a])->y4 [o,W,sD S,c]=U (.bl b):=λ{a b} i l=>by calc vA (ρ:=[.q o,.q W,.q (sD S),.q c,.q a]) J ?_;show(ve (ρ':=[.q o,.q W,.q (sD S),.q c,.q a]) ((vK (vn (vm J (vm (vn J (Pp m)) J)) i)).t J)).t (vF l)
 by_cases hV:z∈V.map aj
 .let#v[q,f,rfl]:=aw.1 hV;calc(e (KM v.s.nv v.s.o f) ((wD J).t (vq J J (zm δ _ _)))).t ?_;congr 2;rw[ai bB,Ut v.s.nv j f]
 .rw[aP λh=>hV (aw.2 #v[_,h,J])];show e (X' v.s.o hV) (Ax J)
def UN(v:Sv T M y A V S r)(f:Tp T c t z){u:Th}(b:u∈T)(e:z.getD r=u.n)(k:Str):B4 [.obj 7 ["term", "kind"] [.str t,.str k],wO T M dk y mo,sD S,c]=U (.bl (decide (u.k.s=k))):=by let o:L4.D:=.obj 7 ["term", "kind"] [.str t,.str k];let W:=wO T M dk y mo;have a:=E3 (dk:=dk) (mo:=mo) v f;rw[e]at a;calc vA (ρ:=[.q o,.q W,.q (sD S),.q c,.q (ff u)]) J ?_;show(ve ((vK (wt J J J (vm (vn J a) J) (Di v.s.nd b))))).t (vF ((wD J).t (vq J J (yW δ _ _))))
def acK{m:aD}{f:Str}(i:Cm m c f)(x:Str):∃b,∀S,zU [.obj 8 ["word"] [.str x],wO T M dk y mo,sD S,c]=U (.bl b):=by
 have fin:∀{b:Bool},AM [wO T M dk y mo,c]=U (.bl b)->(b=γ->∃a,c2 (eo δ) (c2 e7 aB aO) (c1 (vP CN "word") ae)=c2 (eo δ) (c2 e7 aB aO) (c1 (vP CN "word") ae)/\∀S,c2 (eo δ) (c2 e7 aB aO) (c1 (vP CN "word") ae) [.q (.obj 8 ["word"] [.str x]),.q (wO T M dk y mo),.q (sD S),.q c]=U (.bl a,[.q (.obj 8 ["word"] [.str x]),.q (wO T M dk y mo),.q (sD S),.q c]))->∃b,∀S,zU [.obj 8 ["word"] [.str x],wO T M dk y mo,sD S,c]=U (.bl b):=λ{b} h j=>by
  cases b with
  |false=>show#v[δ,λS=>vA J (vF (Ax (vn J h)))]
  |true=>let#v[a,_,l]:=j J;show#v[a,λS=>vA J (vF ((wD (vn J h)).t (l S)))]
 cases i with
 |go z=>show fin (b:=γ) (by kernel_rfl) λw=>#v[decide (z=x),J,λS=>vq J J (yW δ _ _)]
 |wait=>show fin (b:=δ) (by kernel_rfl) λe=>by cases e
 |take _=>show fin (b:=δ) (by kernel_rfl) λe=>by cases e
 |put _ _=>show fin (b:=δ) (by kernel_rfl) λe=>by ext e
end
section
variable{A A':List (Str×Str)}{V V':List (Str×Int)}{S S':List (Ky×L4.D)}{y r r':Str}{T:List Th}{M:List Mk}{dk:aD}{c it ot a b d:L4.D}{n:Nat}
def sk{c:FT}{f t:FS}{ρ:aU}(h:c ρ=U (δ,ρ)):a0 (fx c f vJ) t ρ=t ρ:=ve ((vQ h))
def KR{P Q:List aD}(h:Sb T M P)(e:Sb T M Q):Sb T M (P++Q):=λk f=>(bt.1 f).elim (h k) (e k)
def Pt{p:Kd->Bool}{x:Str}(h:x∈fu T p):tH x∈prt T M:=bw _ (bT ((wx T p).subset h))
def UO{z:Option Str}(f:∀x,z=U x->x∈T.map Th.n):Sb T M (MS T z):=λk e=>by
 cases z with
 |none=>cases e
 |some x=>
  have e:k∈(if x∈y? T then []else [tH x]):=e;split at e
  .ext e
  .rw[aN.1 e];show bw _ (bT (f x J))
def KU(e:(T.filter λt=>decide (t.k=.you)).map Th.n=[y]):y∈fu T λk=>decide (k=.you):=by change y∈(T.filter _).map Th.n;rw[e];show aN.2 J
def N5(z:Option Str):(MS T z).length<=1:=by
 cases z with
 |none=>show bP _
 |some x=>change (if x∈y? T then []else [tH x]:List aD).length<=1;split<;>simp
def apE(g:fy T M dk)(f:Gv c it ot a b){t:Str}{z:Option Str}(e:Tp T c t z){o:L4.D}{r:aU}(h:vP CM "term" o=U (.str t)):vo xu jO (.q o::.q (wM T M dk y)::.q it::.q ot::r)=U (.ax ((MS T z).map fm),.q o::.q (wM T M dk y)::.q it::.q ot::r):=
 vn (vm J (vm (vn (vm (wg J h) J) (aeR f e)) J)) (YK g (Po e))
def tdE(g:fy T M dk){e:FE}{ρ ρ1:aU}{d:L4.D}{P Q:List aD}(h:e ρ=U (d,ρ1))(hd:sqD d=U (P.map fm))(l:Sb T M Q)(i:∀k,k∈P ↔ k∈Q):vo BX (a1 e) ρ=U (X? Q,ρ1):=by have f:=λk j=>l k ((i k).1 j);rw[<-aeP (UI f) i];show vn (vm h J) (XO hd (UI f) (N4 g f))
structure W?(n:Nat)(T:List Th)(M:List Mk)(dk:aD)(y:Str)(c it ot d:L4.D)(k:Nat)(ns:aD)(ds:List L4.D)(Q:List aD):Prop where
 m:xq (n+1) [d]=U (.obj k ns ds)
 r:∃hh,wu n k=U hh/\hh [.obj k ns ds,wM T M dk y,it,ot]=U (X? Q)
 nn:ns.contains "reads" = δ
 nh:ns.contains "holds" = δ
 sb:Sb T M Q
 h:∃hh,vX n k=U hh/\∀{A V S r A' V' S' r'},Sv T M y A V S r->Sv T M y A' V' S' r'->Ag Q A A' V V'->∃b,hh [.obj k ns ds,wM T M dk y,sD S,c]=U (.bl b)/\hh [.obj k ns ds,wM T M dk y,sD S',c]=U (.bl b)
def aeT{z:Option Str}{x:Str}(e:z=U x)(h:x∉y? T):tH x∈MS T z:=by subst e;change tH x∈(if x∈y? T then []else [tH x]);rw[ai h];show aN.2 J
def ag_z{Q:List aD}(v:Sv T M y A V S r)(j:Sv T M y A' V' S' r'){z:Option Str}{x:Str}(e:z=U x)(i:∀k∈MS T z,k∈Q)(f:Ag Q A A' V V'):∀w,(x,w)∈A ↔ (x,w)∈A':=λw=>by
 by_cases h:x∈y? T
 .show#v[λq=>au (aw.2 #v[_,q,J]) (AQ v h),λq=>au (aw.2 #v[_,q,J]) (AQ j h)]
 .show(f x).1 (i _ (aeT e h)) w
def UP(l:(T.filter λt=>decide (t.k=.you)).map Th.n=[y]):Sb T M (ζ T y):=λk f=>by
 rcases bt.1 f with f|f
 .let#v[x,e,rfl]:=aw.1 f;rcases bt.1 e with e|e
  .rcases bt.1 e with e|e<;>show Pt e
  .rw[aN.1 e];show Pt (KU l)
 .let#v[x,e,rfl]:=aw.1 f;calc bG _ (bT ?_);rw[zX];calc bw _ ?_;rcases bt.1 e with e|e
  all_goals
   let#v[u,j,rfl]:=aw.1 e;let#v[h,i]:=bE.1 j;show aw.2 #v[u,bE.2 #v[h,by rw[ba i];rfl],J]
end
section
variable{A A':List (Str×Str)}{V V':List (Str×Int)}{S S':List (Ky×L4.D)}{y r r':Str}{T:List Th}{M:List Mk}{dk:aD}{c it ot a b d:L4.D}{n:Nat}{t p:Str}{z w:Option Str}
def t_at(g:fy T M dk)(q:(T.filter λt=>decide (t.k=.you)).map Th.n=[y])(O:Gv c it ot a b)(l:Tp T c t z)(u:Tp T c p w):∃k X I Q,W? n T M dk y c it ot (.bx [.str "at", .str t,.str p]) k X I Q:=by
 let W:=wM T M dk y;let o:L4.D:=.obj 3 ["term", "place"] [.str t,.str p];let G:=if ("here" : Str)∈[t,p]then [tH y]else []
 let Q:=MS T z++G;have hl:=N5 (T:=T) z;have F:Sb T M Q:=KR (UO (Po l)) λk f=>by
  have f:k∈(if ("here" : Str)∈[t,p]then [tH y]else []):=f;split at f
  .rw[aN.1 f];show Pt (KU q)
  .ext f
 refine#v[3,["term", "place"],[.str t,.str p],Q,by kernel_rfl,#v[HS,by ext n<;>rfl,?_],by decide,by decide,F,#v[B2,by ext n<;>rfl,λ{A V S r A' V' S' r'} v j B=>#v[_,at_h v l u,(at_h j l u).t ?_]]]
 .let i:List aD->aU:=λP=>[.q o,.q W,.q it,.q ot,.q (.ax (P.map fm))];calc vA (ρ:=i Q) J ?_;calc(ve ((vK (apE g O l J)))).t ?_;have m:cT (c2 (k? δ) f6 (v8 oh)) (i (MS T z))=U (decide (("here" : Str)∈[t,p]),i (MS T z)):=wz (vq J J (HF δ "here" [t,p]));have Y:(fx (cT (c2 (k? δ) f6 (v8 oh))) (vR 4 (cL (xi aF (vo xu sT)))) vJ:FS) (i (MS T z))=U (.nx (i Q)):=by
   change _=U (mn.nx [.q o,.q W,.q it,.q ot,.q (.ax ((MS T z++if ("here" : Str)∈[t,p]then [tH y]else []).map fm))]);by_cases h:("here" : Str)∈[t,p]
   .rw[aM h]at m;rw[af h,aZ];have H:xu [W,.str y]=U (.ax [fm (tH y)]):=by
     have:=YK (y:=y) g (z:=U y) λx e=>by ext e;show(wx T _).subset (KU q)
     calc this.t ?_;change U (D.ax ((if y∈y? T then []else [tH y]).map fm))=_;rw[ai λh=>zb g.L' (λk R E=>by rw[ba R]at E;ext E) (KU q) h];rfl
    show(v5 m).t ((vK (wq (xM J (vn (ρ1:=i (MS T z)) (by kernel_rfl) H) (by rw[ah,bq];omega)))))
   .rw[aP h]at m;rw[ai h,bF];show(vQ m)
  show(ve Y).t (vF (tdE g J J F λk=>gU))
 .congr 2;calc decide_eq_decide.2 ?_;have no:∀{A:List (Str×Str)} {V S r},Sv T M y A V S r->∀{x w},x∈y? T->(x,w)∉A:=λ{A V S r} v {x w} h e=>AQ v h (aw.2 #v[_,e,J]);cases l with
  |here=>show#v[λe=>au e (no j j.rm),λe=>au e (no v v.rm)]
  |tm _ hx=>
   have C:=ag_z v j rfl (λk f=>bw _ f) B;cases u with
   |tm _ _=>show(C _).symm
   |here=>have N:=Cd j.s.a.nd (((B y).1 (bG _ (by change tH y∈(if ("here" : Str)∈[t,"here"]then [tH y]else []);rw[af (bg _ (aN.2 J))];show aN.2 J)) r).1 v.s.hr) j.s.hr;rw[N];show(C _).symm
def aeU(g:fy T M dk)(H:(T.filter λt=>decide (t.k=.you)).map Th.n=[y])(E:Gv c it ot a b)(f:Tp T c t z):∃k N C Q,W? n T M dk y c it ot (.bx [.str "has", .str t]) k N C Q:=by
 let W:=wM T M dk y;let o:L4.D:=.obj 4 ["term"] [.str t];let Q:=MS T z++(ti T).map tH;have G:=N5 (T:=T) z;have m:=QQ g λk=>decide (k=.box);have B:Sb T M Q:=KR (UO (Po f)) λk q=>by let#v[x,j,rfl]:=aw.1 q;show Pt j
 have I:((MS T z).map fm).length+(((ti T).map tH).map fm).length<=1000:=by rw[ah,ah,ah];show bW (mQ G m) #[]
 refine#v[4,["term"],[.str t],Q,by kernel_rfl,#v[Ge,by ext n<;>rfl,?_],by decide,by decide,B,#v[CZ,by ext n<;>rfl,λ{A V S r A' V' S' r'} v i u=>#v[_,YM v f,(YM i f).t ?_]]]
 .let O:aU:=[.q o,.q W,.q it,.q ot];show vA J (vF (tdE g (wq (xM (apE g E f J) (vn J (acF g)) I)) (by rw[<-aZ];rfl) B λk=>gU))
 .congr 2;calc decide_eq_decide.2 ?_;cases f with
  |here=>
   have no:∀{A:List (Str×Str)} {V S r},(v:Sv T M y A V S r)->y∉lf v.s.a r:=λ{A V S r} v h=>by
    have c:=FD v.s.a r;cases e:lf v.s.a r with
    |nil=>rw[e]at h;cases h
    |cons a l=>
     rw[e]at c;cases c with
     |cons F _=>show AQ v v.rm (aw.2 #v[_,F,J])
   show#v[λh=>au h (no i),λh=>au h (no v)]
  |tm _ j=>show(acG v i (λx j=>(u x).1 (bG _ (bT j))) H (ag_z v i rfl (λk q=>bw _ q) u) (FD v.s.a _) (FD i.s.a _)).symm
def acM(g:fy T M dk)(C:(T.filter λt=>decide (t.k=.you)).map Th.n=[y])(I:Gv c it ot a b)(i:Tp T c t z):∃k P G Q,W? n T M dk y c it ot (.bx [.str "seen", .str t]) k P G Q:=by
 let W:=wM T M dk y;let o:L4.D:=.obj 5 ["term"] [.str t];let Q:=MS T z++ζ T y;have R:=N5 (T:=T) z;have F:Sb T M Q:=KR (UO (Po i)) (UP C);have Y:(ti T).length<=13:=QQ g _;have l2:(Mn T).length<=13:=QQ g _;have O:((MS T z).map fm).length+((ζ T y).map fm).length<=1000:=by delta ζ;erw[ah,aH,bq];omega
 refine#v[5,["term"],[.str t],Q,by kernel_rfl,#v[ET,by ext n<;>rfl,?_],by decide,by decide,F,#v[B3,by ext n<;>rfl,λ{A V S r A' V' S' r'} v m B=>?_]]
 .let ρ:aU:=[.q o,.q W,.q it,.q ot];show vA J (vF (tdE g (wq (xM (apE g I i J) (vn J (ME g)) O)) (by rw[<-aZ];rfl) F λk=>gU))
 .let#v[u,l,x]:=aw.1 (GR v i);let#v[u',h,f]:=aw.1 (GR m i);calc#v[_,UM v i l x.symm,(UM m i h f.symm).t ?_];have E:∀{A:List (Str×Str)} {V S r u},Sv T M y A V S r->u∈T->u.n=r->u.k.pl=δ:=λ{A V S r u} v l e=>by let#v[q,N,H,j]:=xP v.rm;rw[Ea v.s.nd l N (e.t H.symm),ba j];rfl
  cases i with
  |here=>rw[E v l x,E m h f,jq,jq]
  |tm _ X=>have:=Ea v.s.nd l h (x.t f.symm);subst this;rw[XR v m (B.lt λk j=>bG _ j) C (ag_z v m (aW U x.symm) (λk j=>bw _ j) B)]
def aeV(g:fy T M dk)(e:(T.filter λt=>decide (t.k=.you)).map Th.n=[y]):∃k l i Q,W? n T M dk y c it ot (.bx [.str "lit"]) k l i Q:=by
 refine#v[15,[],[],ζ T y,by kernel_rfl,#v[Gf,by ext n<;>rfl,?_],by decide,by decide,UP e,#v[Da,by ext n<;>rfl,λ{A V S r A' V' S' r'} v f h=>#v[_,YN v,(YN f).t ?_]]]
 .show vA J (vF (tdE g (vn J (ME g)) J (UP e) λk=>gU))
 .rw[(UL v f (h.lt λk j=>j) e).2]
def UQ:D.bx []=X? []:=by delta X?;rfl
def acN(l:Tp T c t z)(k:Str):∃G H B Q,W? n T M dk y c it ot (.bx [.str "kind", .str t,.str k]) G H B Q:=by
 calc#v[7,["term", "kind"],[.str t,.str k],[],by kernel_rfl,#v[EU,by ext n<;>rfl,by rw[<-UQ];rfl],by decide,by decide,(λw h=>by ext h),#v[B4,by ext n<;>rfl,λ{A V S r A' V' S' r'} v o I=>?_]];let#v[u,j,m]:=aw.1 (GR v l);let#v[O,i,f]:=aw.1 (GR o l);calc#v[_,UN v l j m.symm k,(UN o l i f.symm k).t ?_];have x:∀{A:List (Str×Str)} {V S r u},Sv T M y A V S r->u∈T->u.n=r->u.k=.room:=λ{A V S r u} v j e=>by let#v[q,F,C,E]:=xP v.rm;rw[Ea v.s.nd j F (e.t C.symm),ba E]
 cases l with
 |here=>rw[x v j m,x o i f]
 |tm _ N=>rw[Ea v.s.nd j i (m.t f.symm)]
def acO{o:aD}{f:Str}(i:Cm o c f)(x:Str):∃l m j Q,W? n T M dk y c it ot (.bx [.str "word", .str x]) l m j Q:=by let#v[b,e]:=acK i x;show#v[8,["word"],[.str x],[],by kernel_rfl,#v[EV,by ext n<;>rfl,by rw[<-UQ];rfl],by decide,by decide,(λz h=>by ext h),#v[zU,by ext n<;>rfl,λ{A V S r A' V' S' r'} v u q=>#v[b,e S,e S']]]
#print h
def UR(g:fy T M dk)(u:Gv c it ot a b){z:Str}(i:Tm c t z)(j:Int):∃k x q Q,W? n T M dk y c it ot (.bx [.str "marked", .str t,.int j]) k x q Q:=by
 have l:Sb T M (mpK T M z):=λk f=>by
  have f:k∈(if z∈(ov T M).map aj then [mkK z]else []):=f;split at f
  .rename_i h;rw[aN.1 f];show bG _ (bT h)
  .ext f
 refine#v[6,["term", "value"],[.str t,.int j],mpK T M z,by kernel_rfl,#v[CY,by ext n<;>rfl,?_],by decide,by decide,l,#v[y4,by ext n<;>rfl,λ{A V S r A' V' S' r'} v m o=>#v[_,MF v i j,(MF m i j).t ?_]]]
 .show vA J (vF (tdE g (vn (vm J (vm (vn J (u.g t z i)) J)) (aeQ g z)) J l λk=>gU))
 .congr 2;calc decide_eq_decide.2 ?_;by_cases h:z∈(ov T M).map aj
  .calc((o z).2 ?_ j).symm;change mkK z∈(if z∈(ov T M).map aj then [mkK z]else []);rw[af h];show aN.2 J
  .show#v[λe=>au (m.vk _ e) h,λe=>au (v.vk _ e) h]
end
#print f
section
variable{y:Str}{T:List Th}{M:List Mk}{dk:aD}{c it ot a b d:L4.D}{n:Nat}
def XS{e l:FE}{ρ f h:aU}{i j:List L4.D}(m:e ρ=U (.bx i,f))(o:l f=U (.bx j,h))(p:i.length+j.length<=900):Jw e l ρ=U (.bx (i++j),h):=by delta Jw;rw[m];erw[o];rw[af p]
def t_no{x:L4.D}{k:Nat}{j:aD}{f:List L4.D}{Q:List aD}(i:W? n T M dk y c it ot x k j f Q):∃k j f Q,W? (n+1) T M dk y c it ot (.bx [.str "not", x]) k j f Q:=by
 let#v[H,w,z]:=i.r;let#v[u,B,C]:=i.h;let W:=wM T M dk y;let o:L4.D:=.obj 9 ["inner"] [.obj k j f];refine#v[9,["inner"],[.obj k j f],Q,?_,#v[_,J,vA J (vF (wt J w i.nn J z))],by decide,by decide,i.sb,#v[_,J,λ{A V S r F G l I} v E p=>?_]]
 .calc vA (ρ:=[.q (.bx [.str "not", x]),.q (.str "not")]) J ?_;refine(ve J).t ?_
  iterate 6 refine(sk J).t ?_
  show vW ((v5 J).t (vF (Kc (vm (vn J i.m) J) J)))
 .let#v[b,q,t]:=C v E p;have one:∀S,u [.obj k j f,W,sD S,c]=U (.bl b)->e? 4 4 (zB (vX n)) [o,W,sD S,c]=U (.bl !b):=λS e=>vA J (vF (acI (wt J B i.nh J e)));show#v[!b,one S q,one l t]
def acP(g:fy T M dk){x z:L4.D}{k t:Nat}{q l:aD}{p f:List L4.D}{Q B:List aD}(i:W? n T M dk y c it ot x k q p Q)(j:W? n T M dk y c it ot z t l f B):∃k q p Q,W? (n+1) T M dk y c it ot (.bx [.str "both", x,z]) k q p Q:=by
 let#v[hh,r1,r2]:=i.r;let#v[Y,u1,u2]:=j.r;let#v[R,p1,p2]:=i.h;let#v[X,q1,q2]:=j.h;have l1:=N4 g i.sb;have l2:=N4 g j.sb;have E:=KR i.sb j.sb;let W:=wM T M dk y;let o:L4.D:=.obj 10 ["one", "other"] [.obj k q p,.obj t l f];refine#v[10,["one", "other"],[.obj k q p,.obj t l f],Q++B,?_,#v[_,J,vA J (vF (tdE g (XS (wt J r1 i.nn J r2) (wt J u1 j.nn J u2) (by rw[ah,ah,MC,MC];omega)) (by rw[<-aZ];rfl) E λe=>by
   rw[bt,bt,E2,E2,zP,zP]))],by decide,by decide,E,#v[_,J,λ{A V S r A' V' G r'} v F C=>?_]]
 .calc vA (ρ:=[.q (.bx [.str "both", x,z]),.q (.str "both")]) J ?_;refine(ve J).t ?_
  iterate 7 refine(sk J).t ?_
  show vW ((v5 J).t (vF (Kc (vm (vn J i.m) (vm (vn J j.m) J)) J)))
 .let#v[b,I,N]:=p2 v F (C.mono λk w=>bw _ w);let#v[u,O,P]:=q2 v F (C.mono λk w=>bG _ w);have one:∀S,R [.obj k q p,W,sD S,c]=U (.bl b)->X [.obj t l f,W,sD S,c]=U (.bl u)->e? 4 4 (y6 (vX n)) [o,W,sD S,c]=U (.bl (b&&u)):=λS e H=>vA J (vF (acJ (wt J p1 i.nh J e) (wt J q1 j.nh J H)));show#v[b&&u,one S I O,one G N P]
def aeW(g:fy T M dk)(l:(T.filter λt=>decide (t.k=.you)).map Th.n=[y])(h:Gv c it ot a b){z:aD}{f:Str}(r:Cm z c f)(q:Ak T c n d):∃k p ds Q,W? n T M dk y c it ot d k p ds Q:=by
 induction q with
 |«at» e A=>show t_at g l h e A
 |has e=>show aeU g l h e
 |seen e=>show acM g l h e
 |kind k e=>show acN e k
 |word x=>show acO r x
 |marked v e=>show UR g h e v
 |lit=>show aeV g l
 |no _ m=>let#v[k,p,ds,Q,i]:=m;show t_no i
 |both _ _ m o=>let#v[k,p,ds,Q,i]:=m;let#v[C,w,u,B,j]:=o;show acP g i j
end
def z3(A:List (Str×Str))(x:Str):Option Str:=(A.find? λq=>decide (q.1=x)).map cb
def sq(A:List (Str×Str)):Nat->Option Str->Option Str
 |0,o=>o
 |n+1,o=>sq A n (o.bind (z3 A))
def dep(A:List (Str×Str)):Nat->Str->Nat
 |0,_=>0
 |n+1,x=>match z3 A x with|none=>0|some z=>dep A n z+1
section
variable{A A':List (Str×Str)}{y r:Str}{T:List Th}{M:List Mk}{dk:aD}{x z:Str}{n m:Nat}{o:Option Str}
def N6(h:x∉A.map aj):z3 A x=Z:=by delta z3;rw[kr.2 λq a e=>h (aw.2 #v[q,a,ba e])];rfl
def Eb(c:(A.map aj).Nodup)(h:(x,z)∈A):z3 A x=U z:=by
 delta z3;cases e:A.find? λq=>decide (q.1=x)with
 |none=>show au (aM J) (kr.1 e _ h)
 |some q=>have b:=lG e;have a:=qQ e;have a:=ba a;subst a;show aW U (Cd c b h)
def acQ(b:(A.map aj).Nodup):F4 (nj A) (oS o)=U (oS (o.bind (z3 A))):=by
 cases o with
 |none=>rfl
 |some x=>
  change U ((xX (A.map λq=>kS q.1) (A.map λq=>D.str q.2) (kS x)).getD .I)=U (oS (z3 A x));by_cases h:x∈A.map aj
  .let#v[q,a,rfl]:=aw.1 h;have c:=by have:=yL b;rw[aT]at this;show this
   have lk:xX (A.map λq=>kS q.1) (A.map λq=>D.str q.2) (kS q.1)=U (.str q.2):=Bj c (by rw[jv];show aw.2 #v[_,a,J]);rw[Eb b a,lk];rfl
  .rw[N6 h,Xx h];rfl
theorem E4:∀n,sq A n Z=Z
 |0=>rfl
 |n+1=>E4 n
theorem E5:∀{n m:Nat} {o:Option Str},sq A n o=Z->n<=m->sq A m o=Z
 |0,m,o,h,_=>by rw[show o=Z from h];show E4 m
 |n+1,0,o,h,l=>by omega
 |n+1,m+1,o,h,l=>E5 (o:=o.bind (z3 A)) h ()
theorem US:∀(n:Nat) (x:Str),dep A n x<=n
 |0,_=>aG _
 |n+1,x=>by
  delta dep;cases z3 A x with
  |none=>show bP _
  |some z=>show qr (US n z)
theorem UT:∀{n m:Nat} {x:Str},sq A n (U x)=Z->n<=m->dep A m x=dep A n x
 |0,m,x,h,_=>by cases h
 |n+1,0,x,h,l=>by omega
 |n+1,m+1,x,h,l=>by
  have h:sq A n (z3 A x)=Z:=h;delta dep;cases e:z3 A x with
  |none=>rfl
  |some z=>rw[e]at h;show aW (· + 1) (UT h ())
def acR(b:(A.map aj).Nodup)(h:sq A n (U x)=Z)(a:(x,z)∈A):dep A n z<dep A n x:=by
 cases n with
 |zero=>cases h
 |succ n=>have h:sq A n (z3 A x)=Z:=h;rw[Eb b a]at h;rw[UT h (gK n)];change _<(match z3 A x with|none=>0|some z=>dep A n z+1);rw[Eb b a];show cY _
def XT(L':(T.map Th.n).Nodup)(C:(T.filter λt=>decide (t.k=.you)).map Th.n=[y])(b:(A.map aj).Nodup)(p:∀x,x∈A.map aj ↔ x∈fu T λk=>!decide (k=.room))(hd:∀q∈A,q.2∈fu T Kd.hd)(i:(y,r)∈A)(B:r∈y? T)(l:∀x∈ti T,sq A 21 (U x)=Z)(w:A.length<=20):DE A y:=by
 have noR:∀{x},x∈y? T->∀n,sq A (n+1) (U x)=Z:=λ{x} h n=>by have:=N6 λe=>zb L' (λk j d=>by rw[j]at d;ext d) h ((p x).1 e);change sq A n (z3 A x)=Z;rw[this];show E4 n
 have all:∀q∈A,sq A 23 (U q.1)=Z:=λq a=>by
  change sq A 22 (z3 A q.1)=Z;rw[Eb b a];let#v[u,c,e,f]:=xP (hd q a);rw[<-e];cases k:u.k with
  |box=>show E5 (l _ (aw.2 #v[u,bE.2 #v[c,aM k],J])) #[]
  |you=>have:u.n∈(T.filter λt=>decide (t.k=.you)).map Th.n:=aw.2 #v[u,bE.2 #v[c,aM k],J];rw[C]at this;rw[aN.1 this];change sq A 21 (z3 A y)=Z;rw[Eb b i];show noR B 20
  |room=>show noR (aw.2 #v[u,bE.2 #v[c,aM k],J]) 21
  |_=>rw[k]at f;ext f
 calc#v[b,#v[dep A 23,λq a=>#v[acR b (all q a) a,jb (US 23 q.1) #[]]],#v[r,i],w]
def aeX(L':(T.map Th.n).Nodup)(G:(T.filter λt=>decide (t.k=.you)).map Th.n=[y])(E:∀x,x∈A.map aj ↔ x∈fu T λk=>!decide (k=.room))(hd:∀q∈A,q.2∈fu T Kd.hd)(kf:∀x,x∈A'.map aj ↔ x∈A.map aj)(b:(A'.map aj).Nodup)(p:∀x∈ti T,∀z,(x,z)∈A->(x,z)∈A')(w:(y,r)∈A')(F:r∈y? T){l:aD}:∀{x:Str},Ch A x l->x∈fu T Kd.hd->sq A' (l.length+2) (U x)=Z:=by
 have noR:∀{x},x∉A.map aj->∀n,sq A' (n+1) (U x)=Z:=λ{x} h n=>by change sq A' n (z3 A' x)=Z;rw[N6 λe=>h ((kf x).1 e)];show E4 n
 have mq:∀{x},x∈y? T->x∉A.map aj:=λ{x} h e=>zb L' (λk j f=>by rw[j]at f;ext f) h ((E x).1 e)
 induction l with
 |nil=>
  intro x c _;cases c with
  |nil h=>show noR h 1
 |cons a l C=>
  intro x c B;cases c with
  |cons h c=>
   let#v[u,d,rfl,i]:=xP B;change sq A' (l.length+2) (z3 A' u.n)=Z;cases k:u.k with
   |box=>rw[Eb b (p _ (aw.2 #v[u,bE.2 #v[d,aM k],J]) _ h)];show C c (hd _ h)
   |you=>have:u.n∈(T.filter λt=>decide (t.k=.you)).map Th.n:=aw.2 #v[u,bE.2 #v[d,aM k],J];rw[G]at this;rw[aN.1 this,Eb b w];show noR (mq F) _
   |room=>show au (aw.2 #v[_,h,J]) (mq (aw.2 #v[u,bE.2 #v[d,aM k],J]))
   |_=>rw[k]at i;ext i
def rgB:FS:=vR 3 (c2 F4 ao aB)
theorem Pu(h:(A.map aj).Nodup)(c a:Sl):∀(l:List L4.D) (o:Option Str) (f:Sl),∃b,fl (gN 4) rgB l [c,.q (nj A),a,.q (oS o),f]=U (.nx [c,.q (nj A),a,.q (oS (sq A l.length o)),b])
 |[],o,f=>#v[f,J]
 |d::l,o,f=>by let#v[b,e]:=Pu h c a l (o.bind (z3 A)) (.q d);calc#v[b,?_];delta fl;rw[show gN 4 d [c,.q (nj A),a,.q (oS o),f]=U [c,.q (nj A),a,.q (oS o),.q d] from J];have i:rgB [c,.q (nj A),a,.q (oS o),.q d]=U (.nx [c,.q (nj A),a,.q (oS (o.bind (z3 A))),.q d]):=(vK (vq J J (acQ h))).t J;erw[i];show e
def rgO:FS:=a0 (vR 3 az) (a0 (yA (B? (c2 wA (c1 wW ao) aO)) (gN 4) rgB) (fx (cT (c2 zy aB bu)) (vz cN) vJ))
def XU(h:(A.map aj).Nodup)(j:A.length<=20)(b i c:Sl)(x:Str):∃a,rgO [b,.q (nj A),.q (.str x),i,c]=fx (cT (c2 zy aB bu)) (vz cN) vJ [b,.q (nj A),.q (.str x),.q (oS (sq A (A.length+1) (U x))),a]:=by
 have f:B? (c2 wA (c1 wW ao) aO) [b,.q (nj A),.q (.str x),.q (oS (U x)),c]=U (Eo 0 (A.length+1),[b,.q (nj A),.q (.str x),.q (oS (U x)),c]):=by
  have e:c2 wA (c1 wW ao) aO [b,.q (nj A),.q (.str x),.q (oS (U x)),c]=U (.int ((A.length:Int)+1),[b,.q (nj A),.q (.str x),.q (oS (U x)),c]):=by calc vq (x:=.int (A.length:Int)) (wg J ?_) J J;change U (D.int ((A.map λq=>kS q.1).length:Int))=_;rw[ah]
  delta B?;rw[e];simp only;rw[af (),show ((A.length:Int)+1).toNat=A.length+1 by omega]
 let#v[a,d]:=Pu h b (.q (.str x)) (Eo 0 (A.length+1)) (U x) c;rw[show (Eo 0 (A.length+1)).length=A.length+1 by delta Eo;rw[ah,cI]]at d;calc#v[a,?_];show(ve J).t (ve ((wZ f).t d))
def KW{g:FG}{f:FS}{d:L4.D}{l:List L4.D}{ρ ρ1 a:aU}(b:g d ρ=U ρ1)(c:f ρ1=U (.nx a)):fl g f (d::l) ρ=fl g f l a:=by
 conv=>lhs;unfold fl
 rw[b];erw[c]
def acS{g:FG}{f:FS}{d e:L4.D}{l:List L4.D}{c a b:aU}(h:g d c=U a)(i:f a=U (.rt e b)):fl g f (d::l) c=U (.rt e b):=by
 conv=>lhs;unfold fl
 rw[h];erw[i]
def UU(C:(A.map aj).Nodup)(u:A.length<=20)(j:Sl)(l:aD):∀(d a b:Sl),∃o,fl (gN 2) rgO (l.map D.str) [j,.q (nj A),d,a,b]=U o/\((∃ρ,o=.rt (.bl γ) ρ)\/((∀x∈l,sq A 21 (U x)=Z)/\∃ρ,o=.nx ρ)):=by
 induction l with
 |nil=>show λd a b=>#v[_,J,.inr #v[λx h=>(by ext h),_,J]]
 |cons x l B=>
  intro d a b;let#v[f,one]:=XU C u j a b x;let#v[o,i]:∃o,sq A (A.length+1) (U x)=o:=#v[_,J];rw[i]at one;cases o with
  |some w=>show#v[_,acS J (one.t J),.inl #v[_,J]]
  |none=>
   let#v[o,p,h]:=B (.q (.str x)) (.q (oS Z)) f;calc#v[o,(KW J (one.t J)).t p,?_];rcases h with h|⟨q,t⟩
   .show .inl h
   .calc .inr #v[λz c=>?_,t];rcases aJ.1 c with e|c
    .rw[e];show E5 i ()
    .show q z c
def YO(hT:T.length<=900){ρ:aU}(a:cV 0 ρ=U (wF T M dk y,ρ)):iL (cL (wb wV jQ)) ρ=U ((ti T).map D.str,ρ):=
 Dh (wq (vn (vm a (vm (wq (BF J (show 1<=1000 by decide))) J)) (t6 hT _ Uk)))
def XW(hT:T.length<=900)(f:(A.map aj).Nodup)(e:A.length<=20):∃b,xS [wF T M dk y,nj A]=U (.bl b)/\(b=δ->∀x∈ti T,sq A 21 (U x)=Z):=by
 have a:=YO hT (ρ:=[.q (wF T M dk y),.q (nj A),.un,.un,.un]) J;obtain⟨o,h,⟨c,rfl⟩|⟨d,c,rfl⟩⟩:=UU f e (.q (wF T M dk y)) (ti T) .un .un .un
 .show#v[γ,vA J (vW ((wZ a).t h)),λz=>by ext z]
 .show#v[δ,vA J ((ve ((wZ a).t h))),λw=>d]
end
def lu{a:Type}(A:List (Str×a))(x:Str)(d:a):a:=((A.find? λq=>decide (q.1=x)).map cb).getD d
def l0{a:Type}(A A2:List (Str×a))(p:Str->Bool):List (Str×a):=A.map λq=>(q.1,if p q.1 then q.2 else lu A2 q.1 q.2)
def dd{a:Type}(g:a->L4.D)(B:List (Str×a)):DD:=(B.map λq=>kS q.1,B.map λq=>g q.2)
section
variable{α:Type}{g:α->L4.D}{A A2 B:List (Str×α)}{p:Str->Bool}{x:Str}{z:α}
def aeY(h:x∈A.map aj)(d:α):(x,lu A x d)∈A:=by
 delta lu;cases e:A.find? λq=>decide (q.1=x)with
 |none=>let#v[q,c,a]:=aw.1 h;show au (aM a) (kr.1 e _ c)
 |some q=>have b:=lG e;have a:=qQ e;have a:=ba a;subst a;show b
def Nx(b:(A.map aj).Nodup){c:α}(h:(x,z)∈A)(d:(x,c)∈A):z=c:=by
 induction A with
 |nil=>cases h
 |cons a A e=>
  rw[aA,cu]at b;rcases aJ.1 h with h1|h1<;>rcases aJ.1 d with h2|h2
  .rw[<-h1]at h2;show(aW cb h2).symm
  .show au (show a.1∈A.map aj from h1▸aw.2 #v[_,h2,J]) b.1
  .show au (show a.1∈A.map aj from h2▸aw.2 #v[_,h1,J]) b.1
  .show e b.2 h1 h2
def Ce:(l0 A A2 p).map aj=A.map aj:=by delta l0;rw[aT];rfl
def E6:(l0 A A2 p).length=A.length:=by delta l0;rw[ah]
def N7(sub:∀x∈A.map aj,x∈A2.map aj)(h:(x,z)∈l0 A A2 p):(p x=γ/\(x,z)∈A)\/(p x=δ/\(x,z)∈A2):=by
 let#v[q,a,e]:=aw.1 h;ext e;cases b:p q.1 with
 |true=>show .inl #v[J,by rw[af J];show a]
 |false=>show .inr #v[J,by rw[ai bB];show aeY (sub _ (bT a)) _]
def UV(c:(A.map aj).Nodup)(a:p x=γ):(x,z)∈A ↔ (x,z)∈l0 A A2 p:=by
 constructor
 .intro h;show aw.2 #v[_,h,by rw[af a]]
 .intro h;let#v[q,b,e]:=aw.1 h;ext e;rw[af a];show b
def UW(sub:∀x∈A.map aj,x∈A2.map aj)(h:x∈A.map aj):∃z,(x,z)∈l0 A A2 p:=by rw[<-Ce (A2:=A2) (p:=p)]at h;let#v[q,a,rfl]:=aw.1 h;show#v[q.2,a]
def aeZ(h:x∉B.map aj):Eu (B.map λq=>kS q.1) (kS x)=δ:=by delta Eu;rw[kK];calc l8.2 λq a e=>h (aw.2 #v[q,a,?_]);show D8 (ba e)
def XX(h:x∉B.map aj)(a:B.length<1000):ll (dd g B) (kS x) (g z)=U (dd g (B++[(x,z)])):=by delta ll dd;simp only;rw[af #v[by rw[ah];show a,by rw[ah,ah]],aeZ h,ai bB,aZ,aZ];rfl
def XY(r:(A.map aj).Nodup)(h:(x,z)∈A)(j:A.length<1000):ll (dd g (l0 A A2 p)) (kS x) (g z)=U (dd g (l0 A A2 λw=>p w||decide (w=x))):=by
 have b:(l0 A A2 p).map (λq=>kS q.1)=A.map λq=>kS q.1:=by delta l0;rw[aT];rfl
 have c:(l0 A A2 λw=>p w||decide (w=x)).map (λq=>kS q.1)=A.map λq=>kS q.1:=by delta l0;rw[aT];rfl
 have i:Eu (A.map λq=>kS q.1) (kS x)=γ:=by delta Eu;rw[kK];show eA.2 #v[_,h,aM J]
 have d:Na (A.map λq=>kS q.1) ((l0 A A2 p).map λq=>g q.2) (kS x) (g z)=(l0 A A2 λw=>p w||decide (w=x)).map λq=>g q.2:=by
  delta Na l0;rw[aT,aT,List.zipWith_map];have:∀(f:Str×α->Str×α->L4.D) (l:List (Str×α)),dP f l l=l.map λq=>f q q:=λf l=>by
   induction l with
   |nil=>rfl
   |cons a l o=>rw[fK,o];rfl
  rw[this];calc pU λq m=>?_;change (if kS q.1=kS x then g z else g (if p q.1=γ then q.2 else lu A2 q.1 q.2))=g (if (p q.1||decide (q.1=x))=γ then q.2 else lu A2 q.1 q.2);by_cases e:q.1=x
  .rw[af (aW kS e),aM e,nz,af J];subst e;rw[Nx r h m]
  .rw[ai λw=>e (D8 w),aP e,mV]
 delta ll dd;simp only;rw[b,c,af #v[by rw[ah];show j,by rw[ah,ah,E6]],i,af J,d]
theorem XZ{w:DD->DD×DD}{st:aU->DD×DD->Option (aU×(DD×DD))}{R:Sl->aU}(hR:∀s d,(R s).set 6 (.q d)=R (.q d)):∀(L B:List (Str×α)) (s:Sl),((B++L).map aj).Nodup->(B++L).length<=900->
  (∀q∈L,∀a b,ll a (kS q.1) (g q.2)=U b->st (R (.q (.str q.1))) (w a)=U (R (.q (.str q.1)),w b))->∃i,mxL 6 st (L.map λq=>D.str q.1) (R s) (w (dd g B))=U (R i,w (dd g (B++L)))
 |[],B,s,_,_,_=>#v[s,by rw[bF];rfl]
 |q::L,B,s,f,l,h=>by
  have hB:=λe=>by rw[aZ,cq]at f;show f.2.2 _ e _ (aX) J
  have m:=h q aX _ _ (XX hB (by rw[aH,aL]at l;omega));have c:B++[(q.1,q.2)]++L=B++q::L:=by rw[bN];rfl
  let#v[i,j]:=XZ hR L (B++[(q.1,q.2)]) (.q (.str q.1)) (by rw[c];show f) (by rw[c];show l) λr o=>h r (bg _ o);calc#v[i,?_];rw[c]at j;rw[aA];delta mxL;rw[hR,m];show j
theorem refill{R:Sl->aU}{V:DD}{st:aU->DD×DD->Option (aU×(DD×DD))}(hR:∀s d,(R s).set 7 (.q d)=R (.q d))(o:(A.map aj).Nodup)(m:A.length<1000):∀(L:aD) (p:Str->Bool) (s:Sl),(∀x∈L,∃z,(x,z)∈A/\∀a b,ll a (kS x) (g z)=U b->st (R (.q (.str x))) (a,V)=U (R (.q (.str x)),(b,V)))->
  ∃j f,mxL 7 st (L.map D.str) (R s) (dd g (l0 A A2 p),V)=U (R j,(dd g (l0 A A2 f),V))/\(∀x,p x=γ->f x=γ)/\∀x∈L,f x=γ
 |[],p,s,_=>#v[s,p,J,λv h=>h,λx h=>by ext h]
 |x::L,p,s,h=>by
  let#v[z,u,i]:=h x aX;have i:=i _ _ (XY (A2:=A2) (p:=p) o u m);let#v[j,f,q,l,r]:=refill hR o m L (λw=>p w||decide (w=x)) (.q (.str x)) λC t=>h C (bg _ t);refine#v[j,f,?_,λy c=>l y (by rw[c];rfl),λy c=>?_]
  .rw[aA];delta mxL;rw[hR,i];show q
  .rcases aJ.1 c with e|c
   .rw[e];show l x (by rw[aM J,nz])
   .show r y c
end
def acT{x:Nat}{e f:aU->DD×DD->Option (aU×(DD×DD))}{fr:FS}{ρ a b:aU}{c d:DD×DD}(h:(oz ρ&&decide (x<ρ.length))=γ)(i:e (ρ.set x .un) (([],[]),([],[]))=U (a,c))(j:f a c=U (b,d)):Y' x e f fr ρ=fr (b.set x (.q (dcT d))):=by delta Y';rw[af h,i];erw[j]
def ae0{e:List aD}{a x:Str}:D? (.bx [.str a,.str x]) (X? e)=U (.bl (decide ([a,x]∈e))):=by
 have f:∀l:List aD,CA (l.map fm)=U (l.map λk=>L3.Dq.bx (k.map L3.Dq.str)):=λl=>by
  induction l with
  |nil=>rfl
  |cons k l j=>
   have:p? (fm k)=U (.bx (k.map L3.Dq.str)):=by delta fm p?;rw[Du]
   rw[aA];delta CA;rw[this];erw[j];rfl
 have i:p? (.bx [.str a,.str x])=U (.bx ([a,x].map L3.Dq.str)):=rfl;have b:∀k:aD,ij (.bx (k.map L3.Dq.str))=1:=λk=>by rw[ij,Bc]
 delta D? X?;erw[f,i];rw[af]
 .congr 2;rw[dj,kK,eA,bU];have c:∀k:aD,n3 (.bx (k.map L3.Dq.str)) (.bx ([a,x].map L3.Dq.str))=decide (k=[a,x]):=λk=>by rw[n3,Fj]
  constructor
  .rintro⟨k,d,h⟩;have h:n3 (.bx (k.map L3.Dq.str)) (.bx ([a,x].map L3.Dq.str))=γ:=h;rw[c]at h;rw[ba h]at d;show zP.1 (E2.1 d)
  .intro h;calc#v[[a,x],E2.2 (zP.2 h),?_];change n3 (.bx ([a,x].map L3.Dq.str)) (.bx ([a,x].map L3.Dq.str))=γ;rw[c];show aM J
 .rw[bA,ny,bH];calc#v[by rw[b];rfl,λk z=>?_];change decide (ij (.bx (k.map L3.Dq.str))<=20)=γ;rw[b];rfl
def mE:FE:=c2 wX (c2 e7 (c2 e7 (cL (vL oK)) (c1 ID (c2 D? (v8 k7) aB))) aY) bK
section
variable{A1 A2:List (Str×Str)}{V1 V2:List (Str×Int)}{y:Str}{T:List Th}{M:List Mk}{dk:aD}{Q:List aD}
abbrev G?(A:List (Str×Str))(V:List (Str×Int)):L4.D:=.bx [nj A,vj V]
def Rm(T:List Th)(M:List Mk)(dk:aD)(y:Str)(A1 A2:List (Str×Str))(V1 V2:List (Str×Int))(Q:List aD)(a b s7:Sl):aU:=[.q (wF T M dk y),.q (G? A1 V1),.q (G? A2 V2),.q (X? Q),.un,a,b,s7]
def UX{A:List (Str×Str)}(a:(A.map aj).Nodup){x z:Str}(h:(x,z)∈A):wX (nj A) (.str x)=U (.str z):=by
 have b:=by have:=yL a;rw[aT]at this;show this
 show Bj b (by rw[jv];show aw.2 #v[_,h,J])
def YQ{V:List (Str×Int)}(a:(V.map aj).Nodup){x:Str}{z:Int}(h:(x,z)∈V):wX (vj V) (.str x)=U (.int z):=NY a h
def YR{i:Int}{a x:Str}{b:Sl}(h:c2 e7 (cL (vL (ab jH (a1 lb)))) aY (Rm T M dk y A1 A2 V1 V2 Q (.q (.int i)) (.q (.str x)) b)=U (.str a,Rm T M dk y A1 A2 V1 V2 Q (.q (.int i)) (.q (.str x)) b)):
  c2 e7 (cL (vL oK)) (c1 ID (c2 D? (v8 k7) aB)) (Rm T M dk y A1 A2 V1 V2 Q (.q (.int i)) (.q (.str x)) b)=U (if [a,x]∈Q then G? A1 V1 else G? A2 V2,Rm T M dk y A1 A2 V1 V2 Q (.q (.int i)) (.q (.str x)) b):=by
 let c:=Rm T M dk y A1 A2 V1 V2 Q (.q (.int i)) (.q (.str x)) b;have d:c2 D? (v8 k7) aB c=U (.bl (decide ([a,x]∈Q)),c):=vq (xV (vm h J) (show 2<=1000 by decide)) J ae0;refine vq (y:=.int (if [a,x]∈Q then 1 else 0)) J (wg d ?_) ?_
 .by_cases q:[a,x]∈Q
  .rw[aM q,af q];rfl
  .rw[aP q,ai q];rfl
 .by_cases q:[a,x]∈Q
  .rw[af q,af q];rfl
  .rw[ai q,ai q];rfl
def ae1{x z:Str}{a:Sl}(b:(A1.map aj).Nodup)(c:(A2.map aj).Nodup)(h:(x,z)∈if [("at" : Str),x]∈Q then A1 else A2):mE (Rm T M dk y A1 A2 V1 V2 Q (.q (.int 0)) (.q (.str x)) a)=U (.str z,Rm T M dk y A1 A2 V1 V2 Q (.q (.int 0)) (.q (.str x)) a):=by
 refine vq (x:=if [("at" : Str),x]∈Q then nj A1 else nj A2) (vq (YR J) J ?_) J ?_
 .by_cases q:[("at" : Str),x]∈Q
  .rw[af q,af q];rfl
  .rw[ai q,ai q];rfl
 .by_cases q:[("at" : Str),x]∈Q
  .rw[af q]at h ⊢;show UX b h
  .rw[ai q]at h ⊢;show UX c h
def ae2{x:Str}{z:Int}{a:Sl}(b:(V1.map aj).Nodup)(c:(V2.map aj).Nodup)(h:(x,z)∈if [("mark" : Str),x]∈Q then V1 else V2):mE (Rm T M dk y A1 A2 V1 V2 Q (.q (.int 1)) (.q (.str x)) a)=U (.int z,Rm T M dk y A1 A2 V1 V2 Q (.q (.int 1)) (.q (.str x)) a):=by
 refine vq (x:=if [("mark" : Str),x]∈Q then vj V1 else vj V2) (vq (YR J) J ?_) J ?_
 .by_cases q:[("mark" : Str),x]∈Q
  .rw[af q,af q];rfl
  .rw[ai q,ai q];rfl
 .by_cases q:[("mark" : Str),x]∈Q
  .rw[af q]at h ⊢;show YQ b h
  .rw[ai q]at h ⊢;show YQ c h
def YS{E:FE}{ρ:aU}{k:FE}{x:Str}{d:L4.D}{a b:DD}{V:DD}{c:FE}(h:E ρ=U (d,ρ))(i:c ρ=U (.int 0,ρ))(j:k ρ=U (.str x,ρ))(e:ll a (kS x) d=U b):M' c k E ρ (a,V)=U (ρ,(b,V)):=by delta M' Dx;rw[h,i,j];change (kW (λf=>(ρ,f)) (match U (kS x)with|some k=>if (0:Int)=0 then (ll a k d).map λz=>(z,V)else if (0:Int)=1 then (ll V k d).map λz=>(a,z)else Z|none=>Z))=_;erw[e];rfl
def ae3{E:FE}{f:aU}{k:FE}{x:Str}{d:L4.D}{a b:DD}{V:DD}{c:FE}(i:E f=U (d,f))(j:c f=U (.int 1,f))(l:k f=U (.str x,f))(e:ll a (kS x) d=U b):M' c k E f (V,a)=U (f,(V,b)):=by delta M' Dx;rw[i,j,l];change (kW (λh=>(f,h)) (match U (kS x)with|some k=>if (1:Int)=0 then (ll V k d).map λz=>(z,a)else if (1:Int)=1 then (ll a k d).map λz=>(V,z)else Z|none=>Z))=_;erw[e];rfl
def UY{c:Type}{A A2:List (Str×c)}{p:Str->Bool}{x:Str}{z:c}(sub:∀x∈A.map aj,x∈A2.map aj)(h:(x,z)∈l0 A A2 p)(B:Prop)[Decidable B](hB:p x=decide B):(x,z)∈if B then A else A2:=by
 rcases N7 sub h with ⟨a,b⟩|⟨a,b⟩
 .rw[a]at hB;rw[af (ba hB.symm)];show b
 .rw[a]at hB;rw[ai (of_decide_eq_false hB.symm)];show b
abbrev pQ(Q:List aD)(a:Str):Str->Bool:=λx=>decide ([a,x]∈Q)
def acU(p:(A1.map aj).Nodup)(z:(A2.map aj).Nodup)(o:(V1.map aj).Nodup)(w:(V2.map aj).Nodup)(kA:∀x∈A1.map aj,x∈A2.map aj)(kV:∀x∈V1.map aj,x∈V2.map aj)(C:A1.length<=40)(E:V1.length<=40):
  ∃A B,j2 5 (B? cz) (j2 6 (iD (c2 e7 ao aY)) (M' aY bK mE)) (Rm T M dk y A1 A2 V1 V2 Q .un .un .un) (([],[]),([],[]))=U (Rm T M dk y A1 A2 V1 V2 Q A B .un,(dd D.str (l0 A1 A2 (pQ Q "at")),dd D.int (l0 V1 V2 (pQ Q "mark")))):=by
 let c:=λs=>Rm T M dk y A1 A2 V1 V2 Q (.q (.int 0)) s .un;let f:=λs=>Rm T M dk y A1 A2 V1 V2 Q (.q (.int 1)) s .un;let#v[s,i]:=XZ (st:=M' aY bK mE) (R:=c) (λs d=>J) (l0 A1 A2 (pQ Q "at")) [] .un (by rw[bQ,Ce];show p) (by rw[bQ,E6];omega) λq h a b e=>YS (ae1 p z (UY kA h _ J)) J J e;let#v[r,j]:=XZ (st:=M' aY bK mE) (R:=f) (λs d=>J) (l0 V1 V2 (pQ Q "mark")) [] s (by rw[bQ,Ce];show o) (by rw[bQ,E6];omega) λq h a b e=>ae3 (ae2 o w (UY kV h _ J)) J J e;rw[bQ]at i j;have t:iD (c2 e7 ao aY) (c .un)=U ((l0 A1 A2 (pQ Q "at")).map λq=>D.str q.1,c .un):=by delta iD;rw[show c2 e7 ao aY (c .un)=U (nj A1,c .un) from J];simp only;rw[af (by rw[ah,ah])];delta l0;rw[aT,aT];rfl
 have u:iD (c2 e7 ao aY) (f s)=U ((l0 V1 V2 (pQ Q "mark")).map λq=>D.str q.1,f s):=by delta iD;rw[show c2 e7 ao aY (f s)=U (vj V1,f s) from J];simp only;rw[af (by rw[ah,ah])];delta l0;rw[aT,aT];rfl
 calc#v[.q (.int 1),r,?_];have l:j2 6 (iD (c2 e7 ao aY)) (M' aY bK mE) (c .un) (([],[]),([],[]))=U (c s,(dd D.str (l0 A1 A2 (pQ Q "at")),(([],[]):DD))):=by delta j2;rw[t];show i
 have m:j2 6 (iD (c2 e7 ao aY)) (M' aY bK mE) (f s) (dd D.str (l0 A1 A2 (pQ Q "at")),(([],[]):DD))=U (f r,(dd D.str (l0 A1 A2 (pQ Q "at")),dd D.int (l0 V1 V2 (pQ Q "mark")))):=by delta j2;rw[u];show j
 delta j2;rw[show B? cz (Rm T M dk y A1 A2 V1 V2 Q .un .un .un)=U ([.int 0,.int 1],Rm T M dk y A1 A2 V1 V2 Q .un .un .un) from J];simp only;delta mxL;rw[show (Rm T M dk y A1 A2 V1 V2 Q .un .un .un).set 5 (.q (.int 0))=c .un from J];delta j2 at l m;rw[l];simp only;delta mxL;rw[show (c s).set 5 (.q (.int 1))=f s from J,m];rfl
def UZ(hT:T.length<=900)(i:(A1.map aj).Nodup)(H:(A2.map aj).Nodup)(F:(V1.map aj).Nodup)(G:(V2.map aj).Nodup)(kA:∀x∈A1.map aj,x∈A2.map aj)(kV:∀x∈V1.map aj,x∈V2.map aj)(C:A1.length<=20)(E:V1.length<=40)(m:∀x∈ti T,x∈A1.map aj):
  ∃p,(∀x,tH x∈Q->p x=γ)/\yx [wF T M dk y,G? A1 V1,G? A2 V2,X? Q]=U (G? (l0 A1 A2 p) (l0 V1 V2 (pQ Q "mark")))/\((∀x∈ti T,p x=γ)\/∀x∈ti T,sq (l0 A1 A2 p) 21 (U x)=Z):=by
 let#v[I,N,o]:=acU i H F G kA kV () E;let f:=l0 A1 A2 (pQ Q "at");let c:=l0 V1 V2 (pQ Q "mark");let R:=λs7=>Rm T M dk y A1 A2 V1 V2 Q I N s7;let#v[b,r,z]:=XW (A:=f) hT (by rw[Ce];show i) (by rw[E6];show C);have j:cT (vo xS oo) ((R .un).set 4 (.q (dcT (dd D.str f,dd D.int c))))=U (b,(R .un).set 4 (.q (dcT (dd D.str f,dd D.int c)))):=wz (vn J r);have fin:∀{p:Str->Bool} {s7:Sl},Q? 4 (cT (vo xS oo)) (j2 7 (iL (cL (wb wV jQ))) (M' bo cj (c2 wX (c2 e7 ao bo) cj))) (R .un) (dd D.str f,dd D.int c)=U (R s7,(dd D.str (l0 A1 A2 p),dd D.int c))->yx [wF T M dk y,G? A1 V1,G? A2 V2,X? Q]=U (G? (l0 A1 A2 p) c):=λ{p s7} h=>by calc vA (ρ:=(R s7).set 4 (.q (dcT (dd D.str (l0 A1 A2 p),dd D.int c)))) J ?_;show(acT J o h)
 cases b with
 |false=>calc#v[pQ Q "at", λx h=>aM h,fin (s7:=.un) ?_,.inr (z J)];delta Q?;rw[j]
 |true=>
  let#v[s7,p,t,u,w]:=refill (V:=dd D.int c) (st:=M' bo cj (c2 wX (c2 e7 ao bo) cj)) (R:=R) (λs d=>J) i () (ti T) (pQ Q "at") .un λx B=>by let#v[q,l,rfl]:=aw.1 (m x B);show#v[q.2,l,λa b e=>YS (vq J J (UX i l)) J J e]
  calc#v[p,λx h=>u x (aM h),fin (s7:=s7) ?_,.inl w];delta Q?;rw[j];simp only;delta j2;rw[YO hT J];show t
end
def Pw(b:List Int)(k:Nat):∃c,y7 [.O (b.map D.int),.int k]=U (.int c):=by
 let d:aU:=[.q (.O (b.map D.int)),.q (.int k)];have a:cT (c2 DA ao (c1 wW ae)) d=U (decide ((k:Int)<((b.map D.int).length:Nat)),d):=rfl;rw[ah]at a;by_cases h:k<b.length
 .rw[aM ()]at a;calc#v[b[k],vA J (vW ((v5 a).t (vF (vq J J ?_))))];show On (by rw[br,aI h];rfl)
 .rw[aP ()]at a;show#v[0,vA J ((ve ((vQ a))))]
structure Dr(T:List Th)(M:List Mk)(y:Str)(A:List (Str×Str))(V:List (Str×Int)):Prop where
 a:DE A y
 dm:∀x,x∈A.map aj ↔ x∈fu T λk=>!decide (k=.room)
 hd:∀q∈A,q.2∈fu T Kd.hd
 yr:∀r,(y,r)∈A->r∈y? T
 v:V.map aj=(ov T M).map aj
section
variable{A A1 A2:List (Str×Str)}{V V1 V2:List (Str×Int)}{y:Str}{T:List Th}{M:List Mk}{dk:aD}{Q:List aD}
def U0(g:fy T M dk):((ov T M).map aj).Nodup:=by rw[zX];show uX (uT (wx T _) (fj _)) g.nd
def U1(g:fy T M dk):((ov T M).map aj).length<=40:=by have b:=K3 g;have a:=(wx T Kd.mk).length_le;have c:=g.m4;rw[zX];erw[aH,ah]at a ⊢;omega
def YT(g:fy T M dk)(d:Dr T M y A V):∃S r,Sv T M y A V S r/\y9 [nj A,vj V]=U (sD S):=by
 have f:(V.map aj).Nodup:=by rw[d.v];show U0 g
 have lv:=by have:=U1 g;rw[<-d.v,ah]at this;show this
 let#v[S,o,e]:=Um d.a f lv;let#v[r,c]:=d.a.yo;calc#v[S,r,#v[#v[g.L',g.len,g.p7,d.a,λq b=>(wx T _).subset (d.hd q b),f,λx h=>?_,o,c],d.dm,d.hd,d.yr r c,λq b=>by rw[<-d.v];show bT b],e];have:x∈V.map aj:=by rw[d.v,zX];show bw _ h
 let#v[q,b,rfl]:=aw.1 this;show#v[q.2,b]
def U2(g:fy T M dk)(H:(T.filter λt=>decide (t.k=.you)).map Th.n=[y])(b:Dr T M y A1 V1)(f:Dr T M y A2 V2)(Q:List aD):∃c j,Dr T M y c j/\Ag Q A1 c V1 j/\yx [wF T M dk y,G? A1 V1,G? A2 V2,X? Q]=U (G? c j):=by
 have i:=b.a.nd;have X:=f.a.nd;have F:(V1.map aj).Nodup:=by rw[b.v];show U0 g
 have W:(V2.map aj).Nodup:=by rw[f.v];show U0 g
 have S:=by have:=U1 g;rw[<-b.v,ah]at this;show this
 have kA:=λx h=>(f.dm x).2 ((b.dm x).1 h);have kV:∀x∈V1.map aj,x∈V2.map aj:=λx h=>by rw[f.v,<- b.v];show h
 have I:∀x∈ti T,x∈A1.map aj:=λx h=>(b.dm x).2 (KN (λk l=>by rw[ba l];rfl) h);let#v[p,O,e,P]:=UZ (bW g.len #[]) i X F W kA kV b.a.ln S I;let c:=l0 A1 A2 p;have G:(c.map aj).Nodup:=by rw[Ce];show i
 have E:∀x,x∈c.map aj ↔ x∈A1.map aj:=λx=>by rw[Ce]
 have C:=λx=>(E x).t (b.dm x);have hd:∀q∈c,q.2∈fu T Kd.hd:=λq m=>by
  rcases N7 kA m with ⟨_,h⟩|⟨_,h⟩
  .show b.hd _ h
  .show f.hd _ h
 have B:∀r,(y,r)∈c->r∈y? T:=λr h=>by
  rcases N7 kA h with ⟨_,h⟩|⟨_,h⟩
  .show b.yr _ h
  .show f.yr _ h
 let#v[Y,o]:=b.a.yo;let#v[r3,d]:∃z,(y,z)∈c:=UW kA (aw.2 #v[_,o,J]);have ring:∀x∈ti T,sq c 21 (U x)=Z:=by
  rcases P with h|h
  .intro x u;have:=aeX g.L' H b.dm b.hd E G (λx u z R=>(UV i (h x u)).1 R) d (B _ d) (FD b.a x) (KN (λk l=>by rw[ba l];rfl) u);calc E5 this ?_;have w:=OX (Up b.a (FD b.a x)) λa N=>by let#v[q,m,rfl]:=Uo (FD b.a x) a N;show(wx T _).subset (b.hd q m)
   have:=K3 g;rw[ah]at w;omega
  .show h
 calc#v[c,l0 V1 V2 (pQ Q "mark"),#v[XT g.L' H G C hd d (B _ d) ring (by rw[E6];show b.a.ln),C,hd,B,by rw[Ce];show b.v],λx=>#v[λh z=>UV i (O x h),λh z=>UV F (aM h)],e]
end
def tB:FS:=a0 (vR 7 (wY xw 4 cA)) (vY (zF 5 (v8 sY)))
def lB:FS:=(a0 (yc 4 (wb y8 sV))
 (a0 (yc 5 (vL vG))
 (a0 (yA (B? cz) (gN 6) tB)
 (a0 (vR 8 (wY yk 4 cA))
 (a0 (JZ (vo zW jI) (gT sJ 2))
 (a0 (vR 11 (vo (xq 4) sS))
 (a0 (vR 12 (vo yx sP))
 (a0 (vR 13 (vZ (vX 3) "holds" (cV 11) sQ))
 (fx (cT (c2 (eo γ) (vZ (vX 3) "holds" (cV 11) sR) (cV 13))) (vz dB) vJ)))))))))
section
variable{y:Str}{T:List Th}{M:List Mk}{dk:aD}
def YU(g:fy T M dk)(l:(T.filter λt=>decide (t.k=.you)).map Th.n=[y]){d:List L4.D}(i:IL d):∃A V b c,IL c/\Dr T M y A V/\xw d [wF T M dk y]=U (nj A,b)/\yw b [wF T M dk y]=U (vj V,c):=by let#v[A,b,m,a,_,#v[e,hd,p],f]:=QK g l i;let#v[V,c,o,h,j,_]:=Ul g m;show#v[A,V,b,c,o,#v[a,e,hd,p,by rw[j,zX]],f,h]
def ae4(b:Bool):eo γ (.bl b) (.bl b)=U (.bl δ):=by ext b<;>kernel_rfl
def acV(i:List Int)(hl:i.length<=63):YE [.O (i.map D.int)]=U (.bl γ):=by
 let#v[c0,e0]:=Pw i 0;let#v[c1,e1]:=Pw i 1;let#v[T,M,dk,y,es,g,P]:=Xr c0;have ew:=Uj g P (Uq g);let sc:=D.O (i.map D.int);let W:=wM T M dk y;let sp:=wF T M dk y;let R:aU->aU:=λs=>.q sc::.q sp::.q W::s;have loop:∀(l:List Int) (s:aU),s.length=11->∃S,fl (gN 3) lB (l.map D.int) (R s)=U (.nx (R S)):=by
  intro l
  induction l with
  |nil=>show λs v=>#v[s,J]
  |cons c l ih=>
   intro s hs
   match s,hs with
   |[s3,s4,s5,x,E,s8,s9,B,C,j,u],_=>
   let#v[xs,ix,dx]:=Mj c 130 #[];let#v[A1,V1,z,w,i2,d1,p1,q1]:=YU g P ix;let#v[I,V2,xs3,xs4,i4,d2,p2,q2]:=YU g P i2;let#v[cm,f,xs5,i5,O,ec]:=N2 g i4;let#v[d,H,i6,ak,ea]:=Mz g O (n:=3) #[] i5;let#v[it,ot,a,b,eg,gv]:=QP O;let#v[k,ns',ds,Q,t]:=aeW g P gv O ak;let#v[hh,r1,r2]:=t.r;let#v[h',u1,u2]:=t.h;let#v[A3,V3,d3,ag,em]:=U2 g P d1 d2 Q;let#v[S1,w1,v1,es1]:=YT g d1;let#v[S3,w3,v3,es3]:=YT g d3;let#v[bb,b1,b3]:=u2 v1 v3 ag;let o:L4.D:=.obj k ns' ds;let N:=G? A1 V1;let X:=G? I V2;let F3:=G? A3 V3;let G:=λxs st x E s=>R (.q (.int c)::.J xs::.J st::x::E::s);let At:=R [.q (.int c),.J H,.q (.ax [N,X]),.q (.int 1),.q (nj I),.q cm,.q it,.q ot,.q o,.q F3,.q (.bl bb)];let#v[S,q3]:=ih [.q (.int c),.J H,.q (.ax [N,X]),.q (.int 1),.q (nj I),.q cm,.q it,.q ot,.q o,.q F3,.q (.bl bb)] J;calc#v[S,?_];rw[aA];have tn:∀{F z w:List L4.D} {A:List (Str×Str)} {V:List (Str×Int)} (st:List L4.D) (x E:Sl) (s:aU),st.length<1000->xw F [sp]=U (nj A,z)->yw z [sp]=U (vj V,w)->tB (G F st x E s)=U (.nx (G w (st++[G? A V]) x (.q (nj A)) s)):=λ{F z w A V} st x E s hl p q=>by calc(ve ((vK (AO J J p)))).t ?_;calc(wU (CD (ρ1:=G w st x (.q (nj A)) s) J ?_ J hl));show xV (vm J (vm ((AO J J q)) J)) (show 2<=1000 by decide)
   have ev:lB (R [.q (.int c),s4,s5,x,E,s8,s9,B,C,j,u])=U (.nx At):=by
    calc(ve ((BE (vn J dx)))).t ?_;calc(ve J).t ?_;have t2:yA (B? cz) (gN 6) tB (G xs [] x E [s8,s9,B,C,j,u])=U (.nx (G xs4 [N,X] (.q (.int 1)) (.q (nj I)) [s8,s9,B,C,j,u])):=by calc(wZ J).t ?_;calc(KW J (tn [] _ _ _ #[] p1 q1)).t ?_;show(KW J (tn [N] _ _ _ (show 1<1000 by decide) p2 q2))
    calc(ve t2).t ?_;calc(ve ((vK (AO J J ec)))).t ?_;calc(ve (UE (vn J eg) J)).t ?_;calc(ve ((vK (vn (vm ((AO (vm J (vm (vn J (XG O)) J)) J ea)) J) t.m)))).t ?_;let Y:=λj u=>R [.q (.int c),.J H,.q (.ax [N,X]),.q (.int 1),.q (nj I),.q cm,.q it,.q ot,.q o,j,u];calc(ve ((vK (vn (vm J (vm J (vm J (vm (wt J r1 t.nn J r2) J)))) em)))).t ?_;calc(ve ((vK (wt J u1 t.nh (vm J (vm (vn J es1) J)) b1)))).t ?_;show(vQ (wz (vq (wt J u1 t.nh (vm J (vm (vn J es3) J)) b3) J (ae4 bb))))
   show(KW J ev).t q3
 let cs:=c1::(i.drop (HT.tX i.length 0 (U 2))).take (HT.tX i.length i.length (U 9) - HT.tX i.length 0 (U 2));have ec:[D.int c1]++gs (i.map D.int) (U 2) (U 9)=cs.map D.int:=by delta gs;rw[ah,<- gA,<- gE];rfl
 have O:(gs (i.map D.int) (U 2) (U 9)).length<=63:=by delta gs;rw[bJ,cJ,ah];omega
 let un:aU:=fR 11 .un;let#v[S,e]:=loop cs un J;calc vA (ρ:=R S) J ?_;calc(ve (ρ':=.q sc::.q sp::.un::un) ((vK (vn (vm (vn (vm J (vm J J)) e0) J) es)).t J)).t ?_;calc(ve (ρ':=R un) ((vK (vn (vm J J) ew)).t J)).t ?_;calc(ve ((wZ (ds:=cs.map D.int) (ρ1:=R un) ?_).t e)).t J;show(Dh (wq (xM (xs:=[.int c1]) (ys:=gs (i.map D.int) (U 2) (U 9)) (wq (BF (vm (vn (vm J (vm J J)) e1) J) (show 1<=1000 by decide))) J (by change 1+_<=1000;omega)))).t (by rw[ec])
end
end K24x
namespace K24x
open PySem L2 L3 L4
open PySem.W (nsIn)
structure Fx(K:ay)(C0 C1 C2 C3 C4 C5 C6 C7 C8 C9 C10 C11 C12 C13 C14 C15:Addr):Prop where
 a:Al (λx C=>nsIn K bR x=U (U (.ref C))) ["Thing", "Mark", "Verb", "At", "Has", "Seen", "Marked", "Kind", "Word", "Not", "Both", "Move", "Put", "Rule", "World", "Lit"] [C0,C1,C2,C3,C4,C5,C6,C7,C8,C9,C10,C11,C12,C13,C14,C15]
 k:Al (CF K) [C0,C1,C2,C3,C4,C5,C6,C7,C8,C9,C10,C11,C12,C13,C14,C15] [["kind", "name", "start", "words"],["most", "name", "start"],["form", "joining", "name", "others"],["place", "term"],["term"],["term"],["term", "value"],["kind", "term"],["word"],["inner"],["one", "other"],["place", "term"],["term", "value"],["verb", "deeds", "refuses", "tests", "text"],["copied_rules", "kept_dark", "kept_things", "kept_verbs", "mosts_by_name", "shared_rules", "shared_verbs", "things_by_name", "verbs_by_word", "your_name", "kept_marks", "kept_rules", "kept_ways", "rules_by_verb"],[]]
 i:Al (λC j=>J9 K [C0,C1,C2,C3,C4,C5,C6,C7,C8,C9,C10,C11,C12,C13,C14,C15] C j=γ) [C1,C0] [1,0]
 n_Lit:c9 K (.ref C15) "__init__" = U (U (.builtin "object.__init__"))
 nd:decide ([C0,C1,C2,C3,C4,C5,C6,C7,C8,C9,C10,C11,C12,C13,C14,C15]:List Addr).Nodup=γ
 kn:kN K=γ
 e:((["all", "any", "bool", "int", "isinstance", "len", "list", "range", "set", "sorted", "str", "tuple", "zip"]:aD).all λx=>match nsIn K bR x with|some Z=>γ|_=>δ)=γ
 g0:GS K "KINDS" ["room", "plain", "fixed", "box", "lamp", "you"]
 g1:GS K "KINDS_APART" ["room", "you"]
 g2:GS K "KINDS_THAT_HOLD" ["room", "box", "you"]
 g3:GS K "KINDS_WITH_MARK" ["box", "lamp"]
 g4:GC K "MOST_BESIDE" 7
 g5:GC K "MOST_IN_NAME" 8
 g6:GC K "MOST_IN_WORD" 12
 g7:GC K "MOST_MARKS" 4
 g8:GC K "MOST_OF_MARK" 3
 g9:GC K "MOST_ROOMS" 5
 g10:GC K "MOST_RULES" 20
 g11:GC K "MOST_VERBS" 6
 g12:GC K "MOST_WAYS" 10
 g13:GC K "MOST_WORDS" 4
 g14:GS K "NO_NAMES" ["it", "other", "here", "the", "a", "undo", "restart"]
 g15:GS K "NO_WORDS" ["the", "a"]
 g16:GS K "NO_WORDS_OF_ROWS" ["the", "a", "undo", "restart"]
 q17:GJ K C0 "Thing.__init__" (b? (top 52) 0) [V.I]
 q18:GM K C1 "__init__" "Mark.__init__" (b? (top 53) 0)
 q19:GJ K C2 "Verb.__init__" (b? (top 54) 0) [V.I,(V.str "one"),V.I]
 q20:GM K C3 "__init__" "At.__init__" (b? (top 28) 0)
 q21:GM K C4 "__init__" "Has.__init__" (b? (top 29) 0)
 q22:GM K C5 "__init__" "Seen.__init__" (b? (top 30) 0)
 q23:GM K C6 "__init__" "Marked.__init__" (b? (top 31) 0)
 q24:GM K C7 "__init__" "Kind.__init__" (b? (top 32) 0)
 q25:GM K C8 "__init__" "Word.__init__" (b? (top 33) 0)
 q26:GM K C9 "__init__" "Not.__init__" (b? (top 35) 0)
 q27:GM K C10 "__init__" "Both.__init__" (b? (top 36) 0)
 q28:GM K C11 "__init__" "Move.__init__" (b? (top 93) 0)
 q29:GM K C12 "__init__" "Put.__init__" (b? (top 94) 0)
 q30:GJ K C13 "Rule.__init__" (b? (top 101) 0) [(V.bl δ)]
 q31:GM K C0 "can_hold" "Thing.can_hold" (b? (top 52) 1)
 q32:GM K C0 "has_mark" "Thing.has_mark" (b? (top 52) 2)
 q33:GM K C0 "is_plainly" "Thing.is_plainly" (b? (top 52) 3)
 q34:GM K C14 "of_kind" "World.of_kind" (b? (top 136) 3)
 q35:GM K C14 "all_verbs" "World.all_verbs" (b? (top 136) 13)
 q36:GM K C14 "__init__" "World.__init__" (b? (top 136) 0)
 q37:GM K C14 "you" "World.you" (b? (top 136) 4)
 q38:GM K C14 "thing_of" "World.thing_of" (b? (top 136) 2)
 q39:GM K C14 "most_of" "World.most_of" (b? (top 136) 6)
 q40:GM K C14 "is_dark" "World.is_dark" (b? (top 136) 5)
 q41:GM K C3 "reads" "At.reads" (b? (top 28) 2)
 q42:GM K C4 "reads" "Has.reads" (b? (top 29) 2)
 q43:GM K C5 "reads" "Seen.reads" (b? (top 30) 2)
 q44:GM K C6 "reads" "Marked.reads" (b? (top 31) 2)
 q45:GM K C7 "reads" "Kind.reads" (b? (top 32) 2)
 q46:GM K C8 "reads" "Word.reads" (b? (top 33) 2)
 q47:GM K C15 "reads" "Lit.reads" (b? (top 34) 1)
 q48:GM K C9 "reads" "Not.reads" (b? (top 35) 2)
 q49:GM K C10 "reads" "Both.reads" (b? (top 36) 2)
 q50:GM K C14 "verb_of" "World.verb_of" (b? (top 136) 14)
 q51:GM K C3 "holds" "At.holds" (b? (top 28) 1)
 q52:GM K C4 "holds" "Has.holds" (b? (top 29) 1)
 q53:GM K C5 "holds" "Seen.holds" (b? (top 30) 1)
 q54:GM K C6 "holds" "Marked.holds" (b? (top 31) 1)
 q55:GM K C7 "holds" "Kind.holds" (b? (top 32) 1)
 q56:GM K C8 "holds" "Word.holds" (b? (top 33) 1)
 q57:GM K C15 "holds" "Lit.holds" (b? (top 34) 0)
 q58:GM K C9 "holds" "Not.holds" (b? (top 35) 1)
 q59:GM K C10 "holds" "Both.holds" (b? (top 36) 1)
 q0:Al (λx i=>GD K x (top i)) ["is_small_letters", "is_name", "is_word", "is_one_of", "is_whole", "is_list_up_to", "own_list", "refuse_unless", "count_of", "plain_ones", "is_mark", "check_things", "check_marks", "are_unlike", "check_names", "mark_names", "is_start", "comes_to_room", "check_starts", "are_words", "has_all", "is_told_apart", "check_words_of_things", "check_dark", "is_way", "check_ways", "check_verbs", "are_apart", "check_vocabulary", "check_parts", "does", "refuses"] [6,7,8,10,11,12,102,67,70,71,73,69,72,75,74,76,78,79,77,81,83,82,80,84,86,85,87,90,89,68,125,126]
 q1:Al (λx i=>GD K x (top i)) ["hand_rules", "put_rules", "lid_rules", "flame_rules", "way_tests", "go_rules", "wait_rules", "common_rules", "common_verbs", "by_name", "mosts_by_name", "verbs_by_word", "by_verb", "given", "at_parts", "mark_parts", "box_parts", "light_parts", "tidy", "value_of", "at_of", "mark_of", "holders_of", "room_of", "is_shut", "in_open", "has", "burns_in", "is_lit", "is_seen", "is_of_way", "things_of"] [127,128,129,130,132,131,133,124,123,137,138,139,140,40,41,42,43,44,45,14,15,16,18,19,21,20,22,24,23,25,37,38]
 q2:Al (λx i=>GD K x (top i)) ["meant", "_law_cell_at", "_law_draws", "_law_take", "_law_names", "_law_others", "_law_spec", "_law_ways", "_law_world", "_law_of", "_law_mosts", "_law_places", "_law_marks", "_law_stand", "_law_command", "_law_form", "_law_term", "_law_place", "_law_marked", "_law_asked", "_law_test", "_law_given", "_law_has_ring", "_law_mixed", "law"] [39,142,143,144,145,146,147,148,149,150,151,152,153,154,155,156,157,158,159,160,161,162,163,164,165]
class Yx(B:Bz):Prop where
 y:Yw B.P B.w B.mg B.a7 B.G
 z:B.G.hs=tupleKeyHash (vB B.P B.w)
 f:Fx B.G.K (B.G.ca 0) (B.G.ca 1) (B.G.ca 2) (B.G.ca 3) (B.G.ca 4) (B.G.ca 5) (B.G.ca 6) (B.G.ca 7) (B.G.ca 8) (B.G.ca 9) (B.G.ca 10) (B.G.ca 11) (B.G.ca 12) (B.G.ca 13) (B.G.ca 14) (B.G.ca 15)
section
variable{B:Bz}[Y:Yx B]
instance:Yb B:=#v[Y.y]
instance:Hz B:=#v[Y.z,Y.f.kn]
#print "all 0;any 1;bool 2;int 3;isinstance 4;len 5;list 6;range 7;set 8;sorted 9;str 10;tuple 11;zip 12" in instance:Nb B "ϑ0" := #v[Y.y.n Y.f.e ϑ1 J]
#print "KINDS Kw s 0;KINDS_APART DM s 1;KINDS_THAT_HOLD AI s 2;KINDS_WITH_MARK AJ s 3;MOST_BESIDE DN i 4;MOST_IN_NAME CO i 5;MOST_IN_WORD CP i 6;MOST_MARKS BM i 7;MOST_OF_MARK CQ i 8;MOST_ROOMS EK i 9;MOST_RULES EM i 10;MOST_VERBS EL i 11;MOST_WAYS F5 i 12;MOST_WORDS BN i 13;NO_NAMES HN s 14;NO_WORDS HP s 15;NO_WORDS_OF_ROWS Ao s 16" in instance:Co B "ϑ0" ϑ1:=#v[Y.y.cϑ2 Y.f.gϑ3]
#print "zj copied_rules 14 0;L8 form 2 0;Fq inner 9 0;CK joining 2 1;DL kept_dark 14 1;Cj kept_things 14 2;CL kept_verbs 14 3" in instance:Ff B ϑ0 "ϑ1" := #v[zh ((Y.f.k.at ϑ2 J J:).at ϑ3 J)]
instance:Ff B wo "kind" := #v[τ (zh ((Y.f.k.at 0 J J:).at 0 J)) ((Y.f.k.at 7 J J:).at 0 J)]
#print "m  1 0;G s_by_name 14 4" in instance:Ff B Aϑ0 "mostϑ1" := #v[zh ((Y.f.k.at ϑ2 J J:).at ϑ3 J)]
instance:Ff B vV "name" := #v[τ (τ (zh ((Y.f.k.at 0 J J:).at 1 J)) ((Y.f.k.at 1 J J:).at 1 J)) ((Y.f.k.at 2 J J:).at 2 J)]
#print "Kv ne 10 0;Fs ther 10 1;D3 thers 2 3" in instance:Ff B ϑ0 "oϑ1" := #v[zh ((Y.f.k.at ϑ2 J J:).at ϑ3 J)]
instance:Ff B Jz "place" := #v[τ (zh ((Y.f.k.at 3 J J:).at 0 J)) ((Y.f.k.at 11 J J:).at 0 J)]
#print "zk rules 5;Bk verbs 6" in instance:Ff B ϑ0 "shared_ϑ1" := #v[zh ((Y.f.k.at 14 J J:).at ϑ2 J)]
instance:Ff B xj "start" := #v[τ (zh ((Y.f.k.at 0 J J:).at 2 J)) ((Y.f.k.at 1 J J:).at 2 J)]
instance:Ff B CM "term" := #v[τ (τ (τ (τ (τ (τ (zh ((Y.f.k.at 3 J J:).at 1 J)) ((Y.f.k.at 4 J J:).at 0 J)) ((Y.f.k.at 5 J J:).at 0 J)) ((Y.f.k.at 6 J J:).at 0 J)) ((Y.f.k.at 7 J J:).at 1 J)) ((Y.f.k.at 11 J J:).at 1 J)) ((Y.f.k.at 12 J J:).at 0 J)]
instance:Ff B An "things_by_name" := #v[zh ((Y.f.k.at 14 J J:).at 7 J)]
instance:Ff B Ft "value" := #v[τ (zh ((Y.f.k.at 6 J J:).at 1 J)) ((Y.f.k.at 12 J J:).at 1 J)]
#print "L9 verb 13 0;AH verbs_by_word 14 8;CN word 8 0;xT words 0 3;zp your_name 14 9" in instance:Ff B ϑ0 "ϑ1" := #v[zh ((Y.f.k.at ϑ2 J J:).at ϑ3 J)]
instance:Af B 0 ["kind", "name", "start", "words"]:=#v[(Y.f.k.at 0 J J:)]
instance:Af B 1 ["most", "name", "start"]:=#v[(Y.f.k.at 1 J J:)]
instance:Af B 2 ["form", "joining", "name", "others"]:=#v[(Y.f.k.at 2 J J:)]
instance:Af B 3 ["place", "term"]:=#v[(Y.f.k.at 3 J J:)]
#print "4;5" in instance:Af B ϑ0 ["term"]:=#v[(Y.f.k.at ϑ0 J J:)]
#print "6 term value;7 kind term" in instance:Af B ϑ0 ["ϑ1", "ϑ2"]:=#v[(Y.f.k.at ϑ0 J J:)]
#print "8 word;9 inner" in instance:Af B ϑ0 ["ϑ1"]:=#v[(Y.f.k.at ϑ0 J J:)]
#print "10 one other;11 place term;12 term value" in instance:Af B ϑ0 ["ϑ1", "ϑ2"]:=#v[(Y.f.k.at ϑ0 J J:)]
instance:Af B 13 ["verb", "deeds", "refuses", "tests", "text"]:=#v[(Y.f.k.at 13 J J:)]
instance:Af B 14 ["copied_rules", "kept_dark", "kept_things", "kept_verbs", "mosts_by_name", "shared_rules", "shared_verbs", "things_by_name", "verbs_by_word", "your_name", "kept_marks", "kept_rules", "kept_ways", "rules_by_verb"]:=#v[(Y.f.k.at 14 J J:)]
def YV:∀k,k<16->M6 B.G.K (B.G.ca k):=Ti.at (n:=16) #v[(Y.f.k.at 0 J J:).ci,(Y.f.k.at 1 J J:).ci,(Y.f.k.at 2 J J:).ci,(Y.f.k.at 3 J J:).ci,(Y.f.k.at 4 J J:).ci,(Y.f.k.at 5 J J:).ci,(Y.f.k.at 6 J J:).ci,(Y.f.k.at 7 J J:).ci,(Y.f.k.at 8 J J:).ci,(Y.f.k.at 9 J J:).ci,(Y.f.k.at 10 J J:).ci,(Y.f.k.at 11 J J:).ci,(Y.f.k.at 12 J J:).ci,(Y.f.k.at 13 J J:).ci,(Y.f.k.at 14 J J:).ci,(Y.f.k.at 15 J J:).ci,trivial]
#print "Mark TZ 1 0;Thing O9 0 1" in instance:Ic B "ϑ0" ϑ1:=#v[ϑ2,Jt (Y.f.i.at ϑ3 J J:) J (WX 16 _) YV,Y.y.g (Y.f.a.at ϑ2 J J:)]
instance:K0f B "Lit" 15:=#v[#v[(Y.f.k.at 15 J J:).mks,Y.f.n_Lit,(Y.f.k.at 15 J J:).kp],Y.y.g (Y.f.a.at 15 J J:)]
instance:Ij B 16:=#v[injR Y.f.nd]
theorem eqL{A:Type}{l:List A}{n:Nat}(h:l.length=n):l.length=n:=h
theorem eqE{e:PySem.Expr}{v:PySem.Env}{r:PySem.Sem PySem.Value}(h:PySem.eval e v=r):PySem.eval e v=r:=h
local macro_rules|`(tactic|trivial)=>do let x:=("zr_l2I zr_mS zr_mP zr_mF zr_mI aep aec aeb aed aee Tg aei aaV abB aef aaT abH abA aaE aaF abC abE abw aaZ abo aa2 abI aaL aaM aaN aaO aaI abF aej abJ aaJ aaX abL abN abD abY aaW aaU aaS aaD aa7 aa8 aeg abP aaQ aaR aaP aek ael abe aaG aaH abf aaK abV abW abX abM abO abQ aeh aa0 aa1 abR abS abg aa3 aa4 abk abl abm abn abT abU WV WU WW abp abq abr abt aa6 abu aa9 aba abb abc acs abd ab4 abj abi abh aaY ach aby abz WT abK acf acd acg ace acb acp ab5 aa5 ab0 ab1 WS abZ abG".splitOn " ").toArray.map fun s=>Lean.mkIdent (.mkSimple s);`(tactic|repeat' first|(with_reducible intro _)|((with_reducible first|apply eqL|apply eqE);rfl)|kernel_rfl|((with_reducible first|apply abx|apply zr_cpM);rotate_left 7;rfl)|(with_reducible first $[|apply $x]*)|show qR)
#print "1 is_small_letters yJ 0;2 is_name Dp 1;2 is_word yM 2;1 is_one_of wI 3;1 is_whole D4 4;1 is_list_up_to xk 5;1 own_list D5 6" in instance:Df B ϑ0 "ϑ1" (gj B.G ϑ2):=gw J (Y.f.q0.at ϑ3 J J:) J (by trivial)
instance:Kf B 1 "Thing" 0 EO []:=gJ4 (dds:=[D.I]) (Y.f.k.at 0 J J:) (Y.f.a.at 0 J J:) J Y.f.q17 J J (by delta EN;trivial) 1
instance:Kf B 1 "Mark" 1 F6 []:=μ (Y.f.k.at 1 J J:) (Y.f.a.at 1 J J:) J Y.f.q18 J J (by trivial)
def Cf:Xn B (D' (b? (top 54) 0)) "Verb.__init__" (b? (top 54) 0) (wa (b? (top 54) 0)) 0 CS:=by
 delta CS;refine Tg ?_ ?_
 all_goals trivial
instance:Kf B 1 "Verb" 2 yh [D.I,(D.str "one"),D.I]:=gJ4 (dds:=[D.I,(D.str "one"),D.I]) (Y.f.k.at 2 J J:) (Y.f.a.at 2 J J:) J Y.f.q19 J J Cf 0
instance:Kf B 1 "Verb" 2 yh [D.I]:=gJ4 (dds:=[D.I,(D.str "one"),D.I]) (Y.f.k.at 2 J J:) (Y.f.a.at 2 J J:) J Y.f.q19 J J Cf 2
instance:Kf B 1 "Verb" 2 yh []:=gJ4 (dds:=[D.I,(D.str "one"),D.I]) (Y.f.k.at 2 J J:) (Y.f.a.at 2 J J:) J Y.f.q19 J J Cf 3
#print "At 3 Ds 0;Has 4 BO 1;Seen 5 F7 2;Marked 6 xa 3;Kind 7 xK 4;Word 8 CT 5;Not 9 xO 6;Both 10 F8 7;Move 11 zz 8;Put 12 Ap 9" in instance:Kf B 1 "ϑ0" ϑ1 ϑ2 []:=μ (Y.f.k.at ϑ1 J J:) (Y.f.a.at ϑ1 J J:) J Y.f.q2ϑ3 J J (by trivial)
instance:Kf B 2 "Rule" 13 CU []:=gJ4 (dds:=[(D.bl δ)]) (Y.f.k.at 13 J J:) (Y.f.a.at 13 J J:) J Y.f.q30 J J (by delta F9;trivial) 1
#print "can_hold E 1;has_mark F 2;is_plainly G 3" in instance:Mf B 9 "ϑ0" xϑ1:=#v[λc h e=>by
 delta xϑ1 at e;split at e
 .ext e;show nf (k:=8) (Y.f.k.at 0 J J:) J Y.f.q3ϑ2 J (by trivial)
 .ext e]
#print "1 refuse_unless gj vC gw 7;1 count_of gj BP gw 8;10 plain_ones tp yY R' 9" in instance:Df B ϑ0 "ϑ1" (ϑ2 B.G ϑ3):=ϑ4 J (Y.f.q0.at ϑ5 J J:) J (by trivial)
#print "2 is_mark Fv 10 Fu;11 check_things As 11 Ar;3 check_marks AX 12 AW" in instance:Df B ϑ0 "ϑ1" (gj B.G ϑ2):=gw J (Y.f.q0.at ϑ3 J J:) J (by delta ϑ4;trivial)
#print "1 are_unlike gj w6 gw 13;3 check_names gj AY gw 14;10 mark_names tp BQ R' 15" in instance:Df B ϑ0 "ϑ1" (ϑ2 B.G ϑ3):=ϑ4 J (Y.f.q0.at ϑ5 J J:) J (by trivial)
instance:Df B 10 "is_start" (gj B.G D7):=gw J (Y.f.q0.at 16 J J:) J (by delta D6;trivial)
instance:Df B 1 "comes_to_room" (gj B.G zG):=gw J (Y.f.q0.at 17 J J:) J (by trivial)
instance:Df B 11 "check_starts" (gj B.G Au):=gF5 ["things", "starts", "thing"] J (Y.f.q0.at 18 J J:) J (by trivial)
#print "3 are_words CV 19;1 has_all Dt 20;2 is_told_apart zH 21;11 check_words_of_things xH 22" in instance:Df B ϑ0 "ϑ1" (gj B.G ϑ2):=gw J (Y.f.q0.at ϑ3 J J:) J (by trivial)
instance:Df B 2 "check_dark" (gj B.G BS):=gw J (Y.f.q0.at 23 J J:) J (by delta BR;trivial)
instance:Df B 3 "is_way" (gj B.G HQ):=gw J (Y.f.q0.at 24 J J:) J (by trivial)
instance:Df B 4 "check_ways" (gj B.G BV):=gw J (Y.f.q0.at 25 J J:) J (by delta BU;trivial)
#print "2 check_verbs gj DO gw 0 26;1 are_apart gj zA gw 0 27;11 check_vocabulary gj yK gw 0 28;12 check_parts gj AZ gw 0 29;4 does gj A0 gw 0 30;4 refuses gj wH gw 0 31;5 hand_rules tp ER R' 1 0;5 put_rules tp Ga R' 1 1;5 lid_rules tp Gb R' 1 2;5 flame_rules tp DP R' 1 3;3 way_tests tp Gc R' 1 4;5 go_rules tp HR R' 1 5" in instance:Df B ϑ0 "ϑ1" (ϑ2 B.G ϑ3):=ϑ4 J (Y.f.qϑ5.at ϑ6 J J:) J (by trivial)
#print "5 wait_rules tp ES R' 6;6 common_rules tp yi R' 7;3 common_verbs tp yZ R' 8;1 by_name gj Fw gw 9;10 mosts_by_name gj xQ gw 10;1 verbs_by_word gj xR gw 11" in instance:Df B ϑ0 "ϑ1" (ϑ2 B.G ϑ3):=ϑ4 J (Y.f.q1.at ϑ5 J J:) J (by trivial)
instance:Df B 1 "by_verb" (gj B.G Bn):=gw J (Y.f.q1.at 12 J J:) J (by delta JA;calc#v[Qq (stW (by kernel_rfl) Cs J) (MK qR J (Lq (Li B.G.K (M0 (A? (by kernel_rfl))))) (pgI (by kernel_rfl)) (Ed (Oa (RD B.G.K ji lY p6 E8 (SG (A? (by kernel_rfl)) (RR (M0 (A? (by kernel_rfl))) (Ff.p (B:=B))) (Rb zd) #v[J,J,J,J]) (wQ (A? (by kernel_rfl)) zd))))) (MH (PE.ψ (A? (by kernel_rfl))))])
#print "of_kind wG 4;all_verbs yF 5" in instance:Mf B 9 "ϑ0" ϑ1:=#v[λc h e=>by
 delta ϑ1 at e;split at e
 .ext e;show nf (k:=8) (Y.f.k.at 14 J J:) J Y.f.q3ϑ2 J (by trivial)
 .ext e]
instance:Kf B 13 "World" 14 zR []:=μ (Y.f.k.at 14 J J:) (Y.f.a.at 14 J J:) J Y.f.q36 J J (by delta zQ;trivial)
#print "you z9 37;thing_of wN 38;most_of yD 39;is_dark zq 40" in instance:Mf B 9 "ϑ0" ϑ1:=#v[λc h e=>by
 delta ϑ1 at e;split at e
 .ext e;show nf (k:=8) (Y.f.k.at 14 J J:) J Y.f.qϑ2 J (by trivial)
 .ext e]
instance:Df B 1 "given" (gj B.G BW):=gw J (Y.f.q1.at 13 J J:) J (by delta Kz;trivial)
#print "10 at_parts xu 14;10 mark_parts y3 15;10 box_parts CW 16;10 light_parts zr 17;1 tidy BX 18" in instance:Df B ϑ0 "ϑ1" (gj B.G ϑ2):=gw J (Y.f.q1.at ϑ3 J J:) J (by trivial)
instance:Mf B 14 "reads" (wu 0):=#v[λc h e=>by
 delta wu BY at e;split at e
 .ext e;show nf (k:=13) (Y.f.k.at 3 J J:) J Y.f.q41 J (by trivial)
 .ext e;show nf (k:=13) (Y.f.k.at 4 J J:) J Y.f.q42 J (by trivial)
 .ext e;show nf (k:=13) (Y.f.k.at 5 J J:) J Y.f.q43 J (by trivial)
 .ext e;show nf (k:=13) (Y.f.k.at 6 J J:) J Y.f.q44 J (by trivial)
 .ext e;show nf (k:=13) (Y.f.k.at 7 J J:) J Y.f.q45 J (by trivial)
 .ext e;show nf (k:=13) (Y.f.k.at 8 J J:) J Y.f.q46 J (by trivial)
 .ext e;show nf (k:=13) (Y.f.k.at 15 J J:) J Y.f.q47 J (by trivial)
 .ext e]
#print "15 1 14;16 2 15;17 3 16" in instance:Mf B ϑ0 "reads" (wu ϑ1):=#v[λc h e=>by
 delta wu at e;split at e
 .ext e;show nf (k:=ϑ2) (Y.f.k.at 9 J J:) J Y.f.q48 J (by delta AL;trivial)
 .ext e;show nf (k:=ϑ2) (Y.f.k.at 10 J J:) J Y.f.q49 J (by delta zS;trivial)
 .show(Mf.p (B:=B) (g:=wu 0) c h e).mono J]
#print "1 value_of gj Av gw 19;2 at_of gj yt gw 20;2 mark_of gj yN gw 21;3 holders_of tp zT R' 22;10 room_of gj yO gw 23;10 is_shut gj yP gw 24;11 in_open gj yQ gw 25;10 has gj YD gw 26;12 burns_in gj BZ gw 27;13 is_lit gj EW gw 28;14 is_seen gj Fy gw 29" in instance:Df B ϑ0 "ϑ1" (ϑ2 B.G ϑ3):=ϑ4 J (Y.f.q1.at ϑ5 J J:) J (by trivial)
instance:Mf B 9 "verb_of" A4:=#v[λc h e=>by
 delta A4 at e;split at e
 .ext e;show nf (k:=8) (Y.f.k.at 14 J J:) J Y.f.q50 J (by trivial)
 .ext e]
#print "10 is_of_way AM 1 30;11 things_of yj 1 31;12 meant yG 2 0" in instance:Df B ϑ0 "ϑ1" (gj B.G ϑ2):=gw J (Y.f.qϑ3.at ϑ4 J J:) J (by trivial)
instance:Mf B 16 "holds" (vX 0):=#v[λc h e=>by
 delta vX B5 at e;split at e
 .ext e;show nf (k:=15) (Y.f.k.at 3 J J:) J Y.f.q51 J (by trivial)
 .ext e;show nf (k:=15) (Y.f.k.at 4 J J:) J Y.f.q52 J (by trivial)
 .ext e;show nf (k:=15) (Y.f.k.at 5 J J:) J Y.f.q53 J (by trivial)
 .ext e;show nf (k:=15) (Y.f.k.at 6 J J:) J Y.f.q54 J (by trivial)
 .ext e;show nf (k:=15) (Y.f.k.at 7 J J:) J Y.f.q55 J (by trivial)
 .ext e;show nf (k:=15) (Y.f.k.at 8 J J:) J Y.f.q56 J (by trivial)
 .ext e;show nf (k:=15) (Y.f.k.at 15 J J:) J Y.f.q57 J (by trivial)
 .ext e]
#print "17 1 16;18 2 17;19 3 18" in instance:Mf B ϑ0 "holds" (vX ϑ1):=#v[λc h e=>by
 delta vX at e;split at e
 .ext e;show nf (k:=ϑ2) (Y.f.k.at 9 J J:) J Y.f.q58 J (by delta zB;trivial)
 .ext e;show nf (k:=ϑ2) (Y.f.k.at 10 J J:) J Y.f.q59 J (by delta y6;trivial)
 .show(Mf.p (B:=B) (g:=vX 0) c h e).mono J]
#print "cell_at gj 7 gw 1;draws tp 8 R' 2" in instance:Df B 1 "_law_ϑ0" (ϑ1 B.G yϑ2):=ϑ3 J (Y.f.q2.at ϑ4 J J:) J (by trivial)
#print "1 take vg 3 Gg;2 names B6 4 EX" in instance:Df B ϑ0 "_law_ϑ1" (π B.G ϑ2):=gM4 J (Y.f.q2.at ϑ3 J J:) J J (by delta ϑ4;trivial)
instance:Df B 2 "_law_others" (Mi B.G xU):=gL4 J (Y.f.q2.at 5 J J:) J (by delta A5;trivial)
#print "3 spec gj Dc gw 6;1 ways tp Dd R' 7;15 world gj B7 gw 8;1 of tp wV R' 9" in instance:Df B ϑ0 "_law_ϑ1" (ϑ2 B.G ϑ3):=ϑ4 J (Y.f.q2.at ϑ5 J J:) J (by trivial)
#print "2 mosts gj yu w 10 B8;2 places Mi xw L4 11 A6;3 marks Mi yw L4 12 B9" in instance:Df B ϑ0 "_law_ϑ1" (ϑ2 B.G ϑ3):=gϑ4 J (Y.f.q2.at ϑ5 J J:) J (by delta ϑ6;trivial)
instance:Df B 1 "_law_stand" (gj B.G y9):=gw J (Y.f.q2.at 13 J J:) J (by trivial)
instance:Df B 2 "_law_command" (Mi B.G yk):=gL4 J (Y.f.q2.at 14 J J:) J (by delta za;trivial)
instance:Df B 1 "_law_form" (gj B.G De):=gw J (Y.f.q2.at 15 J J:) J (by trivial)
#print "2 term ym 16 AN;2 place zV 17 Ca;3 marked yE 18 zt" in instance:Df B ϑ0 "_law_ϑ1" (Mi B.G ϑ2):=gL4 J (Y.f.q2.at ϑ3 J J:) J (by delta ϑ4;trivial)
instance:Dj B 1 "_law_asked" 2 (vU 0):=#v[gJ5 (k:=0) J #[] (Y.f.q2.at 19 J J:) J (by trivial)]
#print "4 1 3;5 2 4;6 3 5;7 4 6" in instance:Dj B ϑ0 "_law_asked" 2 (vU ϑ1):=#v[gJ5 (k:=ϑ2) J #[] (Y.f.q2.at 19 J J:) J (by delta w9;trivial)]
instance:Df B 1 "_law_test" (gj B.G (xq 0)):=gw (k:=0) J (Y.f.q2.at 20 J J:) J (by trivial)
#print "3 1 2;4 2 3;5 3 4;6 4 5" in instance:Df B ϑ0 "_law_test" (gj B.G (xq ϑ1)):=gw (k:=ϑ2) J (Y.f.q2.at 20 J J:) J (by delta zC;trivial)
#print "1 given zW 21;2 has_ring xS 22;3 mixed yx 23" in instance:Df B ϑ0 "_law_ϑ1" (gj B.G ϑ2):=gw J (Y.f.q2.at ϑ3 J J:) J (by trivial)
def U3:Xn B (D' (top 165)) "law" (top 165) (wa (top 165)) 19 T2:=by
 delta T2;refine Tg ?_ ?_
 all_goals trivial
end
end K24x
namespace K24x
open PySem L2 L3 L4
def Px(K:ay):Sp:=λd H Q z=>∃(a:Addr) (b:List Int),d=[.ref a]/\f? K H a (b.map V.int)/\b.length<=63/\∀c,Q (.bl γ) c
theorem JJ{G:Bg}{H:Hp}:∀a:List Int,a9 G H (a.map D.int) (a.map V.int)
 |[]=>vO
 |n::a=>vM (xW n) (JJ a)
def X0{G:Bg}:∀c H Q E,Px G.K c H Q E->gj G YE c H Q E:=λc H Q E h=>by let#v[a,b,rfl,i,f,k]:=h;calc#v[H,[.O (b.map D.int)],.bl γ,vw.refl _,vM (by delta L4.c3;show#v[a,_,J,i,JJ b]) vO,acV b f,λv e d z z z z r=>?_];delta L4.c3 at r;subst r;show k d
section
variable{K:ay}{x m q:Str}{st:Stmt}{f C:Addr}{oc:aa}{od:Option Addr}{kV doc pm:aa}{an:Option Addr}{cdv ct:aa}{osl:Array (Option aa)}
def U4(lk:K.lookup f=U #v[oc,od,.func (fH x q (yT st) (wa st) (vH st) .none kV doc pm an cdv ct),osl])(b:iC K cdv q=γ)(c:eM K (.ref f)=γ):∃a,S2 K x q st f a:=#v[_,#v[_,_,_,_,_,_,_,_,_,J,lk,b],c]
def gd_mk(h:jF K bR x=U (U (.ref f)))(lk:K.lookup f=U #v[oc,od,.func (fH x x (yT st) (wa st) (vH st) .none kV doc pm an cdv ct),osl])(a:iC K cdv x=γ)(b:eM K (.ref f)=γ):GD K x st:=#v[f,(U4 lk a b).imp λz F=>#v[h,F]]
def gm_mk(h:c9 K (.ref C) m=U (U (.ref f)))(b:k5 K (.ref f)=γ)(lk:K.lookup f=U #v[oc,od,.func (fH m q (yT st) (wa st) (vH st) .none kV doc pm an cdv ct),osl])(a:iC K cdv q=γ)(c:eM K (.ref f)=γ):GM K C m q st:=#v[f,(U4 lk a c).imp λz F=>#v[h,b,F]]
end
theorem all_mk{l:iF}{w:aR}{K:ay}{h:Heap}{p:Str->Option aa}{M:Addr}(X:K.In h)(I:h.Ns bR p)(hfa:p "law" = U (.ref M)){q r t u x y z A C E b d i j m o:Addr}(F:Fx K q r t u x y z A C E b d i j m o):
  ∃H:cy,(∀(s:aq) (v:aa),iI s H #v[[v],[]] [("_law_script", v)])/\∀a7:Heap,K.In a7->a7.Ns bR p->yS l.prog w K p a7 yy 20 M H ["_law_script"] (Px K):=by
 have ma:∃B:Bg,B.K=K/\B.ca 0=q/\B.ca 1=r/\B.ca 2=t/\B.ca 3=u/\B.ca 4=x/\B.ca 5=y/\B.ca 6=z/\B.ca 7=A/\B.ca 8=C/\B.ca 9=E/\B.ca 10=b/\B.ca 11=d/\B.ca 12=i/\B.ca 13=j/\B.ca 14=m/\B.ca 15=o/\B.hs=tupleKeyHash (vB l.prog w):=#v[#v[K,λc=>[q,r,t,u,x,y,z,A,C,E,b,d,i,j,m,o].getD c 0,_],J,J,J,J,J,J,J,J,J,J,J,J,J,J,J,J,J,J];let#v[B,rfl,rfl,rfl,rfl,rfl,rfl,rfl,rfl,rfl,rfl,rfl,rfl,rfl,rfl,rfl,rfl,rfl,P]:=ma;have O:∀a7,Yx #v[l.prog,w,p,a7,B]:=λa7=>#v[#v[h,X,I],P,F];let#v[f,H,a,FF]:=F.q2.at 24 J J;have e:=hfa.symm.t (kZ X I a);ext e;let#v[T,W,kV,doc,Y,Q,cdv,R,osl,rfl,lk,hcd]:=FF.ex;show#v[_,λs v=>.of_eq J,λa7 _ _=>(Sh J J J FF (r? (N:=D' (top 165)) (ps:=["_law_script"]) (np:=1) (n:=14) (by kernel_rfl)).1 ((@U3 _ (O a7)).ok J _)).imp (X0 (G:=B))]
def walk{l:iF}{q:bj}{loose:aD}{XP:(Str->Option aa)->Heap->Prop}{YP:aR->Heap->Prop}{d:DefRec}{K:Params->ay}(j:l.most=U 63)(hdf:d.params.defaults=[])
  (hY:∀(w:aR) (h:Heap),YP w h->(K w.params).In h)
  (F:∀(w:aR) (b:Str->Option aa) (c:Addr) (h:Heap),(K w.params).In h->h.Ns bR b->b d.name=U (.ref c)->
   ∃e:cy,(∀(s:aq) (u:aa),iI s e #v[[u],[]] [("_law_script", u)])/\∀a7:Heap,(K w.params).In a7->a7.Ns bR b->yS l.prog w (K w.params) b a7 yy 20 c e ["_law_script"] (Px (K w.params))):
  W.WalkO q loose XP YP l.row.toRowW d [] (λf o=>nV f o):=
 L2.Vx (n:=63) (k:=20) (x:="_law_script") (CX:=λv=>yy) (sp:=λw=>Px (K w.params)) j #[] hdf #v[J,by decide,by decide] hY F (λv v a m i v hS=>#v[a,m,J,hS,i,λv=>J]) λv v v v v z=>z
end K24x
end
set_option maxRecDepth 100000
set_option maxHeartbeats 0
open PySem PySem.W PyProof.Rows
set_option h true
theorem PySem.Challenge.cw_tellworld_k24_whole_tests_hang_on_their_holds : PySem.Challenge.rw_tellworld_k24_whole_tests_hang_on_their.Holds := by
 refine hd ?_
 k_fill
 refine K24x.walk (l:=PySem.Challenge.rw_tellworld_k24_whole_tests_hang_on_their) rfl rfl (λw h Y=>Y) ?F
 case F=>
  intro w mg fa h KX G hmg;refine' K24x.all_mk KX G hmg ?Q
  case Q=>
   constructor
   all_goals repeat' first|exact L4.Al.nil|apply L4.Al.cons
   all_goals as_aux_lemma=>first
   |k_is
   |kernel_rfl
   |exact⟨⟨⟨by k_is,by k_is,by k_is,by k_is⟩,by k_is,by k_is,by k_is,by k_is⟩,by k_is,by k_is,by kernel_rfl⟩
   |exact⟨_,by k_is⟩
   |exact K24x.gd_mk (by k_is) (by k_is) (by k_is) (by k_is)
   |exact K24x.gm_mk (by k_is) (by k_is) (by k_is) (by k_is) (by k_is)
   |exact⟨_,_,_,_,by k_is,by k_is,by rfl,by rfl,by simp,by repeat' first|exact .nil|exact .cons rfl .nil|refine .cons rfl ?_⟩
   |exact⟨_,_,_,_,[_],_,by k_is,by k_is,⟨⟨_,_,_,_,_,_,_,_,_,rfl,by k_is,by k_is⟩,by k_is⟩,by k_is,by rfl,.cons (by first|rfl|exact⟨_,rfl⟩) .nil⟩
   |exact⟨_,_,_,_,[_,_,_],_,by k_is,by k_is,⟨⟨_,_,_,_,_,_,_,_,_,rfl,by k_is,by k_is⟩,by k_is⟩,by k_is,by rfl,.cons (by first|rfl|exact⟨_,rfl⟩) (.cons (by first|rfl|exact⟨_,rfl⟩) (.cons (by first|rfl|exact⟨_,rfl⟩) .nil))⟩
end
