import PyProof.Rows.All
import Open.Pieces
import OpenK.KLine
import PySem.Challenge.RW_tellworld_k91_whole_one_place_and_no_rin
import Wide.All
import OpenK.AllK
import Wide.FinOn
import PyProof.EqAt
import PyProof.EqKinds
import PyProof.TupleCall
import PyProof.StrWalks
import PyProof.ConsumeWalk
import PyProof.NeKinds
import PyProof.Rows.SetFrom
import KE.KIsAll
import PyProof.WalksMore
import PyProof.TupleKey
import PyProof.DictWalks
import PyProof.Rows.ZipGen
import KE.KDictLaws
import PyProof.DictItems
import KE.KSortTup
import PyProof.TupleOfSeq
import PyProof.Rows.SortStr
import PyProof.Rows.StrInSeq3
import PyProof.TupleIter
import KE.KDictOf
import PyProof.CollectWalk
import PyProof.Rows.SeqMore
set_option genSizeOf false
local macro_rules (kind:=Lean.Parser.Command.declaration)|s=>do
 if s.getPos?.isNone||s[1][1][0].getId.getRoot== `PySem then Lean.Macro.throwUnsupported
 let s:=s.rewriteBottomUp (·.setInfo .none)
 if s[1].getKind∈[``Lean.Parser.Command.definition,``Lean.Parser.Command.abbrev,``Lean.Parser.Command.instance]&&s[0][4].isNone then
  return s.setArg 0 (s[0].setArg 4 (Lean.mkNullNode #[Lean.Syntax.node .none ``Lean.Parser.Command.noncomputable #[Lean.mkAtom "noncomputable"]]))
 return s
noncomputable section
open Option renaming some->Z,none->J
open Bool renaming true->γ,false->δ
def O{α:Sort _}{a:α}:a=a:=rfl
open List renaming length_map->aq,getElem?_eq_getElem->bg,mem_cons_of_mem->aU,length_append->aM,mem_map->ay,mem_cons_self->aR,mem_singleton->aY,length_cons->aT,all_eq_true->bc,map_cons->aN,mem_cons->aQ,mem_filter->aZ,mem_append->ba,mem_append_right->bE,size_toArray->bB,getElem?_map->bC,mem_append_left->bO,getElem?_eq_some_iff->ck,map_map->br,getD_eq_getElem?_getD->cF,mem_map_of_mem->bT,map_append->bK,range->bu,append_nil->bQ,mem_of_getElem?->cG,length_filter_le->cK,getElem?_set->cn,append_assoc->cp,nodup_append->cq,length_singleton->cW,length_replicate->c6,not_mem_nil->cw,length_range->cN,nil_append->cz,mem_range->cu,length_take->cO,getElem?_append_right->fw,getElem?_append_left->fz,nodup_cons->dg,getElem?_drop->eI,zip_cons_cons->eJ,mem_flatMap->d8,zipWith_cons_cons->f9,find?_cons->d9,getElem?_eq_none->gf,lookup_cons->eM,flatMap_cons->fG,length_pos_iff->gj,lookup->du,getElem_mem->fH,filter_cons->fI,length_nil->fL,length_set->fM,zip_map'->eV,mergeSort_perm->ic,getElem?_replicate->iV,pairwise_mergeSort->iW,getElem?_set_self->iY,mem_filterMap->ie,zipWith->eW,all_cons->fO,any_cons->fP,length->eZ,map_id->fg,map_nil->fR,any_eq_true->ip,drop_eq_getElem_cons->j3,filterMap_cons->i4,length_zipWith->i5,filter_sublist->i6,length_zip->ir,length_eq_zero_iff->j5,filter_cons_of_pos->j6,length_pos_of_mem->j7,getElem?_toArray->j9,length_drop->jh,getElem?_set_ne->kj,mem_iff_getElem->kl,mem_of_mem_take->kn,of_mem_zip->jj,getElem_of_mem->ko,filter_eq_self->kq,map_congr_left->ku,replicate->jm,ext_getElem?->kC,take_sublist->kE,length_erase_of_mem->mX,getElem_inj->kH,filter_cons_of_neg->m6,cons_append->kM,drop_eq_nil_of_le->m8,take_of_length_le->m9,filter_eq_nil_iff->nh,forIn_cons->kP,zip_append->kQ,foldl_cons->kR,getElem?_zipWith->nr,contains_iff_mem->nu,nodup_nil->kY,mem_of_mem_drop->nH,mem_erase_of_ne->nI,length_eraseIdx->nJ,getElem?_range->nS,map_drop->lC,map_take->lD,contains_cons->nY,map_filterMap->n6,filter_append->n8,any_eq_false->oa,take_add_one->om,foldl_append->oo,map->iE,pairwise_map->ou,zipIdx_cons->oV,zipIdx_nil->o9,forIn_nil->pB,drop_nil->pM,all_map->pV,rec->ql
open PySem renaming wpAny_bind->ag,Value->ae,wpAny_pure->au,Shared->af,wpAny->ah,mainGlobals->aX,starEach->aG,sizeLine->aL,Program->aO,Around->aP,compareOp->bD,World->aF,sizeLine_eq->bR,wpAny_setState_of->dc,wpAny_holding->cA,Spec->sY,wpAny_truthy_bool->dm,wpAny_Call_Name_kw->dG,wpAny_mono->bZ,wpAny_call_entry->d7,wpAny_pyIter_list->eK,wpAny_newObj_type->eL,SetTable->bU,strKind->dO,wpAny_seqItems->ee,backTo->bJ,assignEach->cZ,FuncData->cv,bootBuiltins->dP,plainId_quiet->eA,wpAny_setField->eS,wpAny_passesOwn->fK,codeAny->cf,keywordEach->dS,sysModules->dw,attributeBase->eU,mem_of_lookup->ib,wpAny_callSpecial?_slot->iU,binaryOp->cQ,IsPair->bV,codeAny_builtin->gm,letOwnedTupleGo->gn,behindInMarks->fN,swapsWith->dB,foldedSetIterable->ig,ofAClassStatement->ik,carriedByValue->gp,Builtin->cU,wpAny_specialOf->iq,wpAny_rule->fi,wpAny_setField_rec->i7,tupleKind_room_in1->i9,wpAny_field->fS,codeAny_mono->gv,NameKind->dW,call_meetsIn->gw,wpAny_Call_method->jc,wpAny_execs_nil->ji,wpAny_pyIter_tuple->kx,wpAny_pyHash_tuple->kB,isSubtype_type->jo,wpAny_storeSet_of->kG,IsZip->cH,Paired->fV,filterMap_getElem?_range->mY,GenState->fW,wpAny_forIn_list->kI,wpAny_askSetting->kJ,wpAny_isInstance->kK,Keyword->fj,Scope->c5,wpAny_updateSeq->kT,wpAny_isTrue_Compare1->ni,wpAny_eqIsQuiet_tuple->nq,builtinLookup_eq_fast->nv,codeAny_call_builtin->nF,wpAny_newTuple->kZ,ZipApart->gE,wpAny_updateSeq_pair->nG,typeIs_none->jt,wpAny_newList->lu,wpAny_onRaise->ly,wpAny_attempt->lA,wpAny_call->jv,Within->lF,BindsTo->gG,slot_list_getitem->oh,wpAny_typeOf->lQ,wpAny_pyIter_slot->oE,fits_of_scanBound->oF,wpAny_setEpoch_of->oG,wpAny_pyHash_str->oJ,wpAny_execs_cons->oK,PassesOwn->jx,Result->fY,noFill_tuple_add->oN,wpAny_pyIter_zip->oX,wpAny_of_eq->lY,codeAny_of_tree->oZ,typeLookup_type->pb,wpAny_Name->l3,PlainAttrs->l5,call_meets->l6,meets_dict_get->ph,call->l7,wpAny_runValue->pj,boot_len->pq,isSubtype_stop->pC,entryFor_alias->pD,KeyKind->pE,intBits_le_64->pF,seq_tuple_add->pG,evalPart_none->pH,call_list_seq->pI,wpAny_standAt->pJ,wpAny_handled->pN,signature?_of->pP,Moved->gM,WalksS->jE
open PySem.Heap renaming get?_push_of_some->aC,get?_push_size->bq,lt_size->aK,size_push->b9,get?_update_self->eG,SameBut->dt,get?_update_other->hU,ExtBut->qe
open Bool renaming and_eq_true->aW,false_ne_true->bA,not_eq_true'->d6,eq_iff_iff->dM,false_eq_true->fC,or_eq_true->jk,and_false->kX,or_eq_false_iff->nE,eq_false_iff->oq,rec->mf
open Nat renaming ne_of_lt->aV,le_refl->aS,lt_of_lt_of_le->bY,le_trans->bM,le_add_right->de,lt_succ_of_lt->dj,zero_le->cc,lt_succ_self->dq,lt_irrefl->dN,ne_of_gt->dQ,lt_of_le_of_lt->ja,le_of_lt->gu,ble_eq->fT,min_self->ix,le_succ->iB,le_of_ble_eq_true->nz,ble->fX,add_right_comm->nU,zero_add->lE,le_of_succ_le->oI,le_of_not_lt->oQ,beq->iF,le_of_eq->pS,pow_succ->pT,sub_self->pU,mod_lt->qh
open PySem.W renaming Frag->av,kia_one->cP,emptyDict->dR,findIn->cR,kitOne->dh,instObj->eB,keepIn->dU,kitx_list->iA,kitx_dict->js,fnOf->eD,codeIn->gA,OpenLaw->gB,plainGet_of->lh,callWith_K0->lj,plainGet->ju,kitx_tuple->lG,callWith_K->lM,cellsFrom_some->oM,methodObj->lW,hasDictIn->lX,methodCall_KW->oY,mg_of->iH,lookIn->jz,looks_findIn->pf,kas_sort->jA,nsIn->gH,makes_of->l8,takerIn->l9,makesIn->ma,kas_ask->jC,plainOver->p5,make_core->p6,specialIn->p8,kitx_none->p9,kitx_bool->qa,isFn->jD
open Array renaming length_toList->cM,getElem?_toList->j8,perm_iff_toList_perm->mT,size_eq_one_iff->ny,forIn_toList->nZ,toList_push->oA,toList->pQ,map->qk
open Option.some renaming inj->cy,injEq->sQ
open PySem.Heap.SameBut renaming update->c7
open PyProof.Rows.F renaming plain_set_update_loop->eF,entry_set_update_loop->m5
open PySem.Builtin.SmallTypes renaming nextOf->fA,ownedTupleHandOut->mJ,ownedTupleIsFree->mK
open PySem.Obj renaming data_mapFields->dH,isFreed_of_fields->hX,mapSeq->dA,mapFields->fQ,cls_mapFields->jf,putSet->gz
open PySem.SetTable renaming below->cX,insertAt->fF,grown->eQ,Probe->iw,has->iy,fresh->jn,bits->jr,runEnd->kU,fill->ll,put->lS,gaveWay->oT,tooFull->oU,slot->pK,fits->pL
open PySem.SetTable.probe renaming go->dJ
open PySem.Calls renaming spliced_cons->dZ,spliced_nil->fD,callWith_builtin->hJ,evalArgs_plain->ia,Name_function_global->mR,call_function_entry->mU
open Int renaming toNat_natCast->d5,eq_ofNat_of_zero_le->iX,fdiv_eq_ediv_of_nonneg->mS,le_refl->iC
open Prod renaming snd->bS,fst->jB
open PySem.Builtin.List renaming listTooLong->hG,listExtendWith->mM,listLengthHint->mO,listSameRef->mZ
open PySem.SetTable.below renaming go->fE
open False renaming elim->cY
open PySem.F renaming slot_dict_get->eO,called_set->eX,sub_list_frozenset->iZ,slot_NoneType_hash->i3,entry_dict_get->il,slot_list_extend->i8,plainAttrs_dict->je,plainAttrs_list->jg,slot_zip_next->jl,slot_tuple_iterator_next->mQ,slot_list_append->kz,sub_list_set->jq,args_dict_get_2->kF,slot_dict_setdefault->ng,type_dict_get->kO,args_list_extend_2->nD,entry_list_extend->nQ,args_tuple_add_2->nX,type_list_append->n4,type_list_extend->n5,entry_tuple_add->og,args_dict_get_3->oj,args_zip_next_1->ox,plain_list_iadd->oH,slot_tuple_add->oO,entry_zip_next->oW,plain_set_new->o6,slot_set_iter->pd
open Option renaming map_some->fJ,getD_none->oP,getD_some->oR
open PySem.Around renaming under_plainId->hZ,under->lI
open PySem.Value renaming isStrOf->gq,isInt->pZ
open List.Perm renaming eq_of_pairwise->j4,refl->px
open PySem.Str renaming ofString->gr
open PySem.Builtin renaming bitAnd->iu
open Ne renaming symm->dD
open PySem.Moved renaming trans->gx
open PyProof.Rows renaming StrsAre->km,AllBare->eC,subscriptTail_builtinR->m7,boot_isinstance->kW,listUpdate_at->lq,seqEpoch_at->lZ,get?_update_seq->o7,entry_list_sort->o8,IntsAre->iG,Subscript_->l4,slot_list_sort->pz,args_list_sort->pA,IsTup->gL,lt_str->sJ
open PySem.SeqAt.EqAt renaming str_str->ky,of_refs->kA,same->kN,none_int->nL,none_str->nM,int_none->nN,str_none->nO,int_str->nV,str_int->nW,tuple_none->rT,tuple_bool->rV,tuple_list->rW,list_tuple->rX,none_tuple->rY,bool_tuple->rZ,none_bool->r9,bool_none->sd,bool_bool->se,tuple_int->sf,tuple_str->sg,list_none->sj,list_bool->sk,none_list->sm,bool_list->sq,int_tuple->sr,str_tuple->su,bool_int->sv,bool_str->sy,int_bool->sA,str_bool->sC,list_int->sE,list_str->sF,int_list->sG,str_list->sH,int_int->sM
open PySem.Walks renaming list->gy
open Classical renaming byContradiction->mV
open Sum.inr renaming inj->iz
open PySem.AutoSeq1 renaming wpAny_loadPart'->mW
open PySem.Paired renaming length->lg,snoc->qc
open PySem.Shared renaming TypeIs->lp,heap->qf
open PySem.SeqAt renaming EqAt->jw
open PySem.Code renaming isFrame->lK,frames->qb
open Nat.succ renaming inj->lT
open LawfulBEq renaming eq_of_beq->jy
open PySem.Builtin.Frozenset renaming updateFrom->qX,newClass->qZ,sizeOf->rQ,slot0->rS
open PySem.PassesOwn renaming never->pe
open PySem.SeqAt.RcNeAt renaming lists_lengths->qY,tuples->sI,lists->sN
open PySem.EqNone renaming eq_none_none->q8,eq_none_bool->q9,eq_bool_none->ra,ne_none_none->rj,ne_none_bool->rl,ne_bool_none->ro,eq_none_int->rA,eq_none_str->rD,eq_int_none->rE,eq_str_none->rG,ne_none_int->rJ,ne_none_str->rK,ne_int_none->rL,ne_str_none->rN
open PySem.EqMixed renaming eq_bool_str->rb,eq_str_bool->rg,ne_bool_str->rp,ne_str_bool->rq,eq_int_str->rF,eq_str_int->rH,ne_int_str->rM,ne_str_int->rO
open PySem.SeqAt.RcAt renaming lists_lengths->rP,tuples->sR,lists->sT
open PySem.Pv renaming boot_tuple->pO,boot_list->pW,boot_set->qd
open PySem.Builtin.Range renaming rangeSize->rR
open PySem.pickOrder renaming go->pX
open Prod.mk renaming inj->pY
open PySem.Heap.IsSliceOf renaming new->sL
open PySem.W.WShape renaming has->qg
open List.Sublist renaming nodup->sO,refl->sS,map->sV
open PySem.Within renaming cons->sP
open PyProof.Rows.IsTup renaming new->qj
open PySem.Heap.IsList renaming push->sU
open PySem.Heap.DictOf renaming new->sW
def ak:=@if_neg
def ao:=@if_pos
def bj:=@decide_eq_false
def ar:=@absurd
def bh:=@decide_eq_true
def bF:=@of_decide_eq_true
def b8:=@decide_eq_true_eq
def bL:=@congrArg
abbrev cJ:=List (PySem.Addr×PySem.Obj)
abbrev aH:=List PySem.Str
set_option compiler.extract_closed false
set_option hygiene false
local macro_rules
|`(tactic|sleep 1)=>`(tactic|(
 show ah _ _ (field (.ref z) 2>>=_) _ _ s;refine ag (fS hz O (x:=.bool δ) O ?_);show ah _ _ (field (.ref z) 3>>=_) _ _ s;refine ag (fS hz O (x:=.ref TI) O (ag (ee hTI O ?_)));show ah _ _ (mK (.ref z)>>=_) _ _ s;refine ag ?_;unfold mK;refine ag (fS hz O (x:=.none) O (au ?_));simp only[if_true];refine ag (fi (ag (fS hz O (x:=.ref TO) O (ag (i7 hz (by simp) λga za ka=>?_)))))))
|`(tactic|sleep 2)=>`(tactic|(
 refine ag (iU (name:=gr "__next__") hj.typeIs mQ (d7 mQ hj.typeIs F.entry_tuple_iterator_next ?_ (F.args_tuple_iterator_next_1 _)));show ah _ _ (field (.ref j) 0>>=_) _ _ _;refine ag (fS h0 hd (x:=.ref t) O ?_);show ah _ _ (if (Value.ref t==Value.none)=γ then _ else _) _ _ _;rw[ak (show ¬((Value.ref t==.none)=γ) from bA)];show ah _ _ (field (.ref j) 1>>=_) _ _ _))
|`(tactic|sleep 3)=>`(tactic|(
 refine gm m5 ?_;rw[hZ eF _];show ah _ A.in1 (pyNext (.ref I)>>=_) _ _ s;refine ag (W.item 0 s _ _ (by decide) hst λv s1 hP st1 m1=>?_);obtain rfl:=p1 v hP;show ah _ A.in1 (holding _ (setAdd S _)>>=_) _ _ s1;refine ag (cA ?_);unfold setAdd;refine cA ?_))
|`(tactic|sleep 4)=>`(tactic|(
 unfold Reps at rs;obtain⟨v,r0,rfl,rv,rn⟩:=rs;unfold Reps at rn;subst rn))
|`(tactic|sleep 5)=>`(tactic|(
 have it:∀{o:Obj} {led:Bool},o.isFreed=δ->((s.heap.push (zu led)).push o).get? (s.heap.objs.size+1)=Z o:=λ{o led} z=>by rw[show s.heap.objs.size+1=(s.heap.push (zu led)).objs.size from(b9 _ _).symm];exact bq _ z
 obtain⟨its,r,pp,_⟩:=I.list hq;obtain⟨o,ho,hc,n,hd⟩:=pp.isList;have hne:a≠s.heap.objs.size+1:=aV (dj (aK ho))))
|`(tactic|sleep 6)=>`(tactic|(
 cases e;refine⟨F,ρ,H0,_,_,R,e1,λv H1 H1' s R' r=>?_⟩;unfold Rep at r))
|`(tactic|sleep 7)=>`(tactic|(
 unfold Rep at hy;obtain⟨b,ys,rfl,hq',hr'⟩:=hy;cases rv))
|`(tactic|sleep 8)=>`(tactic|(
 intro X hP hw hK hc i pins s σ H E I hf st hg;subst hP hw hK))
|`(tactic|sleep 9)=>`(tactic|(obtain⟨F,ρ,H0,d,ρ',R,e,k⟩:=hh))
|`(tactic|sleep 10)=>`(tactic|(refine gm m5 ?_;rw[hZ eF _]))
|`(tactic|sleep 11)=>`(tactic|(intro pins s σ H Q I h))
set_option Elab.async false
set_option linter.all false
namespace L5
open PySem PySem.W
noncomputable def pick(l:List Obj):Nat->List Addr->List Obj:=
 @ql Obj (λ_=>Nat->List Addr->List Obj) (λ_ _=>[])
  (λo _ ih i as=>@ql Addr (λ_=>List Obj) [] (λa r _=>@mf (λ_=>List Obj) (ih (Nat.succ i) as) (o::ih (Nat.succ i) r) (iF a i)) as) l
def QD(i:Nat)(as:List Addr):pick [] i as=[]:=rfl
def Uh(o:Obj)(l:List Obj)(i:Nat)(r:List Addr):pick (o::l) i (i::r)=o::pick l (i+1) r:=by show @mf (λ_=>List Obj) _ _ (iF i i)=_;rw[Nat.beq_refl];rfl
def Ui(o:Obj)(l:List Obj)(i a:Nat)(r:List Addr)(h:a≠i):pick (o::l) i (a::r)=pick l (i+1) (a::r):=by
 show @mf (λ_=>List Obj) _ _ (iF a i)=_;have:iF a i=δ:=by
  cases q:iF a i with
  |false=>rfl
  |true=>exact ar (Nat.eq_of_beq_eq_true q) h
 rw[this];rfl
theorem Kg:∀(l:List Obj) (i:Nat) (as:List Addr),(pick l i as).length=as.length->∀j (hj:j<as.length),∃b,as[j]=i+b/\l[b]?=(pick l i as)[j]?
 |[],i,as,h,j,hj=>by rw[QD]at h;simp at h;omega
 |o::l,i,[],h,j,hj=>by simp at hj
 |o::l,i,a::r,h,j,hj=>by
  by_cases q:a=i
  .subst q;rw[Uh]at h ⊢;cases j with
   |zero=>exact⟨0,O,O⟩
   |succ j=>obtain⟨b,e1,e2⟩:=Kg l (a+1) r (by simpa using h) j (by simpa using hj);exact⟨b+1,by rw[List.getElem_cons_succ,e1];exact nU a 1 b,by simpa using e2⟩
  .rw[Ui _ _ _ _ _ q]at h ⊢;obtain⟨b,e1,e2⟩:=Kg l (i+1) (a::r) h j hj;exact⟨b+1,by rw[e1];exact nU i 1 b,by simpa using e2⟩
def live(o:Obj):Bool:=match o with|⟨_,_,.freed,_⟩=>δ|_=>γ
def Uj{h:Heap}{as:List Addr}{K:Frag}(e:as=K.map (·.1))(x:(pick h.objs.toList 0 as,K.all λp=>live p.2)=(K.map (·.2),γ)):K.In h:=by
 obtain⟨x1,x2⟩:=pY x;refine Frag.in_of e (kC λj=>?_);rw[bC,bC];by_cases hj:j<as.length
 .have hl:(pick h.objs.toList 0 as).length=as.length:=by rw[x1,e,aq,aq]
  obtain⟨b,e1,e2⟩:=Kg _ _ _ hl j hj;have hk:j<K.length:=by rw[e,aq]at hj;exact hj
  rw[bg hj,bg hk,fJ,fJ,e1,lE];have e3:h.objs[b]?=Z (K[j].2):=by rw[<-j8,e2,x1,bC,bg hk];rfl
  have lv:live K[j].2=γ:=bc.mp x2 _ (fH hk);refine bL Z ?_;unfold Heap.get?;rw[e3];revert lv;cases K[j].2 with
  |mk c d data sl=>cases data<;>intro lv<;>first|rfl|cases lv
 .rw[gf (by omega),gf (by rw[e,aq]at hj;omega)];rfl
noncomputable def aaZ(K:Params->Frag) (as:List Addr) (e:∀P,as=(K P).map (·.1)):Hook:=
 ⟨List Obj×Bool,λs=>(pick s.heap.objs.toList 0 as,γ),λw=>((K w.params).map (·.2),(K w.params).all λp=>live p.2),InK K,λw s x=>Uj (e w.params) (by
  obtain⟨x1,x2⟩:=pY x;rw[x1,<- x2]),InK.keeps⟩
end L5
section
open PySem PySem.W PyProof.Rows
local macro_rules|`(tactic|o_head ($f:ident $k $as $e))=>`(tactic|o_head ((L5.aaZ $k $as (fun _=>by kernel_rfl)):W.Hook))
local macro_rules|`(command|#where)=>do
 let mut r:=#[]
 for n in [43:1719] do
  let x:=Lean.mkIdent (.mkSimple s!"tw{((Lean.Name.mkSimple "hd").str s!"o_{n}").hash}")
  r:=r.push ((<-`(command|noncomputable def $x:ident:=0)).raw.rewriteBottomUp (·.setInfo .none))
 return Lean.mkNullNode r
noncomputable section
namespace PySem.W.Fast
def tw5142911372425337768:=0
def tw986278823301348609:=0
def tw7509227932087631458:=0
def tw13406377419850843074:=0
def tw12153786506974362371:=0
def tw9867714693123648676:=0
def tw18111853076867884516:=0
def tw11610452036141022277:=0
def tw1765523129119087622:=0
def tw9849869762977856838:=0
def tw11434388955981004326:=0
def tw3494157933751787943:=0
def tw6265987150890485897:=0
def tw10374632558016547081:=0
def tw13241994064123699754:=0
def tw1499163950467449931:=0
def tw938635154573522699:=0
def tw17712571637424770508:=0
def tw8726500145642417389:=0
def tw16828129974981846989:=0
def tw3237361815906912622:=0
def tw7774113678449685934:=0
def tw1828242887104783695:=0
def tw17072552323307216689:=0
def tw861502493610598483:=0
def tw1765020489040221299:=0
def tw15813021780557525363:=0
def tw5243460052761132532:=0
def tw15482829446920323796:=0
def tw13845010673617018999:=0
def tw15069464655358999481:=0
def tw18093534095739291932:=0
def tw17499200519749734940:=0
def tw2146936875351578237:=0
def tw1186011676593774846:=0
def tw4921153656708216350:=0
def tw7351761721107533599:=0
def tw2142731249730873150:=0
def tw13038230264168806847:=0
def tw17604796021258186780:=0
def tw6869078856192417158:=0
def tw227868461261401545:=0
def tw4461559142613894602:=0
def tw13347621489011750686:=0
def tw10600539009673885342:=0
def tw8997383693586321770:=0
def tw2714383194993059839:=0
def tw11456407014558801769:=0
def tw13322777563574152365:=0
def tw7871255557477498301:=0
def tw15514331714962229615:=0
#where
end PySem.W.Fast
end
def zvp:=PySem.Challenge.pw_tellworld_k91_whole_one_place_and_no_rin
noncomputable def zvq:=PySem.W.view zvp [176]
local macro_rules|`(tactic|refine $t)=>do
 if t.raw[0].getId != ``PySem.W.holds_open||t.raw[1][0][3].getId.eraseMacroScopes== `zvq then Lean.Macro.throwUnsupported
 let n:=fun (i:Nat) (x:Lean.Term) (a:Array Lean.Syntax)=>a.set! i (a[i]!.setArg 3 x)
 `(tactic|refine $(Lean.TSyntax.mk (t.raw.setArg 1 (Lean.mkNullNode (n 0 (<-`(zvq)) (n 1 (<-`(zvp.boundNames)) (n 2 (<-`(fun s=>PySem.W.xlAt zvq [] s&&PySem.W.recOk [] s)) (n 3 (<-`(PySem.W.XL zvq [])) t.raw[1].getArgs))))))))
set_option maxRecDepth 100000 in
set_option maxHeartbeats 0 in
open_top hd for PySem.Challenge.rw_tellworld_k91_whole_one_place_and_no_rin
end
local macro_rules|`(tactic|erw[$a,*]$[$l]?)=>do
 let b:=a.getElems.map fun x=>(⟨x.raw[1]⟩:Lean.Term)
 `(tactic|simp only[$[$b:term],*]$[$l]?)
local macro_rules (kind:=Lean.Parser.Tactic.tacticLet__)|s=>do
 let d:=s[2][0]
 if d.getKind != ``Lean.Parser.Term.letPatDecl then Lean.Macro.throwUnsupported
 let n:=fun k=>Lean.Syntax.node .none (`Lean.Parser.Tactic++k)
 let z:=fun a=>Lean.mkNullNode a
 let m:=fun t=>n `rcasesPatMed #[z #[t]]
 let p:=d[0].rewriteBottomUp fun t=>
  if t.isIdent then n `rcasesPat.one #[t] else
  if t.getKind== ``Lean.Parser.Term.hole then n `rcasesPat.ignore #[t[0]] else
  if t[0].getAtomVal∈["⟨","#v["] then n `rcasesPat.tuple #[Lean.mkAtom "⟨",z (t[1].getArgs.map fun x=>if x.isAtom then x else n `rcasesPatLo #[m x,z #[]]),Lean.mkAtom "⟩"] else t
 return n `obtain #[Lean.mkAtom "obtain",z #[m p],z d[2][0].getArgs,z #[Lean.mkAtom ":=",z #[d[4]]]]
local macro_rules (kind:=Lean.Elab.Tactic.Ext.ext)|s=>do let x:Lean.Term:=⟨s[1][0][0][0]⟩;`(tactic|cases $x:term)
local macro_rules|`(tactic|calc $t:term)=>`(tactic|refine $t)
local macro_rules|`(tactic|show $t:term)=>`(tactic|exact $t)
local macro_rules|`(~~~$s)=>`(($s).heap.objs.size)
local macro_rules|`(())=>`(by omega)
local macro_rules|`(#[])=>`(by decide)
local macro_rules|`(tactic|exists $t)=>`(tactic|simpa using $t)
local macro_rules (kind:=Lean.Parser.Tactic.delta)|s=>return .node .none ``Lean.Parser.Tactic.unfold (s.getArgs.set! 0 (Lean.mkAtom "unfold"))
local macro_rules|`(command|#print $i:ident)=>if i.getId== `h then `(command|set_option tactic.hygienic true) else `(command|set_option tactic.hygienic false)
set_option maxRecDepth 100000
namespace L2
open PySem PySem.Spec PyProof.Rows
abbrev Key:=Sum Int Str
def GV:Key->ae->Bool
 |.inl k,v=>pZ k v
 |.inr x,v=>gq x v
def keyH(w:aF):Key->Int
 |.inl k=>hashInt k
 |.inr x=>hashStr w x
def uU:∀{k:Key} {v:ae},GV k v=γ->(∃i t,k=Sum.inl i/\v=Value.int i t)\/(∃x t,k=Sum.inr x/\v=Value.str x t)
 |.inl i,v,h=>by let#v[t,e]:=Value.isInt_shape (k:=i) (v:=v) h;show .inl ⟨i,t,O,e⟩
 |.inr x,v,h=>by let#v[t,e]:=Value.isStrOf_shape (x:=x) (v:=v) h;show .inr ⟨x,t,O,e⟩
def Pf(i:Int)(t:Tok):GV (.inl i) (.int i t)=γ:=by simp[GV,pZ]
def Pg(x:Str)(t:Tok):GV (.inr x) (.str x t)=γ:=by simp[GV,gq]
def W9(a b:Int):decide ((Sum.inl a:Key)=Sum.inl b)=(a==b):=by
 by_cases e:a=b
 .subst e;simp
 .have h:¬(Sum.inl a:Key)=Sum.inl b:=λq=>e (Sum.inl.inj q);rw[bj h];show(beq_eq_false_iff_ne.mpr e).symm
def Xa(a b:Str):decide ((Sum.inr a:Key)=Sum.inr b)=decide (a=b):=by
 by_cases e:a=b
 .subst e;simp
 .have h:¬(Sum.inr a:Key)=Sum.inr b:=λq=>e (iz q);rw[bj h,bj e]
def Xb(a:Int)(b:Str):decide ((Sum.inl a:Key)=Sum.inr b)=δ:=bj (λq=>nomatch q)
def Xc(a:Str)(b:Int):decide ((Sum.inr a:Key)=Sum.inl b)=δ:=bj (λq=>nomatch q)
def um(prog:aO)(w:aF):pE prog w Key where
 is:=GV
 hash:=keyH w
 inj:=λv a b ha hb=>by
  rcases uU ha with ⟨i,t,rfl,rfl⟩|⟨x,t,rfl,rfl⟩
  .rcases uU hb with ⟨j,u,rfl,e⟩|⟨y,u,rfl,e⟩
   .injection e with e1 _;rw[e1]
   .show nomatch e
  .rcases uU hb with ⟨j,u,rfl,e⟩|⟨y,u,rfl,e⟩
   .show nomatch e
   .injection e with e1 _;rw[e1]
 byValue:=λk v h=>by rcases uU h with ⟨i,t,rfl,rfl⟩|⟨x,t,rfl,rfl⟩<;>rfl
 pyHash:=λhv h=>by
  rcases uU hv with ⟨i,t,rfl,rfl⟩|⟨x,t,rfl,rfl⟩
  .show wpAny_pyHash_int h
  .show oJ h
 eqBool:=λhu hv h=>by
  rcases uU hu with ⟨i,t,rfl,rfl⟩|⟨x,t,rfl,rfl⟩
  .rcases uU hv with ⟨j,u,rfl,rfl⟩|⟨y,u,rfl,rfl⟩
   .rw[W9]at h;show wpAny_eqBool_int h
   .rw[Xb]at h;show nV i t y u _ _ _ _ h
  .rcases uU hv with ⟨j,u,rfl,rfl⟩|⟨y,u,rfl,rfl⟩
   .rw[Xc]at h;show nW x t j u _ _ _ _ h
   .rw[Xa]at h;show wpAny_eqBool_str h
 «strs»:=λk x t v h=>by
  rcases uU h with ⟨i,u,rfl,e⟩|⟨y,u,rfl,e⟩
  .show nomatch e
  .injection e with e1 _;subst e1;ext v<;>rfl
def Lg(prog:aO)(w:aF)(i:Int)(t:Tok):(um prog w).is (.inl i) (.int i t)=γ:=Pf i t
def Lh(prog:aO)(w:aF)(x:Str)(t:Tok):(um prog w).is (.inr x) (.str x t)=γ:=Pg x t
inductive V where
 |non|bl (b:Bool)|int (i:Int)|str (x:Str)|byt (b:Array UInt8)|flt (b:UInt64)|ref (a:Addr)|ty (n:String)
 deriving DecidableEq
abbrev bN:=List V
def RelV:V->ae->Prop
 |.non,u=>u=Value.none
 |.bl b,u=>u=Value.bool b
 |.int i,u=>∃t,u=Value.int i t
 |.str x,u=>∃t,u=Value.str x t
 |.byt b,u=>∃t,u=Value.bytes b t
 |.flt b,u=>∃t,u=Value.float b t
 |.ref a,u=>u=Value.ref a
 |.ty n,u=>u=Value.type n
abbrev Vals:bN->List ae->Prop:=fV RelV
theorem Vals.length(r:Vals xs us):xs.length=us.length:=lg r
theorem Vals.get:∀{xs:bN} {us:List ae} {i:Nat} {x:V},Vals xs us->xs[i]?=Z x->∃u,us[i]?=Z u/\RelV x u
 |_,_,_,_,.nil,e=>by simp at e
 |_,_,0,_,.cons r _,e=>by simp at e;subst e;show⟨_,O,r⟩
 |_,_,i+1,x,.cons _ t,e=>by let#v[u,h1,h2]:=Vals.get (i:=i) (x:=x) t (by exists e);show⟨u,by simpa using h1,h2⟩
theorem Vals.append:∀{xs ys:bN} {us ws:List ae},Vals xs us->Vals ys ws->Vals (xs++ys) (us++ws)
 |_,_,_,_,.nil,s=>s
 |_,_,_,_,.cons r t,s=>.cons r (Vals.append t s)
theorem Vals.take:∀{xs:bN} {us:List ae} (n:Nat),Vals xs us->Vals (xs.take n) (us.take n)
 |_,_,0,_=>.nil
 |_,_,_+1,.nil=>.nil
 |_,_,n+1,.cons r t=>.cons r (Vals.take n t)
theorem Vals.drop:∀{xs:bN} {us:List ae} (n:Nat),Vals xs us->Vals (xs.drop n) (us.drop n)
 |_,_,0,r=>r
 |_,_,_+1,.nil=>.nil
 |_,_,n+1,.cons _ t=>Vals.drop n t
def BM:Option V->Option ae->Prop
 |some v,Z u=>RelV v u
 |none,J=>True
 |_,_=>False
def KV{κ:Type}:List (κ×V)->List (κ×ae)->Prop:=fV λ(p:κ×V) (q:κ×ae)=>p.1=q.1/\RelV p.2 q.2
def kV:Key->V
 |.inl i=>.int i
 |.inr x=>.str x
inductive HO where
 |lst (xs:bN)
 |tup (xs:bN)
 |dK (kvs:List (Key×V))|dT (kvs:List (List Key×V))
 |set (S:Int->Bool) (n:Nat)
 |ins (C dx:Addr) (fs:List (Str×V))
 |own (x:Addr)
 |xd (fs:List (Str×V))
 |met (f x:Addr)
 |rng (lo hi:Int)
 |frz (o:Obj) (u:HO)
 |tbl (ps:Array ae)
 |ext (φ:Heap->Prop)
abbrev Hp:=Addr->Option HO
def upd(H:Hp)(a:Addr)(o:HO):Hp:=λb=>if b=a then Z o else H b
def tU:upd H a o a=Z o:=by delta upd;rw[ao O]
def tT(h:b≠a):upd H a o b=H b:=by delta upd;rw[ak h]
def aa1{H:Hp}{a b:Addr}{o u:HO}(h:H a=Z o)(h':H b=Z u)(d:o≠u):a≠b:=by intro e;subst e;rw[h]at h';show d (cy h')
def wB{H:Hp}{a b:Addr}{o:HO}(h:H a=Z o)(h':H b=J):a≠b:=by intro e;subst e;rw[h]at h';ext h'
section
variable(P:aO)(w:aF)
def ObjOk(H:Hp)(h:Heap)(a:Addr):HO->Prop
 |.lst xs=>xs.length<=aL/\∃(its:List ae) (n:Nat),Vals xs its/\h.get? a=Z { cls:=.type "list", data:=.seq its.toArray n }
 |.tup xs=>xs.length<=aL/\∃its:List ae,Vals xs its/\gL h a its.toArray
 |.dK kvs=>kvs.length<=aL/\(a==dw)=δ/\∃vs,KV kvs vs/\h.DictOf (um P w) a vs
 |.dT kvs=>kvs.length<=aL/\(a==dw)=δ/\∃xs:List (List Key×Addr×ae),
   fV (λ(p:List Key×V) (q:List Key×Addr×ae)=>p.1=q.1/\H q.2.1=Z (.tup (p.1.map kV))/\RelV p.2 q.2.2) kvs xs/\
   ∃o es ep,h.get? a=Z o/\o.ExactDict/\o.data=.dict es ep/\es.toList=xs.map (entryOfKey (tupleKind (um P w)))/\(xs.map (·.1)).Nodup
 |.set S n=>h.SetOf (intKind P w) a S n
 |.ins C dx fs=>H dx=Z (.own a)/\fs.length<=1000/\dx≠a/\h.get? a=Z (eB C dx)/\
   ∃mA,h.Ns1 dx mA/\(∀f,BM (fs.lookup f) (mA f))/\lF mA (fs.map (·.1))
 |.own _=>∃o,h.get? a=Z o
 |.xd fs=>∃mA,h.Ns1 a mA/\∀f,BM (fs.lookup f) (mA f)
 |.rng lo hi=>∃t u v,h.get? a=Z { cls:=.type "range", data:=.fields #[.int lo t,.int hi u,.int 1 v] }
 |.frz o u=>h.get? a=Z o/\ObjOk H h a u
 |.tbl ps=>h.get? a=Z { cls:=.none,data:=.fields ps }
 |.met f x=>h.get? a=Z (lW (.ref f) (.ref x))
 |.ext φ=>φ h/\(∃o,h.get? a=Z o)/\∀h1 h2:Heap,φ h1->(∀o,h1.get? a=Z o->h2.get? a=Z o)->φ h2
def HOk(H:Hp)(h:Heap):Prop:=∀a o,H a=Z o->ObjOk P w H h a o
end
section
variable{P:aO}{w:aF}{H H':Hp}{h h':Heap}{a:Addr}{o:HO}
theorem ObjOk.lt(x:ObjOk P w H h a o):a<h.objs.size:=by
 cases o with
 |lst xs=>let#v[_,_,_,_,e]:=x;show aK e
 |tup xs=>let#v[_,_,_,p]:=x;show p.lt
 |dK kvs=>let#v[_,_,_,_,o,_,_,e,_]:=x;show aK e
 |dT kvs=>let#v[_,_,_,_,o,_,_,e,_]:=x;show aK e
 |set S n=>let#v[o,_,_,_,e,_]:=x;show aK e
 |ins C dx fs=>let#v[_,_,_,e,_]:=x;show aK e
 |own y=>let#v[_,e]:=x;show aK e
 |xd fs=>let#v[_,#v[_,_,_,e,_],_]:=x;show aK e
 |rng lo hi=>let#v[_,_,_,e]:=x;show aK e
 |frz ob u=>let#v[e,_]:=x;show aK e
 |tbl ps=>show aK (show h.get? a=Z _ from x)
 |met f y=>show aK (show h.get? a=Z _ from x)
 |ext φ=>let#v[_,#v[_,e],_]:=x;show aK e
theorem Paired.mapP{α β:Type}{F G:α->β->Prop}:∀{l₁:List α} {l₂:List β},fV F l₁ l₂->(∀a b,F a b->G a b)->fV G l₁ l₂
 |_,_,.nil,_=>.nil
 |_,_,.cons r t,f=>.cons (f _ _ r) (Paired.mapP t f)
def ObjOk.stay(x:ObjOk P w H h a o)(k:∀b u,(b=a\/H b=Z (.own a))->h.get? b=Z u->h'.get? b=Z u)
  (ho:∀b,H b=Z (.own a)->H' b=Z (.own a)) (ht:∀b xs,H b=Z (.tup xs)->H' b=Z (.tup xs)):ObjOk P w H' h' a o:=by
 induction o with
 |lst xs=>let#v[z,its,n,r,e]:=x;show⟨z,its,n,r,k _ _ (.inl O) e⟩
 |tup xs=>let#v[z,its,r,ob,e,c]:=x;show⟨z,its,r,ob,k _ _ (.inl O) e,c⟩
 |dK kvs=>let#v[z,y,vs,r,ob,es,ep,e,c]:=x;show⟨z,y,vs,r,ob,es,ep,k _ _ (.inl O) e,c⟩
 |dT kvs=>let#v[z,y,xs,r,ob,es,ep,e,c]:=x;show⟨z,y,xs,Paired.mapP r λp q z=>⟨z.1,ht _ _ z.2.1,z.2.2⟩,ob,es,ep,k _ _ (.inl O) e,c⟩
 |set S n=>let#v[ob,es,ep,t,e,c]:=x;show⟨ob,es,ep,t,k _ _ (.inl O) e,c⟩
 |ins C dx fs=>let#v[d,z,ne,e,mA,#v[od,es,ep,e2,c],r]:=x;show⟨ho _ d,z,ne,k _ _ (.inl O) e,mA,⟨od,es,ep,k _ _ (.inr d) e2,c⟩,r⟩
 |own y=>let#v[ob,e]:=x;show⟨ob,k _ _ (.inl O) e⟩
 |xd fs=>let#v[mA,#v[od,es,ep,e,c],r]:=x;show⟨mA,⟨od,es,ep,k _ _ (.inl O) e,c⟩,r⟩
 |rng lo hi=>let#v[t,u,v,e]:=x;show⟨t,u,v,k _ _ (.inl O) e⟩
 |frz ob u ih=>let#v[e,q]:=x;show⟨k _ _ (.inl O) e,ih q⟩
 |tbl ps=>have e:h.get? a=Z { cls:=.none,data:=.fields ps }:=x;change h'.get? a=Z { cls:=.none,data:=.fields ps };show k a _ (.inl O) e
 |met f y=>have e:h.get? a=Z (lW (.ref f) (.ref y)):=x;change h'.get? a=Z (lW (.ref f) (.ref y));show k a _ (.inl O) e
 |ext φ=>let#v[p,#v[o,e],st]:=x;show⟨st _ _ p λo q=>k _ _ (.inl O) q,⟨o,k _ _ (.inl O) e⟩,st⟩
theorem HOk.lt(x:HOk P w H h)(e:H a=Z o):a<h.objs.size:=(x a o e).lt
def HOk.fresh(x:HOk P w H h)(e:h.objs.size<=a):H a=J:=by
 cases q:H a with
 |none=>rfl
 |some u=>show ar (bY (x.lt q) e) (dN _)
def HOk.kept(x:HOk P w H h)(k:∀b u,h.get? b=Z u->h'.get? b=Z u):HOk P w H h':=λa o e=>
 (x a o e).stay (λb u _ q=>k b u q) (λ_ q=>q) λ_ _ q=>q
def HOk.laid(x:HOk P w H h)(k:∀b u,h.get? b=Z u->h'.get? b=Z u)(hp:h.objs.size<=a)(new:ObjOk P w (upd H a o) h' a o):HOk P w (upd H a o) h':=λb u e=>by
 have hn:=x.fresh hp;by_cases hb:b=a
 .subst hb;rw[tU]at e;ext e;show new
 .rw[tT hb]at e;show(x b u e).stay (λc v _ q=>k c v q) (λc q=>by rw[tT (wB q hn)];show q) λc xs q=>by rw[tT (wB q hn)];show q
end
def Rd(H:Hp)(a:Addr)(u:HO):Prop:=H a=Z u\/∃o,H a=Z (.frz o u)
def Rd.ok(r:Rd H a u)(x:HOk P w H h):ObjOk P w H h a u:=by
 rcases r with r|⟨o,r⟩
 .show x a u r
 .let#v[_,q]:=x a _ r;show q
def Mut:Option HO->Prop
 |some (.lst _)=>True
 |some (.dK _)=>True
 |some (.dT _)=>True
 |some (.set _ _)=>True
 |some (.ins _ _ _)=>True
 |some (.ext _)=>True
 |_=>False
section
variable{P:aO}{w:aF}{H:Hp}{h h':Heap}{x e:Addr}{o':HO}
def HOk.write(ok:HOk P w H h)(mu:Mut (H x))(he:e=x\/H e=Z (.own x))(k:∀b u,b≠e->h.get? b=Z u->h'.get? b=Z u)(heo:∃u,h'.get? e=Z u)
  (new:ObjOk P w (upd H x o') h' x o'):HOk P w (upd H x o') h':=λb u q=>by
 have nown:∀c y,H c=Z (.own y)->c≠x:=λc y r z=>by subst z;rw[r]at mu;show mu
 have ntup:∀c xs,H c=Z (.tup xs)->c≠x:=λc xs r z=>by subst z;rw[r]at mu;show mu
 by_cases hb:b=x
 .subst hb;rw[tU]at q;ext q;show new
 .rw[tT hb]at q;by_cases hbe:b=e
  .have q':H b=Z (.own x):=by
    rcases he with z|z
    .show ar (hbe.trans z) hb
    .rw[hbe];show z
   rw[q]at q';ext q';let#v[v,hv]:=heo;show⟨v,by rw[hbe];show hv⟩
  .refine(ok b u q).stay (λc v hc r=>k c v ?_ r) (λc r=>by rw[tT (nown c b r)];show r) λc xs r=>by rw[tT (ntup c xs r)];show r
   rcases hc with rfl|hc
   .show hbe
   .rintro rfl;rcases he with z|z
    .show nown c b hc z
    .rw[hc]at z;ext z;show hb O
end
structure Un(fs ex:List Addr)(H H':Hp)(h h':Heap):Prop where
 keep:∀b o,h.get? b=Z o->H b=J->b∉fs->b∉ex->h'.get? b=Z o
 slot:∀b o,h.get? b=Z o->H b=J->b∈fs->b∉ex->∃sl,h'.get? b=Z { o with slots:=sl }
 free:∀b o,h.get? b=Z o->H b=J->b∉ex->H' b=J
 there:∀b o,h.get? b=Z o->b∉ex->∃o',h'.get? b=Z o'
 tups:∀b xs,H b=Z (.tup xs)->H' b=Z (.tup xs)
 frzs:∀b o u,H b=Z (.frz o u)->H' b=Z (.frz o u)
 tbls:∀b ps,H b=Z (.tbl ps)->∃more,H' b=Z (.tbl (ps++more))
section
variable{fs fs' ex ex':List Addr}{H H1 H2:Hp}{h h1 h2 h':Heap}{a x e:Addr}{o:HO}
def Un.any(u:Un fs ex H H1 h h1)(q:h.get? b=Z ob)(n:H b=J)(hx:b∉ex):∃sl,h1.get? b=Z { ob with slots:=sl }:=by
 by_cases hb:b∈fs
 .show u.slot b ob q n hb hx
 .show⟨ob.slots,u.keep b ob q n hb hx⟩
def Un.kept(k:∀b u,h.get? b=Z u->h'.get? b=Z u):Un fs ex H H h h':=
 ⟨λb ob q _ _ _=>k b ob q,λb ob q _ _ _=>⟨ob.slots,k b ob q⟩,λ_ _ _ n _=>n,λb ob q _=>⟨ob,k b ob q⟩,λ_ _ q=>q,λ_ _ _ q=>q,λ_ ps q=>⟨[].toArray,by rw[q];simp⟩⟩
def Un.refl:Un fs ex H H h h:=Un.kept λ_ _ q=>q
def Un.laid(k:∀b u,h.get? b=Z u->h'.get? b=Z u)(hp:h.objs.size<=a)(hn:H a=J):Un fs ex H (upd H a o) h h' where
 keep:=λb u q _ _ _=>k b u q
 slot:=λb u q _ _ _=>⟨u.slots,k b u q⟩
 free:=λb u q n _=>by rw[tT (aV (bY (aK q) hp))];show n
 there:=λb u q _=>⟨u,k b u q⟩
 tups:=λb xs q=>by rw[tT (wB q hn)];show q
 frzs:=λb u xs q=>by rw[tT (wB q hn)];show q
 tbls:=λb ps q=>⟨[].toArray,by rw[tT (wB q hn),q];simp⟩
def Un.write(mu:Mut (H x))(he:e=x\/H e=Z (.own x))(k:∀b u,b≠e->h.get? b=Z u->h'.get? b=Z u)(heo:∃u,h'.get? e=Z u):Un fs ex H (upd H x o) h h':=by
 have hx:∀b,H b=J->b≠x:=λb n z=>by subst z;rw[n]at mu;show mu
 have hb:∀b,H b=J->b≠e:=λb n z=>by
  subst z;rcases he with r|r
  .show hx b n r
  .rw[n]at r;ext r
 have hm:∀b u,H b=Z u->¬Mut (Z u)->b≠x:=λb u q nm z=>by subst z;rw[q]at mu;show nm mu
 refine⟨λb u q n _ _=>k b u (hb b n) q,λb u q n _ _=>⟨u.slots,k b u (hb b n) q⟩,λb u q n _=>by rw[tT (hx b n)];show n,λb u q _=>?_,
  λb xs q=>by rw[tT (hm b _ q λz=>z)];show q,λb u xs q=>by rw[tT (hm b _ q λz=>z)];show q,λb ps q=>⟨[].toArray,by rw[tT (hm b _ q λz=>z),q];simp⟩⟩
 by_cases hbe:b=e
 .subst hbe;show heo
 .show⟨u,k b u hbe q⟩
end
def trk(h:Heap)(H:Hp):List Addr:=(bu h.objs.size).filter λa=>(H a).isSome
def Kh(h:Heap)(H:Hp):Heap:=W.hideAll h (trk h H)
def Ph(h:Heap)(H:Hp):(Kh h H).objs.size=h.objs.size:=W.hideAll_size _ _
def QE{h:Heap}(e:h.get? b=Z o)(n:H b=J):(Kh h H).get? b=Z o:=
 W.hideAll_get _ e λhm=>by have q:(H b).isSome=γ:=(aZ.mp hm).2;rw[n]at q;simp at q
def Uk(e:(Kh h H).get? b=Z o):h.get? b=Z o/\H b=J:=by
 have e':h.get? b=Z o:=W.of_hideAll (trk h H) e;calc⟨e',?_⟩;cases q:H b with
 |none=>rfl
 |some x=>have hm:b∈trk h H:=aZ.mpr ⟨cu.mpr (aK e'),by simp[q]⟩;have z:(Kh h H).get? b=J:=W.hideAll_none (trk h H) hm;rw[z]at e;ext e
def Ul(g h:Heap)(L:Addr):cJ:=(bu h.objs.size).filterMap λa=>if a=L\/(g.get? a).isSome=γ then J else (h.get? a).map λo=>(a,o)
def rest(g h:Heap)(L d:Addr):cJ:=(Ul g h L).filter λp=>decide (p.1≠d)
structure Mod(K:av)(mg:Str->Option ae)(base:Heap):Prop where
 kin:K.In base
 glob:base.Ns aX mg
 blt:∃mb,base.Ns builtinsNs mb/\∀x:Str,x≠"__name__" -> mb x=dP x
 nolimit:base.NoLimit
structure Cx where
 prog:aO
 w:aF
 K:av
 mg:Str->Option ae
 base:Heap
 A:aP
 N:aH
 s₀:af
 H₀:Hp
 env:Env
 outer:List Env
 stack:List Env
 ex:List Addr
 fn:Str->Bool
 calm:Bool
 pn:cJ
 xe:ae->af->Prop
def frs(l:List Env):List Addr:=l.filterMap (·.frame)
abbrev Cx.fs(X:Cx):List Addr:=frs X.outer
def Vis(sc:c5)(x:Str):Prop:=sc.names.lookup x=Z .local\/sc.names.lookup x=Z .cell\/sc.names.lookup x=Z .free
def Loc(sc:c5)(x:Str):Prop:=sc.names.lookup x=Z .local\/sc.names.lookup x=Z .cell
def Look(env:Env)(h:Heap)(m:Str->Option ae)(x:Str)(u:ae):Prop:=
 (env.kindOf x=Z .local/\m x=Z u)\/((env.kindOf x=Z .cell\/env.kindOf x=Z .free)/\∃c,env.cells.lookup x=Z c/\h.IsCell c (Z u))
structure Cx.Ok(X:Cx):Prop where
 mod:Mod X.K X.mg X.base
 kind:X.env.scope.kind=.function
 glob:X.env.globals=aX
 blt:X.env.builtins=builtinsNs
 above:X.s₀.heap.objs.size<=X.env.locals
 inj:∀x y c,X.env.cells.lookup x=Z c->X.env.cells.lookup y=Z c->x=y
 has:∀x,(X.env.kindOf x=Z .cell\/X.env.kindOf x=Z .free)->∃c,X.env.cells.lookup x=Z c
 cab:∀x c,X.fn x=γ->X.env.cells.lookup x=Z c->X.s₀.heap.objs.size<=c
 hd:X.calm=γ->X.A.handled=J
 frames:X.A.frames=Z X.stack
 stk:X.stack=X.outer\/(X.stack=X.env::X.outer/\X.env.frame=Z X.env.locals)
 exf:∀b∈X.ex,b≠X.env.locals/\∀x c,X.env.cells.lookup x=Z c->c≠b
 bs:∀b o,X.base.get? b=Z o->X.s₀.heap.get? b=Z o/\X.H₀ b=J
 bsz:X.base.objs.size<=X.s₀.heap.objs.size
 noex:∀b o,X.base.get? b=Z o->b∉X.ex
 exfs:∀b∈X.ex,b∉X.fs
 funs:X.s₀.heap.FunFrames X.base X.outer
 frf:∀b∈X.fs,X.H₀ b=J
structure Inv(X:Cx)(pins:cJ)(σ:List (Option V))(H:Hp)(s:af):Prop where
 ok:X.Ok
 os:s.os=X.s₀.os
 bare:eC s.gens
 base:Un X.fs X.ex X.H₀ H X.s₀.heap s.heap
 loc:∃m,s.heap.Ns X.env.locals m/\∀(i:Nat) (x:Str) (v:V),X.N[i]?=Z x->σ[i]?=Z (Z v)->Vis X.env.scope x->∃u,RelV v u/\Look X.env s.heap m x u
 cell:∀x c,X.env.cells.lookup x=Z c->∃v,s.heap.IsCell c v
 free:H X.env.locals=J
 freeC:∀x c,X.env.cells.lookup x=Z c->H c=J
 pin:∀p∈X.pn++pins,s.heap.get? p.1=Z p.2/\H p.1=J/\p.1≠X.env.locals/\p.1∉X.fs/\∀v,p.2.data≠.cell v
 hok:HOk X.prog X.w H s.heap
 len:σ.length=X.N.length
section
variable{X:Cx}{pins:cJ}{σ:List (Option V)}{H H':Hp}{s:af}{h':Heap}
def Cx.Ok.nofr(ok:X.Ok)(e:X.base.get? b=Z o):b∉X.fs:=λhb=>by have:=(ok.funs.mem hb).1;rw[e]at this;ext this
theorem Inv.bs(I:Inv X pins σ H s):∀b o,X.base.get? b=Z o->s.heap.get? b=Z o/\H b=J:=λb o e=>
 ⟨I.base.keep b o (I.ok.bs b o e).1 (I.ok.bs b o e).2 (I.ok.nofr e) (I.ok.noex b o e),I.base.free b o (I.ok.bs b o e).1 (I.ok.bs b o e).2 (I.ok.noex b o e)⟩
def Inv.bk(I:Inv X pins σ H s):∀b o,X.base.get? b=Z o->s.heap.get? b=Z o:=λb o e=>(I.bs b o e).1
theorem Inv.mod(I:Inv X pins σ H s):Mod X.K X.mg X.base:=I.ok.mod
def Inv.kIn(I:Inv X pins σ H s):X.K.In s.heap:=I.ok.mod.kin.keeps I.bk
def Inv.fr(I:Inv X pins σ H s):∃m,Fr X.base X.env.locals s.heap m:=
 let ⟨m,hn,_⟩:=I.loc
 ⟨m,hn,I.bk,bM I.ok.bsz I.ok.above⟩
theorem Inv.lt(I:Inv X pins σ H s):X.env.locals< ~~~s:=let ⟨_,hn,_⟩:=I.loc;hn.lt
def Inv.sz(I:Inv X pins σ H s):X.s₀.heap.objs.size<= ~~~s:=bM I.ok.above (gu I.lt)
def Inv.nofs(I:Inv X pins σ H s)(h: ~~~s<=a):a∉X.fs:=λhb=>by let#v[_,o,ho,_]:=I.ok.funs.mem hb;show ar (bY (aK ho) (bM I.sz h)) (dN _)
def Inv.cne(I:Inv X pins σ H s):∀x c,X.env.cells.lookup x=Z c->c≠X.env.locals:=λx c e z=>by let#v[v,o,ho,hd]:=I.cell x c e;let#v[m,#v[o',es,ep,ho',hd',_],_]:=I.loc;rw[z,ho']at ho;ext ho;rw[hd']at hd;ext hd
theorem Inv.funs(I:Inv X pins σ H s):s.heap.FunFrames X.base X.outer:=by
 have all:∀(l:List Env),(∀b∈frs l,b∈X.fs)->X.s₀.heap.FunFrames X.base l->s.heap.FunFrames X.base l:=by
  intro l
  induction l with
  |nil=>intro _ _;trivial
  |cons env r ih=>intro hs hl;let#v[hk,#v[L,o,hf,hn,ho,hd],hr]:=hl;have hL:L∈X.fs:=hs L (by delta frs;rw[i4,hf];show aR);let#v[sl,e]:=I.base.slot L o ho (I.ok.frf L hL) hL λz=>I.ok.exfs L z hL;show⟨hk,⟨L,_,hf,hn,e,hd⟩,ih (λb hb=>hs b (by delta frs;rw[i4,hf];show aU _ hb)) hr⟩
 show all X.outer (λ_ hb=>hb) I.ok.funs
theorem Inv.stack(I:Inv X pins σ H s):s.heap.FunFrames X.base X.stack:=by
 rcases I.ok.stk with e|⟨e,hf⟩
 .rw[e];show I.funs
 .rw[e];let#v[m,hn,_]:=I.loc;calc .cons (by rw[I.ok.kind];decide) hf hn ?_ I.funs;show Heap.get?_none_of_le (bM I.ok.bsz I.ok.above)
def Inv.stkSub(I:Inv X pins σ H s):∀b∈frs X.stack,b∈X.env.locals::X.fs:=λb hb=>by
 rcases I.ok.stk with e|⟨e,hf⟩
 .rw[e]at hb;show aU _ hb
 .rw[e]at hb;delta frs at hb;rw[i4,hf]at hb;show hb
def Inv.stkFree(I:Inv X pins σ H s):∀b∈frs X.stack,H b=J:=λb hb=>by
 rcases aQ.mp (I.stkSub b hb)with e|hb
 .rw[e];show I.free
 .let#v[_,o,ho,_]:=I.ok.funs.mem hb;show I.base.free b o ho (I.ok.frf b hb) λz=>I.ok.exfs b z hb
def Inv.step{g':Array fW}{t':Nat}{d':Drawn}{ch:List Addr}(I:Inv X pins σ H s)
  (hch:∀b∈ch,(b∈X.ex\/X.s₀.heap.objs.size<=b)/\b≠X.env.locals/\(∀x c,X.env.cells.lookup x=Z c->c≠b)/\∀p∈X.pn++pins,p.1≠b)
  (keep:∀b o,b≠X.env.locals->b∉X.fs->b∉ch->s.heap.get? b=Z o->H b=J->h'.get? b=Z o)
  (slot:∀b o,b≠X.env.locals->b∈X.fs->b∉ch->s.heap.get? b=Z o->H b=J->∃sl,h'.get? b=Z { o with slots:=sl }) (free:∀b o,b∉ch->s.heap.get? b=Z o->H b=J->H' b=J)
  (there:∀b o,b∉ch->s.heap.get? b=Z o->∃o',h'.get? b=Z o')
  (tups:∀b xs,H b=Z (.tup xs)->H' b=Z (.tup xs)) (frzs:∀b o u,H b=Z (.frz o u)->H' b=Z (.frz o u)) (tbls:∀b ps,H b=Z (.tbl ps)->∃more,H' b=Z (.tbl (ps++more)))
  (ns:∀m,s.heap.Ns X.env.locals m->h'.Ns X.env.locals m) (hok:HOk X.prog X.w H' h') (hg:eC g'):
  Inv X pins σ H' { s with heap:=h',gens:=g',drawn:=d',toks:=t' }:=by
 have neL:∀b o,X.s₀.heap.get? b=Z o->b≠X.env.locals:=λb o e=>aV (bY (aK e) I.ok.above);have neC:∀b o,X.s₀.heap.get? b=Z o->b∉X.ex->b∉ch:=λb o e hx hb=>by
  rcases(hch b hb).1 with z|z
  .show hx z
  .show ar (bY (aK e) z) (dN _)
 have cellK:∀x c,X.env.cells.lookup x=Z c->∀v,s.heap.IsCell c v->h'.IsCell c v:=λx c e v ⟨o,ho,hd⟩=>by
  have nch:c∉ch:=λz=>(hch c z).2.2.1 x c e O;by_cases hc:c∈X.fs
  .let#v[sl,q]:=slot c o (I.cne x c e) hc nch ho (I.freeC x c e);show⟨_,q,hd⟩
  .show⟨o,keep c o (I.cne x c e) hc nch ho (I.freeC x c e),hd⟩
 refine⟨I.ok,I.os,hg,⟨λb o e n hb hx=>?_,λb o e n hb hx=>?_,λb o e n hx=>?_,λb o e hx=>?_,λb xs e=>tups b xs (I.base.tups b xs e),λb o xs e=>frzs b o xs (I.base.frzs b o xs e),λb ps e=>?_⟩,?_,λx c e=>?_,?_,λx c e=>?_,λp hp=>?_,hok,I.len⟩
 .show keep b o (neL b o e) hb (neC b o e hx) (I.base.keep b o e n hb hx) (I.base.free b o e n hx)
 .let#v[sl,e1]:=I.base.slot b o e n hb hx;let#v[sl',e2]:=slot b _ (neL b o e) hb (neC b o e hx) e1 (I.base.free b o e n hx);show⟨sl',e2⟩
 .let#v[o',e1]:=I.base.there b o e hx;show free b o' (neC b o e hx) e1 (I.base.free b o e n hx)
 .let#v[o',e1]:=I.base.there b o e hx;show there b o' (neC b o e hx) e1
 .let#v[m1,e1]:=I.base.tbls b ps e;let#v[m2,e2]:=tbls b _ e1;show⟨m1++m2,by rw[e2,Array.append_assoc]⟩
 .let#v[m,hn,hl]:=I.loc;calc⟨m,ns m hn,λi x v e1 e2 e3=>?_⟩;let#v[u,r,l]:=hl i x v e1 e2 e3;calc⟨u,r,?_⟩;rcases l with l|⟨k,c,e,z⟩
  .show .inl l
  .show .inr ⟨k,c,e,cellK x c e _ z⟩
 .let#v[v,z]:=I.cell x c e;show⟨v,cellK x c e v z⟩
 .let#v[m,#v[o,_,_,ho,_],_]:=I.loc;show free _ o (λz=>(hch _ z).2.1 O) ho I.free
 .let#v[v,o,ho,hd]:=I.cell x c e;show free c o (λz=>(hch c z).2.2.1 x c e O) ho (I.freeC x c e)
 .let#v[e,n,ne,nf,d]:=I.pin p hp;have nch:p.1∉ch:=λz=>(hch p.1 z).2.2.2 p hp O;show⟨keep p.1 p.2 ne nf nch e n,free p.1 p.2 nch e n,ne,nf,d⟩
def Inv.un(I:Inv X pins σ H s)(u:Un X.fs [] H H' s.heap h')(hok:HOk X.prog X.w H' h'):Inv X pins σ H' { s with heap:=h',toks:=t' }:=by
 let#v[m,#v[o,es,ep,ho,r],_]:=id I.loc;let#v[sl,hL]:=u.any ho I.free (by simp);show I.step (g':=s.gens) (d':=s.drawn) (ch:=[]) (λ_ z=>nomatch z) (λb o _ hb _ e n=>u.keep b o e n hb (by simp)) (λb o _ hb _ e n=>u.slot b o e n hb (by simp)) (λb o _ e n=>u.free b o e n (by simp)) (λb o _ e=>u.there b o e (by simp)) u.tups u.frzs u.tbls (λm' hm=>by
  let#v[o',es',ep',ho',r']:=hm;rw[ho]at ho';ext ho';show⟨_,es',ep',hL,r'⟩) hok I.bare
def Inv.call(I:Inv X pins σ H s)(u:Un (frs X.stack) ch H H' s.heap h')(hok:HOk X.prog X.w H' h')(hg:eC g')
  (hch:∀b∈ch,(b∈X.ex\/X.s₀.heap.objs.size<=b)/\b≠X.env.locals/\(∀x c,X.env.cells.lookup x=Z c->c≠b)/\∀p∈X.pn++pins,p.1≠b):
  Inv X pins σ H' { s with heap:=h',gens:=g',drawn:=d',toks:=t' }:=by
 let#v[m,#v[o,es,ep,ho,r],_]:=id I.loc;let#v[sl,hL]:=u.any ho I.free λz=>(hch _ z).2.1 O;show I.step (ch:=ch) hch (λb o hL hb hc e n=>u.keep b o e n (λz=>(aQ.mp (I.stkSub b z)).elim hL hb) hc) (λb o _ _ hc e n=>u.any e n hc) (λb o hc e n=>u.free b o e n hc) (λb o hc e=>u.there b o e hc) u.tups u.frzs u.tbls (λm' hm=>by
  let#v[o',es',ep',ho',r']:=hm;rw[ho]at ho';ext ho';show⟨_,es',ep',hL,r'⟩) hok hg
def Inv.turned(I:Inv X pins σ H s)(k:∀b o,b≠it->s.heap.get? b=Z o->h'.get? b=Z o)(hn:H it=J)(hL:it≠X.env.locals)
  (h1:it∈X.ex\/X.s₀.heap.objs.size<=it) (h2:∀x c,X.env.cells.lookup x=Z c->c≠it) (h3:∀p∈X.pn++pins,p.1≠it):Inv X pins σ H { s with heap:=h',toks:=t' }:=by
 have nit:∀b u,H b=Z u->b≠it:=λb u e z=>by rw[z,hn]at e;ext e
 refine I.step (g':=s.gens) (d':=s.drawn) (ch:=[it]) (λb hb=>?_) (λb o _ _ hc e _=>k b o (λz=>hc (by simp[z])) e) (λb o _ _ hc e _=>⟨o.slots,k b o (λz=>hc (by simp[z])) e⟩) (λ_ _ _ _ n=>n)
  (λb o hc e=>⟨o,k b o (λz=>hc (by simp[z])) e⟩) (λ_ _ e=>e) (λ_ _ _ e=>e) (λb ps e=>⟨[].toArray,by rw[e];simp⟩) (λm hm=>?_) (λb u e=>?_) I.bare
 .have e:b=it:=by exists hb
  subst e;show⟨h1,hL,h2,h3⟩
 .let#v[o,es,ep,ho,r]:=hm;show⟨o,es,ep,k _ o (dD hL) ho,r⟩
 .calc(I.hok b u e).stay (λc v hc q=>k c v ?_ q) (λ_ q=>q) λ_ _ q=>q;rcases hc with z|z
  .rw[z];show nit b u e
  .show nit c _ z
def Inv.tok(I:Inv X pins σ H s)(t:Nat):Inv X pins σ H { s with toks:=t }:=I.un (h':=s.heap) (t':=t) Un.refl I.hok
theorem Inv.kept(I:Inv X pins σ H s)(k:∀b u,s.heap.get? b=Z u->h'.get? b=Z u):Inv X pins σ H { s with heap:=h',toks:=t' }:=I.un (Un.kept k) (I.hok.kept k)
theorem Inv.laid(I:Inv X pins σ H s)(k:∀b u,s.heap.get? b=Z u->h'.get? b=Z u)(hp: ~~~s<=a)(new:ObjOk X.prog X.w (upd H a o) h' a o):
  Inv X pins σ (upd H a o) { s with heap:=h',toks:=t' }:=I.un (Un.laid k hp (I.hok.fresh hp)) (I.hok.laid k hp new)
theorem Inv.write(I:Inv X pins σ H s)(mu:Mut (H x))(he:e=x\/H e=Z (.own x))(k:∀b u,b≠e->s.heap.get? b=Z u->h'.get? b=Z u)(heo:∃u,h'.get? e=Z u)
  (new:ObjOk X.prog X.w (upd H x o) h' x o):Inv X pins σ (upd H x o) { s with heap:=h',toks:=t' }:=I.un (Un.write mu he k heo) (I.hok.write mu he k heo new)
def Inv.weak{σ':List (Option V)}(I:Inv X pins σ H s)(hl:σ'.length=σ.length)(w:∀(i:Nat) v,σ'[i]?=Z (Z v)->σ[i]?=Z (Z v)):Inv X pins σ' H s:=
 ⟨I.ok,I.os,I.bare,I.base,let ⟨m,hn,hl'⟩:=I.loc;⟨m,hn,λi x v e1 e2 e3=>hl' i x v e1 (w i v e2) e3⟩,I.cell,I.free,I.freeC,I.pin,I.hok,hl.trans I.len⟩
def Inv.pins_of(I:Inv X pins σ H s)(h:∀p∈pins',s.heap.get? p.1=Z p.2/\H p.1=J/\p.1≠X.env.locals/\p.1∉X.fs/\∀v,p.2.data≠.cell v):Inv X pins' σ H s:=
 ⟨I.ok,I.os,I.bare,I.base,I.loc,I.cell,I.free,I.freeC,λp hp=>(ba.mp hp).elim (λz=>I.pin p (bO _ z)) (h p),I.hok,I.len⟩
def Li{N:aH}(hN:N.Nodup){i j:Nat}{x:Str}(a:N[i]?=Z x)(b:N[j]?=Z x):i=j:=by let#v[h1,e1]:=ck.mp a;let#v[h2,e2]:=ck.mp b;show(kH hN).mp (e1.trans e2.symm)
def Pi(I:Inv X pins σ H s)(hN:X.N.Nodup)(hi:X.N[i]?=Z x)(hx:Loc X.env.scope x)(r:RelV v u)
  (h:∀s',Inv X pins (σ.set i (Z v)) H s'->(∃a,dt a s.heap s'.heap/\(a=X.env.locals\/X.env.cells.lookup x=Z a))->Q Unit.unit s') (hf:X.fn x=γ\/X.env.scope.names.lookup x=Z .local:=by first|show .inl O|show .inr O|assumption):ah M A (storeName X.env x u) Q E s:=by
 let#v[m,hn,hl]:=id I.loc;have hcls:(X.env.scope.kind==.class||(X.env.scope.kind==.module&&X.env.locals != X.env.globals))=δ:=by rw[I.ok.kind];rfl
 have hiσ:i<σ.length:=by rw[I.len];show(ck.mp hi).1
 have cne:=I.cne;have tracked:∀{a:Addr} {h':Heap},(∃o,s.heap.get? a=Z o/\H a=J)->dt a s.heap h'->HOk X.prog X.w H h':=λ{a h'} ha hs b ob e=>by
  let#v[_,_,hfree]:=ha;calc(I.hok b ob e).stay (λc w' hc q=>(hs.2 c ?_).trans q) (λ_ q=>q) λ_ _ q=>q;rintro rfl;rcases hc with rfl|hc
  .rw[hfree]at e;ext e
  .rw[hfree]at hc;ext hc
 rcases hx with hk|hk
 .calc wpAny_storeName_local hk hn (λh' hn' hs=>?_) hcls;let#v[oL,_,_,hoL,_]:=id hn;refine h _ ⟨I.ok,I.os,I.bare,⟨λb o e n hb hx=>?_,λb o e n hb hx=>?_,I.base.free,λb o e hx=>?_,I.base.tups,I.base.frzs,I.base.tbls⟩,⟨_,hn',λj y v' e1 e2 e3=>?_⟩,λy c e=>?_,I.free,I.freeC,λp hp=>?_,tracked ⟨oL,hoL,I.free⟩ hs,by exists I.len⟩ ⟨_,hs,.inl O⟩
  .show(hs.2 b (aV (bY (aK e) I.ok.above))).trans (I.base.keep b o e n hb hx)
  .let#v[sl,e1]:=I.base.slot b o e n hb hx;show⟨sl,(hs.2 b (aV (bY (aK e) I.ok.above))).trans e1⟩
  .let#v[o',e1]:=I.base.there b o e hx;show⟨o',(hs.2 b (aV (bY (aK e) I.ok.above))).trans e1⟩
  .by_cases hj:j=i
   .subst hj;rw[hi]at e1;ext e1;rw[iY hiσ]at e2;ext e2;show⟨u,r,.inl ⟨hk,by simp⟩⟩
   .rw[kj (dD hj)]at e2;let#v[u',r',q]:=hl j y v' e1 e2 e3;calc⟨u',r',?_⟩;rcases q with ⟨k,e⟩|⟨k,c,e,z⟩
    .calc .inl ⟨k,?_⟩;have:y≠x:=λe=>hj (Li hN e1 (e▸hi));simp[this,e]
    .show .inr ⟨k,c,e,z.sameBut hs (cne y c e)⟩
  .let#v[w',z]:=I.cell y c e;show⟨w',z.sameBut hs (cne y c e)⟩
  .let#v[e,n,ne,nf,d]:=I.pin p hp;show⟨(hs.2 p.1 ne).trans e,n,ne,nf,d⟩
 .have hfn:X.fn x=γ:=by
   rcases hf with z|z
   .show z
   .rw[z]at hk;ext hk
  let#v[c,hc]:=I.ok.has x (.inl hk);let#v[w',z]:=I.cell x c hc;calc wpAny_storeName_cell I.ok.kind hk hc z (λh' hc' hs=>?_);let#v[oc,hoc,hocd]:=id z;refine h { s with heap:=h' } ⟨I.ok,I.os,I.bare,⟨λb o e n hb hx=>?_,λb o e n hb hx=>?_,I.base.free,λb o e hx=>?_,I.base.tups,I.base.frzs,I.base.tbls⟩,⟨m,hn.sameBut hs (dD (cne x c hc)),λj y v' e1 e2 e3=>?_⟩,λy c' e=>?_,I.free,I.freeC,λp hp=>?_,tracked ⟨oc,hoc,I.freeC x c hc⟩ hs,by exists I.len⟩ ⟨c,hs,.inr hc⟩
  .show(hs.2 b (aV (bY (aK e) (I.ok.cab x c hfn hc)))).trans (I.base.keep b o e n hb hx)
  .let#v[sl,e1]:=I.base.slot b o e n hb hx;show⟨sl,(hs.2 b (aV (bY (aK e) (I.ok.cab x c hfn hc)))).trans e1⟩
  .let#v[o',e1]:=I.base.there b o e hx;show⟨o',(hs.2 b (aV (bY (aK e) (I.ok.cab x c hfn hc)))).trans e1⟩
  .by_cases hj:j=i
   .subst hj;rw[hi]at e1;ext e1;rw[iY hiσ]at e2;ext e2;show⟨u,r,.inr ⟨.inl hk,c,hc,hc'⟩⟩
   .rw[kj (dD hj)]at e2;let#v[u',r',q]:=hl j y v' e1 e2 e3;calc⟨u',r',?_⟩;rcases q with q|⟨k,c',e,z'⟩
    .show .inl q
    .calc .inr ⟨k,c',e,z'.sameBut hs ?_⟩;rintro rfl;show hj (Li hN e1 (I.ok.inj _ _ _ e hc▸hi))
  .by_cases hcc:c'=c
   .subst hcc;show⟨_,hc'⟩
   .let#v[w2,z2]:=I.cell y c' e;show⟨w2,z2.sameBut hs hcc⟩
  .let#v[e,n,ne,nf,d]:=I.pin p hp;calc⟨(hs.2 p.1 ?_).trans e,n,ne,nf,d⟩;intro q;rw[q,hoc]at e;have q':oc=p.2:=cy e;show d w' (by rw[<-q'];show hocd)
def Lj(I:Inv X pins σ H s)(hN:X.N.Nodup)(hi:X.N[i]?=Z x)(hx:Loc X.env.scope x)(r:RelV v u)
  (h:∀s',Inv X pins (σ.set i (Z v)) H s'->Q Unit.unit s') (hf:X.fn x=γ\/X.env.scope.names.lookup x=Z .local:=by first|show .inl O|show .inr O|assumption):ah M A (storeName X.env x u) Q E s:=
 Pi I hN hi hx r (λs' I' _=>h s' I') hf
def Inv.call'{s':af}(I:Inv X pins σ H s)(ho:s'.os=s.os)(u:Un (frs X.stack) ch H H' s.heap s'.heap)(hok:HOk X.prog X.w H' s'.heap)(hg:eC s'.gens)
  (hch:∀b∈ch,(b∈X.ex\/X.s₀.heap.objs.size<=b)/\b≠X.env.locals/\(∀x c,X.env.cells.lookup x=Z c->c≠b)/\∀p∈X.pn++pins,p.1≠b):Inv X pins σ H' s':=by
 let#v[h',g',d',t',o']:=s';have e:o'=s.os:=ho;subst e;show I.call (g':=g') (t':=t') (d':=d') u hok hg hch
end
abbrev XK:=ae->Option Addr->Hp->Prop
abbrev St:=List (Option V)
abbrev VK:=V->Hp->Prop
abbrev TE:=St->Hp->VK->Prop
abbrev TT:=St->Hp->(Bool->Hp->Prop)->Prop
abbrev TA:=St->Hp->(bN->Hp->Prop)->Prop
structure Ends where
 nx:St->Hp->Prop
 rt:VK
 bk:St->Hp->Prop:=λ_ _=>False
 ct:St->Hp->Prop:=λ_ _=>False
abbrev TS:=Ends->St->Hp->Prop
def EP(X:Cx)(pins:cJ)(σ:St)(Q:VK)(u:ae)(s':af):Prop:=∃v H',Inv X pins σ H' s'/\RelV v u/\Q v H'
def TP(X:Cx)(pins:cJ)(σ:St)(Q:Bool->Hp->Prop)(b:Bool)(s':af):Prop:=∃H',Inv X pins σ H' s'/\Q b H'
def AP(X:Cx)(pins:cJ)(σ:St)(Q:bN->Hp->Prop)(us:List ae)(s':af):Prop:=∃vs H',Inv X pins σ H' s'/\Vals vs us/\Q vs H'
def SP(X:Cx)(pins:cJ)(D:Ends)(f:Flow)(s':af):Prop:=
 match f with
 |.next=>∃σ' H',Inv X pins σ' H' s'/\D.nx σ' H'
 |.brk=>∃σ' H',Inv X pins σ' H' s'/\D.bk σ' H'
 |.cont=>∃σ' H',Inv X pins σ' H' s'/\D.ct σ' H'
 |.ret u=>∃v σ' H',Inv X pins σ' H' s'/\RelV v u/\D.rt v H'
def PE(X:Cx)(e:Expr)(t:TE):Prop:=
 ∀(pins:cJ) (s:af) (σ:St) (H:Hp) (Q:VK),Inv X pins σ H s->t σ H Q->ah (model X.prog X.w) X.A (eval e X.env) (EP X pins σ Q) X.xe s
def PT(X:Cx)(e:Expr)(t:TT):Prop:=
 ∀(pins:cJ) (s:af) (σ:St) (H:Hp) (Q:Bool->Hp->Prop),Inv X pins σ H s->t σ H Q->ah (model X.prog X.w) X.A (isTrue e X.env (eval e X.env)) (TP X pins σ Q) X.xe s
def PW(X:Cx)(e:Expr)(t:TT):Prop:=
 ∀(whole:Sem ae) (pins:cJ) (s:af) (σ:St) (H:Hp) (Q:Bool->Hp->Prop),Inv X pins σ H s->t σ H Q->ah (model X.prog X.w) X.A (isTrue e X.env whole) (TP X pins σ Q) X.xe s
def PW.pt(h:PW X e t):PT X e t:=h _
def PA(X:Cx)(es:List Expr)(t:TA):Prop:=
 ∀(pos:Pos) (pins:cJ) (s:af) (σ:St) (H:Hp) (Q:bN->Hp->Prop),Inv X pins σ H s->t σ H Q->ah (model X.prog X.w) X.A (spliced (bJ pos (aG es X.env))) (AP X pins σ Q) X.xe s
def PS(X:Cx)(st:Stmt)(t:TS):Prop:=
 ∀(pins:cJ) (s:af) (σ:St) (H:Hp) (D:Ends),Inv X pins σ H s->t D σ H->ah (model X.prog X.w) X.A (exec st X.env) (SP X pins D) X.xe s
def PSs(X:Cx)(st:List Stmt)(t:TS):Prop:=
 ∀(pins:cJ) (s:af) (σ:St) (H:Hp) (D:Ends),Inv X pins σ H s->t D σ H->ah (model X.prog X.w) X.A (execs st X.env) (SP X pins D) X.xe s
def thn{α:Type}{t:Sem α}{Q Q':α->af->Prop}{M:Model}{A:aP}{E:ae->af->Prop}{s:af}(h:ah M A t Q E s)(hQ:∀a s,Q a s->Q' a s):ah M A t Q' E s:=bZ h hQ λ_ _ x=>x
section
variable{X:Cx}
def bin{a b:Expr}{ta tb:TE}(ha:PE X a ta)(hb:PE X b tb){pins:cJ}{s:af}{σ:St}{H:Hp}{R:V->V->Hp->Prop}(I:Inv X pins σ H s)(h:ta σ H λx H1=>tb σ H1 λy H2=>R x y H2)
  {α:Type} {Q:α->af->Prop} {f:ae->ae->Sem α}
  (hf:∀v u s2 x y H2,Inv X pins σ H2 s2->RelV x v->RelV y u->R x y H2->ah (model X.prog X.w) X.A (f v u) Q X.xe s2):
  ah (model X.prog X.w) X.A (eval a X.env) (λv s₁=>ah (model X.prog X.w) X.A (eval b X.env) (λu s₂=>ah (model X.prog X.w) X.A (f v u) Q X.xe s₂) X.xe s₁) X.xe s:=by
 calc thn (ha pins s σ H _ I h) λv s1 zz=>?_;let#v[x,H1,I1,r1,q1]:=zz;calc thn (hb pins s1 σ H1 _ I1 q1) λu s2 zz=>?_;let#v[y,H2,I2,r2,q2]:=zz;show hf v u s2 x y H2 I2 r1 r2 q2
def DU(i:Nat):TE:=λσ H Q=>∃v,σ[i]?=Z (Z v)/\Q v H
def tC(v:V):TE:=λ_ H Q=>Q v H
def Xd(hN:X.N[i]?=Z x)(hv:Vis X.env.scope x)(hd:(x==("__debug__" : Str))=δ:=by decide)(hcd:(x==("__classdict__" : Str))=δ:=by decide):PE X (.Name x pos) (DU i):=by
 sleep 11
 let#v[v,e,h]:=h;let#v[m,hn,hl]:=I.loc;let#v[u,r,l]:=hl i x v hN e hv;have fin:EP X pins σ Q u s:=⟨v,H,I,r,h⟩;rcases l with ⟨hk,hm⟩|⟨hk,c,hc,hcell⟩
 .show l3 (wpAny_loadName_local I.ok.kind hk hn hm fin) hd
 .rcases hk with hk|hk
  .show l3 (wpAny_loadName_cell I.ok.kind hk hc hcell fin) hd
  .show l3 (wpAny_loadName_free I.ok.kind hk hc hcell fin hcd) hd
def QF{i j pos}:PE X (.Constant (.int i) j pos) (tC (.int i)):=λ_ _ _ H _ I h=>wpAny_Constant_int ⟨.int i,H,I.tok _,⟨_,O⟩,h⟩
def aa2{b j pos}:PE X (.Constant (.bool b) j pos) (tC (.bl b)):=λ_ _ _ H _ I h=>Constant_bool ⟨.bl b,H,I,O,h⟩
def Xe{j pos}:PE X (.Constant .none j pos) (tC .non):=λ_ _ _ H _ I h=>Constant_none ⟨.non,H,I,O,h⟩
def Xf{x j pos}:PE X (.Constant (.str x) j pos) (tC (.str x)):=λ_ _ _ H _ I h=>Calls.Constant_str ⟨.str x,H,I.tok _,⟨_,O⟩,h⟩
def Gl(X:Cx)(x:Str):Prop:=X.env.kindOf x=Z .globalImplicit
def DV(I:Inv X pins σ H s)(hg:Gl X x)(hm:X.mg x=Z u)(h:Q u s)
  (hd:(x==("__debug__" : Str))=δ:=by decide):ah (model X.prog X.w) X.A (eval (.Name x pos) X.env) Q E s:=
 mR I.ok.kind hg (Calls.loadGlobal_global (by rw[I.ok.glob];show I.mod.glob.keeps I.bk) hm h) hd
def AX(I:Inv X pins σ H s)(hg:Gl X x)(hm:X.mg x=J)(hv:dP x=Z u)(h:Q u s)
  (hn:x≠"__name__" := by decide) (hd:(x==("__debug__" : Str))=δ:=by decide):ah (model X.prog X.w) X.A (eval (.Name x pos) X.env) Q E s:=by
 let#v[mb,h1,h2]:=I.mod.blt;show mR I.ok.kind hg (Calls.loadGlobal_builtin (by rw[I.ok.glob];show I.mod.glob.keeps I.bk) hm (by rw[I.ok.blt];show h1.keeps I.bk) ((h2 x hn).trans hv) h) hd
def GA(hg:Gl X x)(hm:X.mg x=Z u)(r:RelV v u)(hd:(x==("__debug__" : Str))=δ:=by decide):PE X (.Name x pos) (tC v):=
 λ_ _ _ H _ I h=>DV I hg hm ⟨v,H,I,r,h⟩ hd
def Um(hg:Gl X x)(hm:X.mg x=J)(hv:dP x=Z u)(r:RelV v u)(hn:x≠"__name__" := by decide)(hd:(x==("__debug__" : Str))=δ:=by decide):PE X (.Name x pos) (tC v):=
 λ_ _ _ H _ I h=>AX I hg hm hv ⟨v,H,I,r,h⟩ hn hd
variable{a b:Expr}{ta tb:TE}{pos:Pos}
def PC(X:Cx)(op:CmpOp)(a b:Expr)(t:TE):Prop:=
 ∀(pins:cJ) (s:af) (σ:St) (H:Hp) (Q:VK),Inv X pins σ H s->t σ H Q->
  ah (model X.prog X.w) X.A (eval a X.env) (λv s₁=>ah (model X.prog X.w) X.A (eval b X.env) (λu s₂=>ah (model X.prog X.w) X.A (bD op v u) (EP X pins σ Q) X.xe s₂) X.xe s₁) X.xe s
def tB(t:TE):TT:=λσ H Q=>t σ H λx H1=>∃c,x=.bl c/\Q c H1
def acG(h:PC X op a b t)(h1:fN op b=δ:=by first|show nobehind _ #[] #[]|rfl):PT X (.Compare a [op] [b] pos) (tB t):=by intro pins s σ H Q I hw;calc ni (thn (h pins s σ H _ I hw) λv s1 h1=>thn h1 λu s2 h2=>thn h2 λc s3 zz=>?_) h1;let#v[x,H1,I1,r1,q1]:=zz;let#v[d,rfl,q]:=q1;ext r1;show dm ⟨H1,I1,q⟩
def Xg(h:PE X e t)(he:∀whole,isTrue e X.env whole=(do let v<-whole;standAt e.pos;holding [v] (truthy v)):=by intro _;rfl):PT X e (tB t):=by intro pins s σ H Q I hw;calc isTrue_plain (thn (h pins s σ H _ I hw) λv s1 zz=>?_) (he _);let#v[x,H1,I1,r1,q1]:=zz;let#v[d,rfl,q]:=q1;ext r1;show dm ⟨H1,I1,q⟩
variable{tA tB':TT}{rest:List Expr}
def tAnd(t u:TT):TT:=λσ H Q=>t σ H λc H1=>if c=γ then u σ H1 Q else Q δ H1
def tOr(t u:TT):TT:=λσ H Q=>t σ H λc H1=>if c=γ then Q γ H1 else u σ H1 Q
def tNot(t:TT):TT:=λσ H Q=>t σ H λc H1=>Q (!c) H1
def Uo(ha:PT X a tA):PW X (.BoolOp .And [a] pos) tA:=by
 intro wh pins s σ H Q I h;calc isTrue_and (thn (ha pins s σ H Q I h) λc s1 e=>?_);cases c with
 |true=>show isTrue_and_nil e
 |false=>show e
def Xh(ha:PT X a tA):PW X (.BoolOp .Or [a] pos) tA:=by
 intro wh pins s σ H Q I h;calc isTrue_or (thn (ha pins s σ H Q I h) λc s1 e=>?_);cases c with
 |false=>show isTrue_or_nil e
 |true=>show e
def Xj(ha:PT X a tA)(hb:PW X (.BoolOp .And (b::rest) pos) tB'):PW X (.BoolOp .And (a::b::rest) pos) (tAnd tA tB'):=by
 intro wh pins s σ H Q I h;calc isTrue_and (thn (ha pins s σ H _ I h) λc s1 zz=>?_);let#v[H1,I1,q1]:=zz;cases c with
 |true=>show hb wh pins s1 σ H1 Q I1 q1
 |false=>show⟨H1,I1,q1⟩
def aa4(ha:PT X a tA)(hb:PW X (.BoolOp .Or (b::rest) pos) tB'):PW X (.BoolOp .Or (a::b::rest) pos) (tOr tA tB'):=by
 intro wh pins s σ H Q I h;calc isTrue_or (thn (ha pins s σ H _ I h) λc s1 zz=>?_);let#v[H1,I1,q1]:=zz;cases c with
 |true=>show⟨H1,I1,q1⟩
 |false=>show hb wh pins s1 σ H1 Q I1 q1
def Xk(ha:PT X a tA):PT X (.UnaryOp .Not a pos) (tNot tA):=by
 sleep 11
 show isTrue_not (ha pins s σ H (λc H1=>Q (!c) H1) I h)
def aa5(ta tb:TE):TE:=λσ H Q=>ta σ H λx H1=>∃c,x=.bl c/\if c=γ then tb σ H1 Q else Q (.bl δ) H1
def tOrV(ta tb:TE):TE:=λσ H Q=>ta σ H λx H1=>∃c,x=.bl c/\if c=γ then Q (.bl γ) H1 else tb σ H1 Q
def aa6(ta:TE):TE:=λσ H Q=>ta σ H λx H1=>∃c,x=.bl c/\Q (.bl (!c)) H1
def Xl{op}(h:PE X a t):PE X (.BoolOp op [a] pos) t:=λpins s σ H Q I hw=>BoolOp_one (h pins s σ H Q I hw)
def Xm(ha:PE X a ta)(hb:PE X (.BoolOp .And (b::rest) pos) tb):PE X (.BoolOp .And (a::b::rest) pos) (aa5 ta tb):=by
 sleep 11
 calc BoolOp_and (thn (ha pins s σ H _ I h) λv s1 zz=>?_);let#v[x,H1,I1,r1,q1]:=zz;let#v[c,rfl,q1]:=q1;ext r1;calc dm ?_;cases c with
 |true=>show hb pins s1 σ H1 Q I1 q1
 |false=>show⟨.bl δ,H1,I1,O,q1⟩
def aa7(ha:PE X a ta)(hb:PE X (.BoolOp .Or (b::rest) pos) tb):PE X (.BoolOp .Or (a::b::rest) pos) (tOrV ta tb):=by
 sleep 11
 calc BoolOp_or (thn (ha pins s σ H _ I h) λv s1 zz=>?_);let#v[x,H1,I1,r1,q1]:=zz;let#v[c,rfl,q1]:=q1;ext r1;calc dm ?_;cases c with
 |false=>show hb pins s1 σ H1 Q I1 q1
 |true=>show⟨.bl γ,H1,I1,O,q1⟩
def Xo(ha:PE X a ta):PE X (.UnaryOp .Not a pos) (aa6 ta):=by
 sleep 11
 calc UnaryOp_ (thn (ha pins s σ H _ I h) λv s1 zz=>?_);let#v[x,H1,I1,r1,q1]:=zz;let#v[c,rfl,q1]:=q1;ext r1;show not_of (dm ⟨.bl (!c),H1,I1,O,q1⟩)
def tIf(t:TT)(ta tb:TE):TE:=λσ H Q=>t σ H λc H1=>if c=γ then ta σ H1 Q else tb σ H1 Q
def QG(hc:PT X c tA)(ha:PE X a ta)(hb:PE X b tb):PE X (.IfExp c a b pos) (tIf tA ta tb):=by
 sleep 11
 calc wpAny_IfExp (thn (hc pins s σ H _ I h) λd s1 zz=>?_);let#v[H1,I1,q1]:=zz;cases d with
 |true=>show ha pins s1 σ H1 Q I1 q1
 |false=>show hb pins s1 σ H1 Q I1 q1
end
def SqL(K:av)(H:Hp)(a:Addr)(xs:bN):Prop:=
 Rd H a (.lst xs)\/
  ∃(o:Obj) (its:Array ae) (n:Nat),K.lookup a=Z o/\o.cls=.type "list" /\ o.dict=J/\o.data=.seq its n/\its.size<=aL/\Vals xs its.toList
def SqT(K:av)(H:Hp)(a:Addr)(xs:bN):Prop:=
 Rd H a (.tup xs)\/
  ∃(o:Obj) (its:Array ae) (n:Nat),K.lookup a=Z o/\o.cls=.type "tuple" /\ o.data=.seq its n/\its.size<=aL/\Vals xs its.toList
def absV:ae->Option V
 |.none=>Z .non
 |.bool b=>Z (.bl b)
 |.int i _=>Z (.int i)
 |.str x _=>Z (.str x)
 |.bytes b _=>Z (.byt b)
 |.float b _=>Z (.flt b)
 |.ref a=>Z (.ref a)
 |.type n=>Z (.ty n)
 |_=>J
def RelV.abs(r:RelV x u):absV u=Z x:=by
 cases x with
 |non=>ext r;rfl
 |bl _=>ext r;rfl
 |int _=>let#v[t,rfl]:=r;rfl
 |str _=>let#v[t,rfl]:=r;rfl
 |byt _=>let#v[t,rfl]:=r;rfl
 |flt _=>let#v[t,rfl]:=r;rfl
 |ref _=>ext r;rfl
 |ty _=>ext r;rfl
def RelV.inj(r:RelV x u)(q:RelV y u):x=y:=cy (r.abs.symm.trans q.abs)
theorem Vals.inj:∀{xs ys:bN} {us:List ae},Vals xs us->Vals ys us->xs=ys
 |_,_,_,.nil,.nil=>rfl
 |_,_,_,.cons r t,.cons r' t'=>by rw[r.inj r',Vals.inj t t']
section
variable{X:Cx}{pins:cJ}{σ:St}{H:Hp}{s:af}{a:Addr}{xs ys:bN}
def SqL.of{K:av}(h:H a=Z (.lst xs)):SqL K H a xs:=.inl (.inl h)
def SqT.of{K:av}(h:H a=Z (.tup xs)):SqT K H a xs:=.inl (.inl h)
def Inv.list(I:Inv X pins σ H s)(h:SqL X.K H a xs):∃its:List ae,Vals xs its/\PlainL s.heap a its.toArray/\xs.length<=aL:=by
 rcases h with h|⟨o,its,n,hk,hc,hd,hs,hz,r⟩
 .let#v[z,its,n,r,e]:=h.ok I.hok;show⟨its,r,⟨_,n,e,O,O,O⟩,z⟩
 .calc⟨its.toList,r,⟨o,n,I.kIn a o hk,hc,hd,by exists hs⟩,?_⟩;have e:=r.length;erw[cM]at e;omega
def Inv.tuple(I:Inv X pins σ H s)(h:SqT X.K H a xs):∃its:List ae,Vals xs its/\gL s.heap a its.toArray/\xs.length<=aL:=by
 rcases h with h|⟨o,its,n,hk,hc,hs,hz,r⟩
 .let#v[z,its,r,p]:=h.ok I.hok;show⟨its,r,p,z⟩
 .calc⟨its.toList,r,⟨o,I.kIn a o hk,hc,n,by exists hs⟩,?_⟩;have e:=r.length;erw[cM]at e;omega
def Inv.list_inj(I:Inv X pins σ H s)(h:SqL X.K H a xs)(h':SqL X.K H a ys):xs=ys:=by
 let#v[its,r,#v[o,n,e,_,_,d],_]:=I.list h;let#v[its',r',#v[o',n',e',_,_,d'],_]:=I.list h';rw[e]at e';ext e';rw[d]at d';injection d' with d1 _;have:its=its':=by exists bL pQ d1
 subst this;show r.inj r'
def Inv.tuple_inj(I:Inv X pins σ H s)(h:SqT X.K H a xs)(h':SqT X.K H a ys):xs=ys:=by
 let#v[its,r,#v[o,e,_,n,d],_]:=I.tuple h;let#v[its',r',#v[o',e',_,n',d'],_]:=I.tuple h';rw[e]at e';ext e';rw[d]at d';injection d' with d1 _;have:its=its':=by exists bL pQ d1
 subst this;show r.inj r'
end
abbrev Cx.wish(X:Cx)(E:ae->af->Prop):Cx:={ X with xe:=E }
abbrev Cx.nox(X:Cx):Cx:=X.wish λ_ _=>False
theorem Cx.Ok.wish{X:Cx}(ok:X.Ok)(E:ae->af->Prop):(X.wish E).Ok:=
 ⟨ok.mod,ok.kind,ok.glob,ok.blt,ok.above,ok.inj,ok.has,ok.cab,ok.hd,ok.frames,ok.stk,ok.exf,ok.bs,ok.bsz,ok.noex,ok.exfs,ok.funs,ok.frf⟩
def Cx.Ok.unwish{X:Cx}(ok:(X.wish E).Ok):X.Ok:=
 ⟨ok.mod,ok.kind,ok.glob,ok.blt,ok.above,ok.inj,ok.has,ok.cab,ok.hd,ok.frames,ok.stk,ok.exf,ok.bs,ok.bsz,ok.noex,ok.exfs,ok.funs,ok.frf⟩
section
variable{X:Cx}{pins:cJ}{σ:St}{H:Hp}{s:af}{E:ae->af->Prop}
theorem Inv.wish(I:Inv X pins σ H s)(E:ae->af->Prop):Inv (X.wish E) pins σ H s:=⟨I.ok.wish E,I.os,I.bare,I.base,I.loc,I.cell,I.free,I.freeC,I.pin,I.hok,I.len⟩
theorem Inv.unwish(I:Inv (X.wish E) pins σ H s):Inv X pins σ H s:=⟨I.ok.unwish,I.os,I.bare,I.base,I.loc,I.cell,I.free,I.freeC,I.pin,I.hok,I.len⟩
theorem SP.unwish{D:Ends}(h:SP (X.wish E) pins D f s'):SP X pins D f s':=by
 cases f with
 |next=>let#v[σ',H',I,q]:=h;show⟨σ',H',I.unwish,q⟩
 |brk=>let#v[σ',H',I,q]:=h;show⟨σ',H',I.unwish,q⟩
 |cont=>let#v[σ',H',I,q]:=h;show⟨σ',H',I.unwish,q⟩
 |ret u=>let#v[v,σ',H',I,r,q]:=h;show⟨v,σ',H',I.unwish,r,q⟩
theorem PSs.nox{st:List Stmt}(h:PSs X.nox st t):PSs X st t:=λpins s σ H D I hw=>
 bZ (h pins s σ H D (I.wish _) hw) (λ_ _ q=>q.unwish) λ_ _ z=>cY z
end
section
variable{X:Cx}{st:Stmt}{rest:List Stmt}{t u:TS}{e:Expr}{te:TE}{pos:Pos}
def aa8:TS:=λD σ H=>D.nx σ H
def tSeq(t u:TS):TS:=λD σ H=>t { D with nx:=u D } σ H
def Up:PSs X [] aa8:=λ_ _ σ H _ I h=>ji ⟨σ,H,I,h⟩
def GW(h1:PS X st t)(h2:PSs X rest u):PSs X (st::rest) (tSeq t u):=by
 intro pins s σ H D I h;calc oK (thn (h1 pins s σ H { D with nx:=u D } I h) λf s1 q=>?_);cases f with
 |next=>let#v[σ',H',I',q]:=q;show h2 pins s1 σ' H' D I' q
 |ret v=>show q
 |brk=>show q
 |cont=>show q
def Ki(h1:PS X st t):PSs X [st] t:=by
 intro pins s σ H D I h;calc oK (thn (h1 pins s σ H D I h) λf s1 q=>?_);cases f with
 |next=>show ji q
 |ret v=>show q
 |brk=>show q
 |cont=>show q
def Inv.quiet(I:Inv X pins σ H s):interactive X.env=δ:=by simp[interactive,I.ok.kind]
def Ws(te:TE):TS:=λD σ H=>te σ H λ_ H1=>D.nx σ H1
def NX(he:PE X e te)(hs:dB e J pos.line X.env=pure δ:=by rfl):PS X (.Expr e pos) (Ws te):=by intro pins s σ H D I h;show wpAny_Expr_any (thn (he pins s σ H _ I h) λv s1 ⟨x,H1,I1,r1,q1⟩=>⟨σ,H1,I1,q1⟩) I.quiet hs
def tRet(te:TE):TS:=λD σ H=>te σ H D.rt
def ME(he:PE X e te):PS X (.Return (Z e) pos) (tRet te):=by intro pins s σ H D I h;show wpAny_Return_some (thn (he pins s σ H _ I h) λv s1 ⟨x,H1,I1,r1,q1⟩=>⟨x,σ,H1,I1,r1,q1⟩)
def tIfS(c:TT)(t u:TS):TS:=λD σ H=>c σ H λb H1=>if b=γ then t D σ H1 else u D σ H1
def aba(hc:PT X c tc)(ha:PSs X a t)(hb:PSs X b u):PS X (.If c a b pos) (tIfS tc t u):=by
 intro pins s σ H D I h;calc wpAny_If (thn (hc pins s σ H _ I h) λd s1 zz=>?_);let#v[H1,I1,q1]:=zz;cases d with
 |true=>show ha pins s1 σ H1 D I1 q1
 |false=>show hb pins s1 σ H1 D I1 q1
end
abbrev TG:=V->St->Hp->(St->Hp->Prop)->Prop
abbrev TGs:=bN->St->Hp->(St->Hp->Prop)->Prop
def PG(X:Cx)(target:Expr)(t:TG):Prop:=
 ∀(pins:cJ) (s:af) (σ:St) (H:Hp) (v:V) (u:ae) (Q:St->Hp->Prop),Inv X pins σ H s->RelV v u->t v σ H Q->
  ah (model X.prog X.w) X.A (assign target X.env u) (λ_ s'=>∃σ' H',Inv X pins σ' H' s'/\Q σ' H') X.xe s
def PGs(X:Cx)(ts:List Expr)(t:TGs):Prop:=
 ∀(pins:cJ) (s:af) (σ:St) (H:Hp) (vs:bN) (us:List ae) (Q:St->Hp->Prop),Inv X pins σ H s->Vals vs us->t vs σ H Q->
  ah (model X.prog X.w) X.A (assignInOrder ((cZ ts X.env).map (·.2)) us) (λ_ s'=>∃σ' H',Inv X pins σ' H' s'/\Q σ' H') X.xe s
section
variable{X:Cx}{pos:Pos}
def zN(i:Nat):TG:=λv σ H Q=>Q (σ.set i (Z v)) H
def NY(hN:X.N.Nodup)(hi:X.N[i]?=Z x)(hx:Loc X.env.scope x)(hf:X.fn x=γ\/X.env.scope.names.lookup x=Z .local:=by first|show .inl O|show .inr O|assumption):PG X (.Name x pos) (zN i):=by intro pins s σ H v u Q I r h;show wpAny_assign_Name (Lj I hN hi hx r (λs' I'=>⟨_,H,I',h⟩) hf)
def gNil:TGs:=λvs σ H Q=>vs=[]/\Q σ H
def Wt(t:TG)(u:TGs):TGs:=λvs σ H Q=>∃v r,vs=v::r/\t v σ H λσ' H'=>u r σ' H' Q
def Uq:PGs X [] gNil:=by intro pins s σ H vs us Q I r h;let#v[e,h]:=h;subst e;ext r;show assignInOrder_nil ⟨σ,H,I,h⟩
def QH(h1:PG X e t)(h2:PGs X es u)
  (hs:(cZ (e::es) X.env).map (·.2)=assign e X.env::(cZ es X.env).map (·.2):=by rfl):PGs X (e::es) (Wt t u):=by
 intro pins s σ H vs us Q I r h;let#v[v,vr,e1,h]:=h;subst e1;cases r with
 |cons r rr=>rw[hs];calc assignInOrder_cons (thn (h1 pins s σ H _ _ _ I r h) λ_ s1 zz=>?_);let#v[σ1,H1,I1,q1]:=zz;show h2 pins s1 σ1 H1 _ _ Q I1 rr q1
def Xp(K:av)(n:Nat)(t:TGs):TG:=λv σ H Q=>∃a xs,v=.ref a/\SqT K H a xs/\xs.length=n/\t xs σ H Q
def Xq(hc:X.calm=γ)(h:PGs X es t)
  (hn:(cZ es X.env).length=n:=by rfl) (hst:(cZ es X.env).findIdx? (·.1)=J:=by rfl):PG X (.Tuple es k pos) (Xp X.K n t):=by
 intro pins s σ H v u Q I r hw;let#v[a,xs,e1,hq,hl,hw]:=hw;subst e1;ext r;let#v[its,rv,ht,hz]:=I.tuple hq;calc assign_Tuple_tuple (I.ok.hd hc) ht (by simp[hn,<- hl,rv.length]) hst λh' hx=>?_;have I1:Inv X pins σ H { s with heap:=h' }:=I.kept (t':=s.toks) λb o e=>hx b o (aV (aK e)) e;show h pins _ σ H xs _ Q I1 (by exists rv) hw
def DW(te:TE)(g:TG):TS:=λD σ H=>te σ H λx H1=>g x σ H1 D.nx
def Xr(he:PE X e te)(hg:PG X tg g)(hs:swapsWithSole [tg] e pos.line X.env=pure δ:=by rfl)(hw:swappedStores [tg] e X.env=pure J:=by rfl)
  (h1:(cZ [tg] X.env).map (·.2)=[assign tg X.env]:=by rfl):PS X (.Assign [tg] e pos) (DW te g):=by
 intro pins s σ H D I h;calc wpAny_Assign_stores (thn (he pins s σ H _ I h) λv s1 zz=>?_) hs hw;let#v[x,H1,I1,r1,q1]:=zz;rw[h1];show thn (hg pins s1 σ H1 x v _ I1 r1 q1) λ_ s2 q=>q
def Xs(hN:X.N.Nodup)(hi:X.N[i]?=Z x)(hx:Loc X.env.scope x)(he:PE X e te)(hs:dB e (Z (.Name x pos')) pos.line X.env=pure δ:=by rfl)(hf:X.fn x=γ\/X.env.scope.names.lookup x=Z .local:=by first|show .inl O|show .inr O|assumption):
  PS X (.Assign [.Name x pos'] e pos) (DW te (zN i)):=by
 intro pins s σ H D I h;calc wpAny_Assign_Name (thn (he pins s σ H _ I h) λv s1 zz=>?_) hs;let#v[y,H1,I1,r1,q1]:=zz;show Lj I1 hN hi hx r1 (λs2 I2=>⟨_,H1,I2,q1⟩) hf
end
section
variable{X:Cx}{pos:Pos}
def QI(c:TT)(tb:TS):TS:=λD σ H=>∃W:Nat->St->Hp->Prop,(∃m,W m σ H)/\∀m σ H,W m σ H->
 c σ H λb H1=>if b=γ then ∃N:St->Hp->Prop,(∀σ' H',N σ' H'->∃m',m'<m/\W m' σ' H')/\tb { D with nx:=N,ct:=N,bk:=D.nx } σ H1 else D.nx σ H1
def QJ(hp:jx (model X.prog X.w) X.A X.env X.xe)(hc:PT X c tc)(hb:PSs X body tb):PS X (.While c body [] pos) (QI tc tb):=by
 intro pins s σ H D I h;let#v[W,#v[m0,w0],turn]:=h;calc wpAny_While (codeAny_whileLoop (λn s'=>∃σ' H',Inv X pins σ' H' s'/\W n σ' H') ?_ m0 ⟨σ,H,I,w0⟩);rintro n s1 ⟨σ1,H1,I1,w1⟩;calc fK hp (thn (hc pins s1 σ1 H1 _ I1 (turn n σ1 H1 w1)) λb s2 zz=>?_);let#v[H2,I2,q2]:=zz;cases b with
 |true=>
  let#v[N,hN,q2]:=q2;rw[ao O];calc fK hp (thn (hb pins s2 σ1 H2 _ I2 q2) λf s3 q3=>?_);cases f with
  |next=>let#v[σ3,H3,I3,n3]:=q3;let#v[m',hm,w3]:=hN σ3 H3 n3;show⟨m',hm,σ3,H3,I3,w3⟩
  |cont=>let#v[σ3,H3,I3,n3]:=q3;let#v[m',hm,w3]:=hN σ3 H3 n3;show⟨m',hm,σ3,H3,I3,w3⟩
  |brk=>show q3
  |ret v=>show q3
 |false=>rw[ak bA];show ji ⟨σ1,H2,I2,q2⟩
end
structure It where
 go:Nat->Hp->Prop
 yld:Nat->Hp->V->Hp->Prop
 stop:Nat->Hp->Prop
def IM(X:Cx)(pins:cJ)(H:Hp)(b:Addr):Prop:=
 H b=J/\b≠X.env.locals/\b∉X.fs/\(b∈X.ex\/X.s₀.heap.objs.size<=b)/\(∀x c,X.env.cells.lookup x=Z c->c≠b)/\∀p∈X.pn++pins,p.1≠b
def Inv.fpOk(I:Inv X pins σ H s)(hb: ~~~s<=b)(hn:H' b=J):IM X pins H' b:=by
 refine⟨hn,dQ (bY I.lt hb),I.nofs hb,.inr (bM I.sz hb),λx c e z=>?_,λp hp z=>?_⟩
 .let#v[v,q]:=I.cell x c e;show ar (bY q.lt (by rw[z];show hb)) (dN _)
 .show ar (bY (aK (I.pin p hp).1) (by rw[z];show hb)) (dN _)
structure Turn(P:aO)(w:aF)(K:av)(tg:Expr)(At:It)(fp:List Addr)(it:Addr)(tn:Nat->Heap->Prop):Prop where
 mem:it∈fp
 obj:∀i h,tn i h->∀b∈fp,∃o,h.get? b=Z o/\∀v,o.data≠.cell v
 keep:∀i h h',tn i h->(∀b∈fp,∀o,h.get? b=Z o->h'.get? b=Z o)->tn i h'
 item:∀(X:Cx),X.prog=P->X.w=w->X.K=K->X.calm=γ->∀(i:Nat) (pins:cJ) (s:af) (σ:St) (H:Hp) (E:ae->af->Prop),Inv X pins σ H s->(∀b∈fp,IM X pins H b)->tn i s.heap->At.go i H->
  ah (model P w) X.A (pyNext (.ref it)) (λr s1=>∃u,r=Z u/\
   ah (model P w) X.A (gn tg (.ref it) u) (λ_ s2=>∃x H',Inv X pins σ H' s2/\RelV x u/\At.yld i H x H'/\tn (i+1) s2.heap/\∀b∈fp,H' b=J) E s1) E s
 done:∀(X:Cx),X.prog=P->X.w=w->X.K=K->X.calm=γ->∀(i:Nat) (pins:cJ) (s:af) (σ:St) (H:Hp) (E:ae->af->Prop),Inv X pins σ H s->(∀b∈fp,IM X pins H b)->tn i s.heap->At.stop i H->
  ah (model P w) X.A (pyNext (.ref it)) (λr s1=>r=J/\Inv X pins σ H s1) E s
 self:∀(A:aP) (i:Nat) (s:af) (Q:ae->af->Prop) (E:ae->af->Prop),tn i s.heap->Q (.ref it) s->ah (model P w) A (pyIter (.ref it)) Q E s
abbrev TI:=St->Hp->(It->Hp->Prop)->Prop
def PIE(X:Cx)(pins:cJ)(σ:St)(tg:Expr)(R:It->Hp->Prop)(itv:ae)(s2:af):Prop:=
 ∃(it:Addr) (fp:List Addr) (tn:Nat->Heap->Prop) (At:It) (H':Hp),itv=.ref it/\Inv X pins σ H' s2/\Turn X.prog X.w X.K tg At fp it tn/\tn 0 s2.heap/\(∀b∈fp,IM X pins H' b)/\R At H'
def PI(X:Cx)(tg iter:Expr)(wi:TI):Prop:=
 ∀(pins:cJ) (s:af) (σ:St) (H:Hp) (R:It->Hp->Prop),Inv X pins σ H s->wi σ H R->
  ah (model X.prog X.w) X.A (eval iter X.env) (λv s1=>ah (model X.prog X.w) X.A (pyIter v) (PIE X pins σ tg R) X.xe s1) X.xe s
def NZ{s:af}(ho:s.heap.get? it=Z o)(hc:o.cls=.type n)(hd:o.data=.fields vs)
  (hn:["enumerate", "zip", "dict_itemiterator", "dict_reverseitemiterator", "odict_iterator", "itertools.zip_longest", "itertools.pairwise"].contains n=δ) (hQ:Q Unit.unit s):ah M A (gn tg (.ref it) u) Q E s:=by
 delta gn;ext tg<;>first
  |show au hQ
  |(ext u<;>first
    |show au hQ
    |(refine ag (wpAny_load ho ?_)
      rw[hc,hd];change ah M A (if (["enumerate", "zip", "dict_itemiterator", "dict_reverseitemiterator", "odict_iterator", "itertools.zip_longest", "itertools.pairwise"].contains n&&vs[0]?==Z (rawInt _))=γ then _ else _) Q E s;rw[ak (by intro h;rw[hn,Bool.false_and]at h;ext h)];show au hQ))
def Itl(K:av)(a:Addr):It:=
 ⟨λi H=>∃xs x,SqL K H a xs/\xs[i]?=Z x,λi H x H'=>H'=H/\∀xs,SqL K H a xs->xs[i]?=Z x,λi H=>∃xs,SqL K H a xs/\xs.length<=i⟩
def Itt(K:av)(a:Addr):It:=
 ⟨λi H=>∃xs x,SqT K H a xs/\xs[i]?=Z x,λi H x H'=>H'=H/\∀xs,SqT K H a xs->xs[i]?=Z x,λi H=>∃xs,SqT K H a xs/\xs.length<=i⟩
def Itr(lo:Int)(n:Nat):It:=⟨λi _=>i<n,λi H x H'=>H'=H/\x=.int (lo+i),λi _=>n<=i⟩
def Pj{K:av}(a it:Addr):Turn P w K tg (Itl K a) [it] it (λi h=>h.IsListIter it a i) where
 mem:=by simp
 obj:=λi h st b hb=>by
  have e:b=it:=by exists hb
  subst e;let#v[o,e,c,d]:=st;show⟨o,e,λv z=>by rw[d]at z;ext z⟩
 keep:=λi h h' st k=>st.at λo e=>k it (by simp) o e
 item:=by
  sleep 8
  let#v[xs,x,hq,hx]:=hg;let#v[its,rv,p,hz]:=I.list hq;let#v[u,hu,ru]:=rv.get hx;let#v[f0,f1,f2,f3,f4,f5]:=hf it (by simp);calc wpAny_pyNext_list_item st p.isList (x:=u) (by exists hu) λh' st' sb=>?_;have I1:Inv X pins σ H { s with heap:=h' }:=I.turned (t':=s.toks) (λb o hb e=>(sb.2 b hb).trans e) f0 f1 f3 f4 f5;let#v[o,e,c,d]:=id st';show⟨u,O,NZ (s:={ s with heap:=h' }) e c d #[] ⟨x,H,I1,ru,⟨O,λys hy=>by rw[I.list_inj hy hq];show hx⟩,st',λb hb=>(hf b hb).1⟩⟩
 done:=by
  sleep 8
  let#v[xs,hq,hx]:=hg;let#v[its,rv,p,hz]:=I.list hq;let#v[f0,f1,f2,f3,f4,f5]:=hf it (by simp);have hl:=rv.length;show wpAny_pyNext_list_end (I.ok.hd hc) st p.isList (by simp;omega) λh' eb=>⟨O,I.turned (t':=s.toks) (λb o hb e=>eb b o hb e) f0 f1 f3 f4 f5⟩
 self:=λ_ _ _ _ _ st h=>wpAny_pyIter_listiter st h
def MF{K:av}(a it:Addr):Turn P w K tg (Itt K a) [it] it (λi h=>h.IsTupleIter it a i) where
 mem:=by simp
 obj:=λi h st b hb=>by
  have e:b=it:=by exists hb
  subst e;let#v[o,e,c,d]:=st;show⟨o,e,λv z=>by rw[d]at z;ext z⟩
 keep:=λi h h' st k=>st.at λo e=>k it (by simp) o e
 item:=by
  sleep 8
  let#v[xs,x,hq,hx]:=hg;let#v[its,rv,p,hz]:=I.tuple hq;let#v[u,hu,ru]:=rv.get hx;let#v[f0,f1,f2,f3,f4,f5]:=hf it (by simp);calc wpAny_pyNext_tuple_item st (show s.heap.IsTuple a its.toArray from p) (x:=u) (by exists hu) λh' st' sb=>?_;have I1:Inv X pins σ H { s with heap:=h' }:=I.turned (t':=s.toks) (λb o hb e=>(sb.2 b hb).trans e) f0 f1 f3 f4 f5;let#v[o,e,c,d]:=id st';show⟨u,O,NZ (s:={ s with heap:=h' }) e c d #[] ⟨x,H,I1,ru,⟨O,λys hy=>by rw[I.tuple_inj hy hq];show hx⟩,st',λb hb=>(hf b hb).1⟩⟩
 done:=by
  sleep 8
  let#v[xs,hq,hx]:=hg;let#v[its,rv,p,hz]:=I.tuple hq;let#v[f0,f1,f2,f3,f4,f5]:=hf it (by simp);have hl:=rv.length;show wpAny_pyNext_tuple_end (I.ok.hd hc) st (show s.heap.IsTuple a its.toArray from p) (by simp;omega) λh' eb=>⟨O,I.turned (t':=s.toks) (λb o hb e=>eb b o hb e) f0 f1 f3 f4 f5⟩
 self:=λ_ _ _ _ _ st h=>wpAny_pyIter_tupleiter st h
def MG{K:av}(it:Addr)(lo:Int)(n:Nat):Turn P w K tg (Itr lo n) [it] it (λi h=>IsRangeIter h it (lo+(i:Nat) * 1) ((n:Int) - (i:Nat)) 1) where
 mem:=by simp
 obj:=λi h st b hb=>by
  have e:b=it:=by exists hb
  subst e;show⟨_,st,λv z=>by
   have z':Data.fields _=Data.cell v:=z;ext z'⟩
 keep:=λi h h' st k=>k it (by simp) _ st
 item:=by
  sleep 8
  let#v[f0,f1,f2,f3,f4,f5]:=hf it (by simp);have W:=Walks.range (prog:=X.prog) (w:=X.w) (I.ok.hd hc) it lo 1 n;calc W.item i s _ _ hg st λv h' tk hv st' kk=>?_;let#v[t,rfl]:=hv;have I1:Inv X pins σ H { s with heap:=h',toks:=tk }:=I.turned (λb o hb e=>kk b o (by exists hb) e) f0 f1 f3 f4 f5;calc⟨_,O,NZ (s:={ s with heap:=h',toks:=tk }) (n:="range_iterator") st' rfl O #[] ⟨.int (lo+i),H,I1,⟨t,?_⟩,⟨O,O⟩,st',λb hb=>(hf b hb).1⟩⟩;rw[Int.mul_one]
 done:=by
  sleep 8
  let#v[f0,f1,f2,f3,f4,f5]:=hf it (by simp);show wpAny_pyNext_range_end (I.ok.hd hc) st (by have:n<=i:=hg;omega) λh' eb=>⟨O,I.turned (t':=s.toks) (λb o hb e=>eb b o hb e) f0 f1 f3 f4 f5⟩
 self:=λ_ _ _ _ _ st h=>wpAny_pyIter_rangeiter st h
section
variable{X:Cx}{tg:Expr}
def QK(K:av)(tl:TE):TI:=λσ H R=>tl σ H λx H1=>∃a,x=.ref a/\(∃xs,SqL K H1 a xs)/\R (Itl K a) H1
def Xt(K:av)(tl:TE):TI:=λσ H R=>tl σ H λx H1=>∃a,x=.ref a/\(∃xs,SqT K H1 a xs)/\R (Itt K a) H1
def Ur(hl:PE X l tl):PI X tg l (QK X.K tl):=by
 intro pins s σ H R I h;calc thn (hl pins s σ H _ I h) λv s1 zz=>?_;let#v[x,H1,I1,r1,q1]:=zz;let#v[a,e,#v[xs,hq],q]:=q1;subst e;ext r1;let#v[its,rv,p,hz]:=I1.list hq;calc eK p.isList ?_;calc⟨~~~s1,[~~~s1],_,_,H1,O,I1.kept (t':=s1.toks) λb o e=>aC _ e,Pj a _,⟨_,bq _ O,O,O⟩,λb hb=>?_,q⟩;have e:b= ~~~s1:=by exists hb
 subst e;show I1.fpOk (aS _) (I1.hok.fresh (aS _))
def Xu(hl:PE X l tl):PI X tg l (Xt X.K tl):=by
 intro pins s σ H R I h;calc thn (hl pins s σ H _ I h) λv s1 zz=>?_;let#v[x,H1,I1,r1,q1]:=zz;let#v[a,e,#v[xs,hq],q]:=q1;subst e;ext r1;let#v[its,rv,p,hz]:=I1.tuple hq;calc kx (show s1.heap.IsTuple a its.toArray from p) ?_;calc⟨~~~s1,[~~~s1],_,_,H1,O,I1.kept (t':=s1.toks) λb o e=>aC _ e,MF a _,⟨_,bq _ O,O,O⟩,λb hb=>?_,q⟩;have e:b= ~~~s1:=by exists hb
 subst e;show I1.fpOk (aS _) (I1.hok.fresh (aS _))
def QL{lo:Int}(I:Inv X pins σ H s)(h1:-(2 ^ 62)<=lo)(h2:lo<2 ^ 62)(h3:-(2 ^ 62)<=hi)(h4:hi<2 ^ 62)
  (q:R (Itr lo (hi - lo).toNat) H):ah (model X.prog X.w) X.A (pyIter (.ref (~~~s))) (PIE X pins σ tg R) E { s with heap:=s.heap.push { cls:=.type "range", data:=.fields #[.int lo t,.int hi u,.int 1 v] },toks:=tk }:=by
 calc wpAny_pyIter_range (IsRange.new ..) (small_one h1 h2 h3 h4) ?_;have I1:Inv X pins σ H { s with heap:=s.heap.push { cls:=.type "range", data:=.fields #[.int lo t,.int hi u,.int 1 v] },toks:=tk }:=I.kept λb o e=>aC _ e;refine⟨(s.heap.push { cls:=.type "range", data:=.fields #[.int lo t,.int hi u,.int 1 v] }).objs.size,[(s.heap.push { cls:=.type "range", data:=.fields #[.int lo t,.int hi u,.int 1 v] }).objs.size],_,_,H,O,
  I1.kept (t':=tk) λb o e=>aC _ e,MG _ lo (hi - lo).toNat,?_,λb hb=>?_,q⟩
 .have e1:lo+((0:Nat):Int) * 1=lo:=by simp
  have e2:(((hi - lo).toNat:Nat):Int) - ((0:Nat):Int)=rR lo hi 1:=by rw[rangeSize_one];split<;>omega
  change IsRangeIter _ _ (lo+((0:Nat):Int) * 1) ((((hi - lo).toNat:Nat):Int) - ((0:Nat):Int)) 1;rw[e1,e2];show bq _ O
 .have e:b=(s.heap.push { cls:=.type "range", data:=.fields #[.int lo t,.int hi u,.int 1 v] }).objs.size:=by exists hb
  subst e;show I1.fpOk (aS _) (I1.hok.fresh (aS _))
def Wu(ta:TA):TI:=λσ H R=>ta σ H λvs H1=>∃j:Int,vs=[.int j]/\-(2 ^ 62)<=j/\j<2 ^ 62/\R (Itr 0 j.toNat) H1
def Pk(hg:Gl X "range")(hm:X.mg "range" = J)(ha:PA X [a] ta)(hs:aG [a] X.env=[(δ,eval a X.env)]:=by rfl):PI X tg (.Call (.Name "range" p) [a] [] pos) (Wu ta):=by
 intro pins s σ H R I h;calc Call_ (AX I hg hm boot_range (callWith_type1 (thn (ha pos pins s σ H _ I h) λus s1 zz=>?_) hs O));let#v[vs,H1,I1,r1,q1]:=zz;let#v[j,e,q1,q2,q]:=q1;subst e;cases r1 with
 |cons r rr=>ext rr;let#v[t,rfl]:=r;show call_range_1 (QL I1 () () q1 q2 (by exists q))
def Xv(wi:TI)(g:TG)(tb:TS):TS:=λD σ H=>wi σ H λAt H1=>∃W:Nat->Nat->St->Hp->Prop,(∃m,W 0 m σ H1)/\∀i m σ H,W i m σ H->
 (At.stop i H/\D.nx σ H)\/(At.go i H/\∃N:St->Hp->Prop,(∀σ' H',N σ' H'->∃m',m'<m/\W (i+1) m' σ' H')/\∀x H',At.yld i H x H'->g x σ H' λσ2 H2=>tb { D with nx:=N,ct:=N,bk:=D.nx } σ2 H2)
def GY(fp:List Addr)(h:Heap):cJ:=fp.filterMap λb=>(h.get? b).map λo=>(b,o)
def zm{h:Heap}(hb:b∈fp)(e:h.get? b=Z o):(b,o)∈GY fp h:=ie.mpr ⟨b,hb,by rw[e];rfl⟩
def Pl(hp:p∈GY fp h):p.1∈fp/\h.get? p.1=Z p.2:=by
 let#v[b,hb,e]:=ie.mp hp;cases q:h.get? b with
 |none=>rw[q]at e;cases e
 |some o=>rw[q]at e;have e':(b,o)=p:=cy e;subst e';show⟨hb,q⟩
def Inv.pinned(I:Inv X pins σ H s)(hf:∀b∈fp,IM X pins H b)(ho:∀b∈fp,∃o,s.heap.get? b=Z o/\∀v,o.data≠.cell v):Inv X (pins++GY fp s.heap) σ H s:=
 I.pins_of λp hp=>(ba.mp hp).elim (λz=>I.pin p (bE _ z)) λz=>by let#v[hb,e]:=Pl z;let#v[f0,f1,f2,_]:=hf p.1 hb;let#v[o,e',d]:=ho p.1 hb;rw[e]at e';ext e';show⟨e,f0,f1,f2,d⟩
def Inv.unpinned(I:Inv X (pins++pl) σ H s):Inv X pins σ H s:=I.pins_of λp hp=>I.pin p (bE _ (bO _ hp))
def QM(hp:jx (model X.prog X.w) X.A X.env X.xe)(hc:X.calm=γ)(hi:PI X tg iter wi)(hg:PG X tg g)(hb:PSs X body tb)
  (hs:∀x,ig iter X.env x=pure x:=by intro _;rfl):PS X (.For tg iter body [] pos) (Xv wi g tb):=by
 intro pins s σ H D I h;calc wpAny_For (thn (hi pins s σ H _ I h) λv s1 h1=>thn h1 λitv s2 h2=>?_) hs;let#v[it,fp,tn,At,H2,e,I2,T,st2,f2,W,#v[m0,w0],turn]:=h2;subst e;have stat:∀{H':Hp},(∀b∈fp,H' b=J)->∀b∈fp,IM X pins H' b:=λhn b hb=>⟨hn b hb,(f2 b hb).2⟩;calc codeAny_forLoop_any (λn s'=>∃i σ' H',Inv X pins σ' H' s'/\tn i s'.heap/\(∀b∈fp,H' b=J)/\W i n σ' H') ?_ m0 ⟨0,σ,H2,I2,st2,λb hb=>(f2 b hb).1,w0⟩;rintro n s3 ⟨i,σ3,H3,I3,st3,fr3,w3⟩;rcases turn i n σ3 H3 w3 with ⟨stop,qn⟩|⟨go,N,hN,step⟩
 .calc fK hp (thn (T.done X O O O hc i pins s3 σ3 H3 X.xe I3 (stat fr3) st3 stop) λr s4 zz=>?_);let#v[hr,I4]:=zz;subst hr;show ji ⟨σ3,H3,I4,qn⟩
 .calc fK hp (thn (T.item X O O O hc i pins s3 σ3 H3 X.xe I3 (stat fr3) st3 go) λr s4 zz=>?_);let#v[u,hr,h4]:=zz;subst hr;calc fK hp (thn h4 λ_ s5 zz=>?_);let#v[x,H5,I5,r5,y5,st5,fr5]:=zz;have I5':=I5.pinned (stat fr5) (T.obj _ _ st5);calc fK hp (thn (hg _ s5 σ3 H5 x u _ I5' r5 (step x H5 y5)) λ_ s6 zz=>?_);let#v[σ6,H6,I6,q6]:=zz;calc fK hp (thn (hb _ s6 σ6 H6 _ I6 q6) λf s7 q7=>?_);have again:∀{σ7:St} {H7:Hp},Inv X (pins++GY fp s5.heap) σ7 H7 s7->N σ7 H7->∃m,m<n/\∃i σ' H',Inv X pins σ' H' s7/\tn i s7.heap/\(∀b∈fp,H' b=J)/\W i m σ' H':=λ{σ7 H7} I7 n7=>by let#v[m',hm,w7]:=hN σ7 H7 n7;calc⟨m',hm,i+1,σ7,H7,I7.unpinned,T.keep _ _ _ st5 λb hb o e=>(I7.pin (b,o) (bE _ (bE _ (zm hb e)))).1,λb hb=>?_,w7⟩;let#v[o,e,d]:=T.obj _ _ st5 b hb;show(I7.pin (b,o) (bE _ (bE _ (zm hb e)))).2.1
  cases f with
  |next=>let#v[σ7,H7,I7,n7]:=q7;show again I7 n7
  |cont=>let#v[σ7,H7,I7,n7]:=q7;show again I7 n7
  |brk=>let#v[σ7,H7,I7,q7]:=q7;show⟨σ7,H7,I7.unpinned,q7⟩
  |ret v=>let#v[x7,σ7,H7,I7,r7,q7]:=q7;show⟨x7,σ7,H7,I7.unpinned,r7,q7⟩
end
abbrev R2:=V->V->Hp->VK->Prop
def OpR(X:Cx)(f:ae->ae->Sem ae)(r:R2):Prop:=
 ∀(pins:cJ) (s:af) (σ:St) (H:Hp) (x y:V) (v u:ae) (Q:VK),Inv X pins σ H s->RelV x v->RelV y u->r x y H Q->
  ah (model X.prog X.w) X.A (f v u) (EP X pins σ Q) X.xe s
def UnR(X:Cx)(f:ae->Sem ae)(r:V->Hp->VK->Prop):Prop:=
 ∀(pins:cJ) (s:af) (σ:St) (H:Hp) (x:V) (v:ae) (Q:VK),Inv X pins σ H s->RelV x v->r x H Q->
  ah (model X.prog X.w) X.A (f v) (EP X pins σ Q) X.xe s
def vT(X:Cx)(f:ae)(r:bN->Hp->VK->Prop):Prop:=
 ∀(pins:cJ) (s:af) (σ:St) (H:Hp) (xs:bN) (us:List ae) (Q:VK),Inv X pins σ H s->Vals xs us->r xs H Q->
  ah (model X.prog X.w) X.A (call f us) (EP X pins σ Q) X.xe s
def tOp(r:R2)(ta tb:TE):TE:=λσ H Q=>ta σ H λx H1=>tb σ H1 λy H2=>r x y H2 Q
def tUn(r:V->Hp->VK->Prop)(ta:TE):TE:=λσ H Q=>ta σ H λx H1=>r x H1 Q
def rI(C:Int->Int->Prop)(g:Int->Int->V):R2:=λx y H Q=>∃i j,x=.int i/\y=.int j/\C i j/\Q (g i j) H
def rI0(g:Int->Int->V):R2:=λx y H Q=>∃i j,x=.int i/\y=.int j/\Q (g i j) H
def rU(g:Int->V):V->Hp->VK->Prop:=λx H Q=>∃i,x=.int i/\Q (g i) H
section
variable{X:Cx}{a b c:Expr}{ta tb tc:TE}{pos:Pos}
def Xw(ha:PE X a ta)(hb:PE X b tb){pins:cJ}{s:af}{σ:St}{H:Hp}{R:V->V->Hp->Prop}(I:Inv X pins σ H s)
  (h:ta σ H λx H1=>tb σ H1 λy H2=>R x y H2) {Q:ae->af->Prop} {f:ae->ae->Sem ae}
  (hf:∀v u s2 x y H2,Inv X pins σ H2 s2->RelV x v->RelV y u->R x y H2->ah (model X.prog X.w) X.A (f v u) Q X.xe s2):
  ah (model X.prog X.w) X.A (eval a X.env) (λv s₁=>ah (model X.prog X.w) X.A (eval b X.env) (λu s₂=>ah (model X.prog X.w) X.A (f v u) Q X.xe s₂) X.xe s₁) X.xe s:=by
 calc thn (ha pins s σ H _ I h) λv s1 zz=>?_;let#v[x,H1,I1,r1,q1]:=zz;calc thn (hb pins s1 σ H1 _ I1 q1) λu s2 zz=>?_;let#v[y,H2,I2,r2,q2]:=zz;show hf v u s2 x y H2 I2 r1 r2 q2
def QN(ho:OpR X (cQ op) r)(ha:PE X a ta)(hb:PE X b tb):PE X (.BinOp a op b pos) (tOp r ta tb):=by
 sleep 11
 show wpAny_BinOp (Xw ha hb I h λv u s2 x y H2 I2 rx ry q=>ho pins s2 σ H2 x y v u Q I2 rx ry q)
def abc(ho:UnR X (unaryOp op) r)(ha:PE X a ta):PE X (.UnaryOp op a pos) (tUn r ta):=by
 sleep 11
 show UnaryOp_ (thn (ha pins s σ H _ I h) λv s1 ⟨x,H1,I1,r1,q1⟩=>ho pins s1 σ H1 x v Q I1 r1 q1)
def opI{f:ae->ae->Sem ae}{C:Int->Int->Prop}{g:Int->Int->Int}
  (rule:∀(i j:Int) (t u:Tok) (s:af) (Q:ae->af->Prop) (E:ae->af->Prop),C i j->Q (.int (g i j) s.toks) { s with toks:=s.toks+1 }->ah (model X.prog X.w) X.A (f (.int i t) (.int j u)) Q E s):
  OpR X f (rI C λi j=>.int (g i j)):=by
 intro pins s σ H x y v u Q I rx ry h;let#v[i,j,rfl,rfl,hc,q]:=h;let#v[t,rfl]:=rx;let#v[t',rfl]:=ry;show rule i j t t' s _ _ hc ⟨.int (g i j),H,I.tok _,⟨_,O⟩,q⟩
def Xx{f:ae->ae->Sem ae}{g:Int->Int->Int}
  (rule:∀(i j:Int) (t u:Tok) (s:af) (Q:ae->af->Prop) (E:ae->af->Prop),Q (.int (g i j) s.toks) { s with toks:=s.toks+1 }->ah (model X.prog X.w) X.A (f (.int i t) (.int j u)) Q E s):
  OpR X f (rI0 λi j=>.int (g i j)):=by
 intro pins s σ H x y v u Q I rx ry h;let#v[i,j,rfl,rfl,q]:=h;let#v[t,rfl]:=rx;let#v[t',rfl]:=ry;show rule i j t t' s _ _ ⟨.int (g i j),H,I.tok _,⟨_,O⟩,q⟩
def Us{f:ae->ae->Sem ae}{g:Int->Int->Bool}
  (rule:∀(i j:Int) (t u:Tok) (s:af) (Q:ae->af->Prop) (E:ae->af->Prop),Q (.bool (g i j)) s->ah (model X.prog X.w) X.A (f (.int i t) (.int j u)) Q E s):
  OpR X f (rI0 λi j=>.bl (g i j)):=by
 intro pins s σ H x y v u Q I rx ry h;let#v[i,j,rfl,rfl,q]:=h;let#v[t,rfl]:=rx;let#v[t',rfl]:=ry;show rule i j t t' s _ _ ⟨.bl (g i j),H,I,O,q⟩
def Xy(i j:Int):Prop:=0<j/\j<1073741824
def CPow(i j:Int):Prop:=0<=j/\j<=1000000/\i.natAbs<2 ^ 64
def Ut(i j:Int):Prop:=(-(2 ^ 64)<i/\i<2 ^ 64)\/(-(2 ^ 64)<j/\j<2 ^ 64)
def Ut.ok(h:Ut i j):IntMulOk i j:=by
 rcases h with ⟨h1,h2⟩|⟨h1,h2⟩
 .show .of_left (pF h1 h2)
 .show .of_right (pF h1 h2)
def MH(k:Nat):(0:Int)<=2 ^ k:=by rw[two_pow_cast];show Int.natCast_nonneg _
def Xz:OpR X (cQ .Add) (rI0 λi j=>.int (i+j)):=Xx λ_ _ _ _ _ _ _ q=>add_int q
def XA:OpR X (cQ .Sub) (rI0 λi j=>.int (i - j)):=Xx λ_ _ _ _ _ _ _ q=>sub_int q
def XB:OpR X (cQ .Mult) (rI Ut λi j=>.int (i * j)):=opI λ_ _ _ _ _ _ _ hc q=>mul_int q hc.ok
def Uu:OpR X (cQ .FloorDiv) (rI Xy λi j=>.int (i / j)):=opI λi j _ _ _ _ _ hc q=>by have h1:(0:Int)<j:=hc.1;have h2:j<1073741824:=hc.2;show floordiv_int () (by rw[mS i ()];show q) (.inl (PyProof.noPylong_small ()))
def XD:OpR X (cQ .Mod) (rI (λ_ j=>0<j) λi j=>.int (i % j)):=opI λi j _ _ _ _ _ hc q=>by have h1:(0:Int)<j:=hc;show mod_int' () (by rw[Int.fmod_eq_emod_of_nonneg i ()];show q)
def XE:OpR X (cQ .Pow) (rI CPow λi j=>.int (i ^ j.toNat)):=opI λ_ _ _ _ _ _ _ hc q=>pow_int_small hc.1 hc.2.1 hc.2.2 q
def XG:OpR X (cQ .RShift) (rI (λ_ j=>0<=j) λi j=>.int (i / 2 ^ j.toNat)):=opI λi j _ _ _ _ _ hc q=>
 rshift_int hc (by rw[mS i (MH _)];show q)
def XH:OpR X (cQ .BitAnd) (rI0 λi j=>.int (iu i j)):=Xx λ_ _ _ _ _ _ _ q=>and_int q
def unI{f:ae->Sem ae}{g:Int->Int}
  (rule:∀(i:Int) (t:Tok) (s:af) (Q:ae->af->Prop) (E:ae->af->Prop),Q (.int (g i) s.toks) { s with toks:=s.toks+1 }->ah (model X.prog X.w) X.A (f (.int i t)) Q E s):
  UnR X f (rU λi=>.int (g i)):=by
 intro pins s σ H x v Q I rx h;let#v[i,rfl,q]:=h;let#v[t,rfl]:=rx;show rule i t s _ _ ⟨.int (g i),H,I.tok _,⟨_,O⟩,q⟩
def XI:UnR X (unaryOp .USub) (rU λi=>.int (-i)):=unI λ_ _ _ _ _ q=>neg_int q
end
def QO:V->V->Bool
 |.non,.non=>γ|.non,.int _=>γ|.int _,.non=>γ|.non,.bl _=>γ|.bl _,.non=>γ|.non,.str _=>γ|.str _,.non=>γ
 |.int _,.int _=>γ|.bl _,.bl _=>γ|.str _,.str _=>γ|.byt _,.byt _=>γ
 |.int _,.str _=>γ|.str _,.int _=>γ|.bl _,.str _=>γ|.str _,.bl _=>γ
 |_,_=>δ
def rEq:R2:=λx y H Q=>QO x y=γ/\Q (.bl (decide (x=y))) H
def rNe:R2:=λx y H Q=>QO x y=γ/\Q (.bl (!decide (x=y))) H
def N0:decide (V.int i=V.int j)=(i==j):=by rw[dM];simp
def QP:decide (V.bl i=V.bl j)=(i==j):=by rw[dM];simp
def N1:decide (V.str i=V.str j)=(i==j):=by rw[dM];simp
def N2:decide (V.byt i=V.byt j)=(i.toList==j.toList):=by rw[dM];ext i;ext j;simp
section
variable{X:Cx}{a b c:Expr}{ta tb tc:TE}{pos:Pos}
def uA(I:Inv X pins σ H s)(q:Q (.bl k) H)(e:k=k'):EP X pins σ Q (.bool k') s:=by subst e;show⟨.bl k,H,I,O,q⟩
def abe:OpR X (bD .Eq) rEq:=by
 intro pins s σ H x y v u Q I rx ry h;let#v[hs,q]:=h;cases x with
 |non=>
  ext rx;cases y with
  |non=>ext ry;show q8 (uA I q (by simp))
  |bl j=>ext ry;show q9 (uA I q (by simp))
  |int j=>let#v[t',rfl]:=ry;show rA (uA I q (by simp))
  |str j=>let#v[t',rfl]:=ry;show rD (uA I q (by simp))
  |_=>show ar (show δ=γ from hs) bA
 |bl i=>
  ext rx;cases y with
  |non=>ext ry;show ra (uA I q (by simp))
  |bl j=>ext ry;show eq_bool (uA I q QP)
  |str j=>let#v[t',rfl]:=ry;show rb (uA I q (by simp))
  |_=>show ar (show δ=γ from hs) bA
 |int i=>
  let#v[t,rfl]:=rx;cases y with
  |non=>ext ry;show rE (uA I q (by simp))
  |int j=>let#v[t',rfl]:=ry;show eq_int (uA I q N0)
  |str j=>let#v[t',rfl]:=ry;show rF (uA I q (by simp))
  |_=>show ar (show δ=γ from hs) bA
 |str i=>
  let#v[t,rfl]:=rx;cases y with
  |non=>ext ry;show rG (uA I q (by simp))
  |bl j=>ext ry;show rg (uA I q (by simp))
  |int j=>let#v[t',rfl]:=ry;show rH (uA I q (by simp))
  |str j=>let#v[t',rfl]:=ry;show eq_str (uA I q N1)
  |_=>show ar (show δ=γ from hs) bA
 |byt i=>
  let#v[t,rfl]:=rx;cases y with
  |byt j=>let#v[t',rfl]:=ry;show W.eq_bytes (uA I q N2)
  |_=>show ar (show δ=γ from hs) bA
 |_=>ext y<;>show ar (show δ=γ from hs) bA
def abf:OpR X (bD .NotEq) rNe:=by
 intro pins s σ H x y v u Q I rx ry h;let#v[hs,q]:=h;cases x with
 |non=>
  ext rx;cases y with
  |non=>ext ry;show rj (uA I q (by simp))
  |bl j=>ext ry;show rl (uA I q (by simp))
  |int j=>let#v[t',rfl]:=ry;show rJ (uA I q (by simp))
  |str j=>let#v[t',rfl]:=ry;show rK (uA I q (by simp))
  |_=>show ar (show δ=γ from hs) bA
 |bl i=>
  ext rx;cases y with
  |non=>ext ry;show ro (uA I q (by simp))
  |bl j=>ext ry;show ne_bool (uA I q (bL not QP))
  |str j=>let#v[t',rfl]:=ry;show rp (uA I q (by simp))
  |_=>show ar (show δ=γ from hs) bA
 |int i=>
  let#v[t,rfl]:=rx;cases y with
  |non=>ext ry;show rL (uA I q (by simp))
  |int j=>let#v[t',rfl]:=ry;show ne_int (uA I q (bL not N0))
  |str j=>let#v[t',rfl]:=ry;show rM (uA I q (by simp))
  |_=>show ar (show δ=γ from hs) bA
 |str i=>
  let#v[t,rfl]:=rx;cases y with
  |non=>ext ry;show rN (uA I q (by simp))
  |bl j=>ext ry;show rq (uA I q (by simp))
  |int j=>let#v[t',rfl]:=ry;show rO (uA I q (by simp))
  |str j=>let#v[t',rfl]:=ry;show ne_str (uA I q (bL not N1))
  |_=>show ar (show δ=γ from hs) bA
 |byt i=>
  let#v[t,rfl]:=rx;cases y with
  |byt j=>let#v[t',rfl]:=ry;show W.ne_bytes (uA I q (bL not N2))
  |_=>show ar (show δ=γ from hs) bA
 |_=>ext y<;>show ar (show δ=γ from hs) bA
def abg:OpR X (bD .Lt) (rI0 λi j=>.bl (decide (i<j))):=Us λ_ _ _ _ _ _ _ q=>lt_int q
def abh:OpR X (bD .LtE) (rI0 λi j=>.bl (decide (i<=j))):=Us λ_ _ _ _ _ _ _ q=>le_int q
def abi:OpR X (bD .Gt) (rI0 λi j=>.bl (decide (j<i))):=Us λ_ _ _ _ _ _ _ q=>gt_int q
def abj:OpR X (bD .GtE) (rI0 λi j=>.bl (decide (j<=i))):=Us λ_ _ _ _ _ _ _ q=>ge_int q
def XJ:OpR X (bD .Is) (λx y H Q=>y=.non/\Q (.bl (decide (x=.non))) H):=by
 intro pins s σ H x y v u Q I rx ry h;let#v[rfl,q]:=h;ext ry;calc is_none_gen (uA I q ?_);ext x<;>first
  |(ext rx;rfl)
  |(let#v[t,rfl]:=rx;rfl)
def Uv:OpR X (bD .IsNot) (λx y H Q=>y=.non/\Q (.bl (!decide (x=.non))) H):=by
 intro pins s σ H x y v u Q I rx ry h;let#v[rfl,q]:=h;ext ry;calc isnot_none_gen (uA I q ?_);ext x<;>first
  |(ext rx;rfl)
  |(let#v[t,rfl]:=rx;rfl)
def Uw(ho:OpR X (bD op) r)(ha:PE X a ta)(hb:PE X b tb)(hm:fN op b=δ):PE X (.Compare a [op] [b] pos) (tOp r ta tb):=by
 sleep 11
 show wpAny_Compare1 (Xw ha hb I h λv u s2 x y H2 I2 rx ry q=>ho pins s2 σ H2 x y v u Q I2 rx ry q) hm
def QQ(t:TE):TT:=λσ H Q=>t σ H λx H'=>∃k,x=.bl k/\Q k H'
def Ux(ho:OpR X (bD op) r)(ha:PE X a ta)(hb:PE X b tb)(hm:fN op b=δ):PT X (.Compare a [op] [b] pos) (QQ (tOp r ta tb)):=by
 sleep 11
 refine ni (thn (ha pins s σ H _ I h) λv s1 ⟨x,H1,I1,r1,q1⟩=>thn (hb pins s1 σ H1 _ I1 q1) λu s2 ⟨y,H2,I2,r2,q2⟩=>
  thn (ho pins s2 σ H2 x y v u _ I2 r1 r2 q2) λc s3 ⟨z,H3,I3,r3,k,e,q3⟩=>?_) hm
 subst e;ext r3;show dm ⟨H3,I3,q3⟩
def MI(r r':R2)(ta tb tc:TE):TE:=λσ H Q=>ta σ H λx H1=>tb σ H1 λy H2=>r x y H2 λz H3=>∃k,z=.bl k/\
 (if k=γ then tc σ H3 λw' H4=>r' y w' H4 Q else Q (.bl δ) H3)
def QR(ho:OpR X (bD op) r)(ho':OpR X (bD op') r')(ha:PE X a ta)(hb:PE X b tb)(hc:PE X c tc)
  (hm:lastMarks [op,op'] [b,c]=δ:=by with_unfolding_all rfl):PE X (.Compare a [op,op'] [b,c] pos) (MI r r' ta tb tc):=by
 sleep 11
 refine Compare_chain (thn (ha pins s σ H _ I h) λv s1 ⟨x,H1,I1,r1,q1⟩=>chain_link (thn (hb pins s1 σ H1 _ I1 q1) λu s2 ⟨y,H2,I2,r2,q2⟩=>
  thn (ho pins s2 σ H2 x y v u _ I2 r1 r2 q2) λd s3 ⟨z,H3,I3,r3,k,e,q3⟩=>?_)) hm
 subst e;ext r3;calc dm ?_;cases k with
 |false=>show ite_ff ⟨.bl δ,H3,I3,O,q3⟩
 |true=>show ite_tt (chain_last (thn (hc pins s3 σ H3 _ I3 q3) λw' s4 ⟨z',H4,I4,r4,q4⟩=>ho' pins s4 σ H4 y z' u w' Q I4 r2 r4 q4))
def QS(ho:OpR X (bD op) r)(ho':OpR X (bD op') r')(ha:PE X a ta)(hb:PE X b tb)(hc:PE X c tc)
  (hm:lastMarks [op,op'] [b,c]=δ:=by with_unfolding_all rfl):PT X (.Compare a [op,op'] [b,c] pos) (QQ (MI r r' ta tb tc)):=by
 sleep 11
 refine isTrue_chain (thn (ha pins s σ H _ I h) λv s1 ⟨x,H1,I1,r1,q1⟩=>test_link (thn (hb pins s1 σ H1 _ I1 q1) λu s2 ⟨y,H2,I2,r2,q2⟩=>
  thn (ho pins s2 σ H2 x y v u _ I2 r1 r2 q2) λd s3 ⟨z,H3,I3,r3,k,e,q3⟩=>?_)) hm
 subst e;ext r3;calc dm ?_;cases k with
 |false=>let#v[k',e',q']:=q3;ext e';show ite_ff ⟨H3,I3,q'⟩
 |true=>calc ite_tt (test_last (thn (hc pins s3 σ H3 _ I3 q3) λw' s4 ⟨z',H4,I4,r4,q4⟩=>thn (ho' pins s4 σ H4 y z' u w' _ I4 r2 r4 q4) λd' s5 ⟨z2,H5,I5,r5,k2,e2,q5⟩=>?_));subst e2;ext r5;show dm ⟨H5,I5,q5⟩
def GZ:(aL:Nat)<2 ^ 63:=by rw[bR];decide
def vals1(r:Vals [x] us):∃u,us=[u]/\RelV x u:=by
 cases r with
 |cons r1 r2=>ext r2;show⟨_,O,r1⟩
def vals2(r:Vals [x,y] us):∃u w',us=[u,w']/\RelV x u/\RelV y w':=by
 cases r with
 |cons r1 r2=>
  cases r2 with
  |cons r3 r4=>ext r4;show⟨_,_,O,r1,r3⟩
end
structure MJ(h:Heap)(x dx C:Addr)(mA:Str->Option ae):Prop where
 obj:h.get? x=Z (eB C dx)
 ns:h.Ns1 dx mA
 ne:dx≠x
def Pm{h:Heap}(n:h.Ns1 dx mA):∃od,h.get? dx=Z od/\∀name,jz name od=Z (mA name):=by
 let#v[o,es,ep,ho,hd,hk,_,hm]:=n;calc⟨o,ho,λname=>?_⟩;have e:=hm name;delta nsFind findBy at e;rw[<-Array.find?_toList]at e;delta jz;rw[hd];dsimp only;split
 .rename_i y q;rw[q]at e;show bL Z e
 .rename_i q;rw[q]at e;have a:es.toList.any (·.refKey)=δ:=by rw[oa];intro y hy;let#v[z,t,hkey]:=hk y (Array.mem_toList_iff.mp hy);simp[DictEntry.refKey,hkey]
  have a':¬es.toList.any (·.refKey)=γ:=by rw[a];show bA
  rw[ak a'];show bL Z e
def MJ.look(I:MJ h x dx C mA):∃od,W.InstAt h x (eB C dx) C (Z od)/\∀name,jz name od=Z (mA name):=
 let ⟨od,ho,hl⟩:=Pm I.ns
 ⟨od,⟨I.obj,O,O,ho⟩,hl⟩
section
variable{prog:aO}{w:aF}{A:aP}{E:ae->af->Prop}{s:af}{K:av}{x dx C f:Addr}{mA:Str->Option ae}{name:Str}{v:ae}
def get_map(X:K.In s.heap)(I:MJ s.heap x dx C mA)(hg:ju K C name=γ)(hh:lX K C=γ)
  (ha:cR K (.ref C) name=Z J) (hv:mA name=Z v) (hv':W.handedIn v=γ) (h:Q v { s with toks:=s.toks+1 }):
  ah (model prog w) A (getAttr (.ref x) name expr) Q E s:=by
 let#v[od,At,hl]:=I.look;show W.get_value X At (lh hg).1 (W.findObj_own hh ha O (by rw[hl,hv])) hv' h
def QT(X:K.In s.heap)(I:MJ s.heap x dx C mA)(hg:ju K C name=γ)
  (hf:cR K (.ref C) name=Z (Z (.ref f))) (ht:jD K (.ref f)=γ) (hv:mA name=J) (h:Q (.ref f,[.ref x]) s):
  ah (model prog w) A (getMethod (.ref x) name pl) Q E s:=by
 let#v[od,At,hl]:=I.look;show W.method_fn X At (lh hg).1 (lh hg).2 hf (beq_iff_eq.mp ht) (by change (jz name od).map (·.isSome)=Z δ;rw[hl,hv];rfl) h
def Uy(X:K.In s.heap)(I:MJ s.heap x dx C mA)
  (hs:cR K (.ref C) "__setattr__" = Z (Z (.builtin "object.__setattr__"))) (hp:p5 K C=γ) (ht:l9 K C name=Z J) (hh:lX K C=γ)
  (hw:lF mA ns) (hsz:ns.length<=aL)
  (h:∀h',MJ h' x dx C (λy=>if y=name then Z v else mA y)->dt dx s.heap h'->Q Unit.unit { s with heap:=h',toks:=s.toks+2 }):
  ah (model prog w) A (setAttr (.ref x) name v) Q E s:=by
 let#v[od,At,hl]:=I.look;calc W.set_plain X At hs (W.osa_open (s:={ s with toks:=s.toks+1 }) (r:=J) X At hp ht λb=>?_);let#v[cd,hc,hd']:=W.any_some hh;have hx:s.heap.get? x=Z ⟨.ref C,Z dx,.plain,[].toArray⟩:=I.obj;calc ag (au (ag (ag (wpAny_loadPart hx (ag (W.Looks.here (s:={ s with toks:=s.toks+1 }) (W.looks_clsIn X hc) ?_))))));rw[hd'];calc au (a:=Z dx) (ag (au (ag ?_)));calc wpAny_nsSet1 (s:={ s with toks:=s.toks+1 }) I.ns λh' hn2 hs2=>?_;let#v[oD,esD,epD,hoD,hdD,hcD]:=hn2.count (sP name v hw);calc ag (wpAny_lookBehind hoD (by rw[hdD];show pastItsLine_dict (bM hcD (by rw[aT];omega))) ?_);show au (h _ ⟨(hs2.2 _ (dD I.ne)).trans I.obj,hn2,I.ne⟩ hs2)
def QU(X:K.In s.heap)(hm:ma K C=γ)
  (hi:cR K (.ref C) "__init__" = Z (Z (.ref f))) (hf:W.typeIn K (.ref f)=Z (.type "function"))
  (h:cf (model prog w) (A.under (.builtin "type.__call__" ⟨.ref C::vs,kw⟩)) (.call (.ref f) ⟨.ref (~~~s+1)::vs,kw⟩) (W.InitBack (~~~s+1) R)
   { s with heap:=(s.heap.push dR).push (eB C (~~~s)) }):
  cf (model prog w) A (.call (.ref C) ⟨vs,kw⟩) R s:=by
 let#v[hh,g,d,t,os]:=s;show p6 (l8 X hm) (pf X hi) (λself=>W.bind_fn X self hf) (.inl O) h
def Pn(X:K.In s.heap)(hm:ma K C=γ)
  (hi:cR K (.ref C) "__init__" = Z (Z (.builtin "object.__init__")))
  (hb:∀self,W.Looks (model prog w) s.heap (bindSpecial (.builtin "object.__init__") self) (.builtin "object.__init__", [self]))
  (h:cf (model prog w) (A.under (.builtin "type.__call__" ⟨[.ref C],[]⟩)) (.call (.builtin "object.__init__") ⟨[.ref (~~~s+1)],[]⟩) (W.InitBack (~~~s+1) R)
   { s with heap:=(s.heap.push dR).push (eB C (~~~s)) }):
  cf (model prog w) A (.call (.ref C) ⟨[],[]⟩) R s:=by
 let#v[hh,g,d,t,os]:=s;show p6 (l8 X hm) (pf X hi) hb (.inr ⟨O,O⟩) h
end
def Av(f:Str)(v:V):List (Str×V)->List (Str×V)
 |[]=>[(f,v)]
 |(g,x)::r=>if g=f then (g,v)::r else (g,x)::Av f v r
theorem Fs(f g:Str)(v:V):∀fs:List (Str×V),(Av f v fs).lookup g=if g=f then Z v else fs.lookup g
 |[]=>by
  change du g [(f,v)]=_;by_cases h:g=f
  .have hb:(g==f)=γ:=beq_iff_eq.mpr h;erw[du,hb,ao h]
  .have hb:(g==f)=δ:=beq_eq_false_iff_ne.mpr h;erw[du,hb,ak h]
 |(k,x)::r=>by
  have ih:=Fs f g v r;rw[show Av f v ((k,x)::r)=(if k=f then (k,v)::r else (k,x)::Av f v r) from O];by_cases hk:k=f
  .rw[ao hk];by_cases h:g=k
   .have hb:(g==k)=γ:=beq_iff_eq.mpr h;erw[du,hb,ao (h.trans hk)]
   .have hb:(g==k)=δ:=beq_eq_false_iff_ne.mpr h;erw[du,hb,ak (λe:g=f=>h (e.trans hk.symm))]
  .rw[ak hk];by_cases h:g=k
   .have hb:(g==k)=γ:=beq_iff_eq.mpr h;erw[du,hb,ak (λe:g=f=>hk (h.symm.trans e))]
   .have hb:(g==k)=δ:=beq_eq_false_iff_ne.mpr h;erw[du,hb];show ih
theorem EW(f:Str)(v:V):∀fs:List (Str×V),f∈(Av f v fs).map (·.1)/\∀g,g∈fs.map (·.1)->g∈(Av f v fs).map (·.1)
 |[]=>⟨by simp[Av],λg h=>by simp at h⟩
 |(k,x)::r=>by
  let#v[i1,i2]:=EW f v r;rw[show Av f v ((k,x)::r)=(if k=f then (k,v)::r else (k,x)::Av f v r) from O];by_cases hk:k=f
  .rw[ao hk];subst hk;show⟨by simp,λg h=>by exists h⟩
  .rw[ak hk];refine⟨?_,λg h=>?_⟩
   .rw[aN];show aU _ i1
   .rw[aN]at h ⊢;rcases aQ.mp h with e|e
    .show aQ.mpr (.inl e)
    .show aU _ (i2 g e)
theorem Ft(f:Str)(v:V):∀fs:List (Str×V),(Av f v fs).length<=fs.length+1
 |[]=>by simp[Av]
 |(k,x)::r=>by
  have ih:=Ft f v r;rw[show Av f v ((k,x)::r)=(if k=f then (k,v)::r else (k,x)::Av f v r) from O];by_cases hk:k=f
  .rw[ao hk,aT,aT];omega
  .rw[ak hk,aT,aT];omega
def BM.some_of(r:BM (Z v) o):∃u,o=Z u/\RelV v u:=by
 cases o with
 |none=>show(show False from r).elim
 |some u=>show⟨u,O,r⟩
def BM.none_of(r:BM J o):o=J:=by
 cases o with
 |none=>rfl
 |some u=>show(show False from r).elim
def Po(r:RelV v u):W.handedIn u=γ:=by
 cases v with
 |non=>cases (show u=Value.none from r);rfl
 |bl b=>cases (show u=Value.bool b from r);rfl
 |int i=>let#v[t,e]:=(show ∃t,u=Value.int i t from r);ext e;rfl
 |str x=>let#v[t,e]:=(show ∃t,u=Value.str x t from r);ext e;rfl
 |byt b=>let#v[t,e]:=(show ∃t,u=Value.bytes b t from r);ext e;rfl
 |flt b=>let#v[t,e]:=(show ∃t,u=Value.float b t from r);ext e;rfl
 |ref a=>cases (show u=Value.ref a from r);rfl
 |ty n=>cases (show u=Value.type n from r);rfl
section
variable{P:aO}{w:aF}{H H':Hp}{h h':Heap}{a C dx:Addr}{fs fs':List (Str×V)}
def DX(hok:HOk P w H h)(e:H a=Z (.ins C dx fs)):∃mA,MJ h a dx C mA/\(∀f,BM (fs.lookup f) (mA f))/\lF mA (fs.map (·.1))/\fs.length<=1000/\H dx=Z (.own a):=by let#v[d,z,ne,ob,mA,n,r,q]:=(show ObjOk P w H h a (.ins C dx fs) from hok a _ e);show⟨mA,⟨ob,n,ne⟩,r,q,z,d⟩
end
structure Cls(K:av)(C:Addr):Prop where
 pg:ju K C Str.empty=γ
 hd:lX K C=γ
 po:p5 K C=γ
 sa:cR K (.ref C) "__setattr__" = Z (Z (.builtin "object.__setattr__"))
def Cls.get{K:av}(c:Cls K C)(f:Str):ju K C f=γ:=c.pg
def zp(K:av)(C:Addr)(f:Str):Prop:=cR K (.ref C) f=Z J
def zp.taker{K:av}(n:zp K C f):l9 K C f=Z J:=by delta l9;rw[show cR K (.ref C) f=Z J from n];rfl
structure Meth(K:av)(C:Addr)(m:Str)(f:Addr):Prop where
 at_:cR K (.ref C) m=Z (Z (.ref f))
 fn:jD K (.ref f)=γ
 kp:dU K (.ref f)=γ
section
variable{X:Cx}{pins:cJ}{σ:St}{H:Hp}{s:af}{a C dx:Addr}{fs:List (Str×V)}{f:Str}{v:V}{A:aP}{E:ae->af->Prop}
def MK(I:Inv X pins σ H s)(e:H a=Z (.ins C dx fs))(c:Cls X.K C)(n:zp X.K C f)(l:fs.lookup f=Z v)
  (h:∀u s',Inv X pins σ H s'->RelV v u->Q u s'):ah (model X.prog X.w) A (getAttr (.ref a) f b) Q E s:=by
 let#v[mA,A',r,_,_,_]:=DX I.hok e;let#v[u,hu,ru]:=BM.some_of (v:=v) (o:=mA f) (by rw[<-l];show r f);show get_map I.kIn A' (c.get f) c.hd n hu (Po ru) (h u _ (I.tok _) ru)
def G0(I:Inv X pins σ H s)(e:H a=Z (.ins C dx fs))(c:Cls X.K C)(k:Meth X.K C m g)(l:fs.lookup m=J)
  (h:Q (.ref g,[.ref a]) s):ah (model X.prog X.w) A (getMethod (.ref a) m pl) Q E s:=by
 let#v[mA,A',r,_,_,_]:=DX I.hok e;have hn:mA m=J:=BM.none_of (by rw[<-l];show r m);show QT I.kIn A' (c.get m) k.at_ k.fn hn h
def ML(I:Inv X pins σ H s)(e:H a=Z (.ins C dx fs))(c:Cls X.K C)(n:zp X.K C f)(hl:fs.length<1000)(ry:RelV y u)
  (h:∀s',Inv X pins σ (upd H a (.ins C dx (Av f y fs))) s'->Q Unit.unit s'):ah (model X.prog X.w) A (setAttr (.ref a) f u) Q E s:=by
 let#v[mA,A',r,wi,_,ho]:=DX I.hok e;have hz:(fs.map (·.1)).length<=aL:=by rw[aq,bR];omega
 calc Uy I.kIn A' c.sa c.po n.taker c.hd wi hz λh' O' sb=>h _ ?_;have hd:∃o,h'.get? dx=Z o:=let ⟨o,_,_,e',_⟩:=O'.ns;⟨o,e'⟩;calc I.write (x:=a) (e:=dx) (by rw[e];show True.intro) (.inr ho) (λb q hb z=>(sb.2 b hb).trans z) hd ?_;refine⟨by rw[tT A'.ne];show ho,?_,A'.ne,O'.obj,_,O'.ns,λg=>?_,λg hg=>?_⟩
 .have:=Ft f y fs;omega
 .change BM ((Av f y fs).lookup g) (if g=f then Z u else mA g);rw[Fs];by_cases q:g=f
  .rw[ao q,ao q];show ry
  .rw[ak q,ak q];show r g
 .by_cases q:g=f
  .rw[q];show(EW f y fs).1
  .calc(EW f y fs).2 g (wi g λz=>hg ?_);change (if g=f then Z u else mA g)=J;rw[ak q];show z
def Inv.made(I:Inv X pins σ H s):Inv X pins σ (upd (upd H (~~~s) (.own (~~~s+1))) (~~~s+1) (.ins C (~~~s) []))
  { s with heap:=(s.heap.push dR).push (eB C (~~~s)) }:=by
 have e1:(s.heap.push dR).get? (~~~s)=Z dR:=bq s.heap O;have e2:((s.heap.push dR).push (eB C (~~~s))).get? (~~~s+1)=Z (eB C (~~~s)):=by
  have:=bq (s.heap.push dR) (o:=eB C (~~~s)) O
  rwa [b9]at this
 have e3:(s.heap.push dR).Ns (~~~s) (λ_=>J):=⟨dR,[].toArray,_,e1,O,(λe he=>ar he (by simp)),λ_=>O⟩;have I1:=I.laid (a:= ~~~s) (o:=.own (~~~s+1)) (h':=s.heap.push dR) (t':=s.toks) (λb u q=>aC _ q) (aS _) ⟨_,e1⟩;calc I1.laid (a:= ~~~s+1) (o:=.ins C (~~~s) []) (t':=s.toks) (λb u q=>aC _ q) (pS (b9 _ _)) ?_;have ne: ~~~s≠~~~s+1:=aV (dq _);calc⟨by rw[tT ne,tU],cc _,ne,e2,λ_=>J,(Heap.Ns1.of_empty e3).at λo q=>aC _ q,λ_=>True.intro,λy hy=>ar O hy⟩
def Uz(hb:eU e f env (eval e env)=eval e env)
  (h:ah (model prog w) A (eval e env) (λo s₁=>ah (model prog w) A (getAttr o f γ) Q E s₁) E s):ah (model prog w) A (eval (.Attribute e f pos) env) Q E s:=
 Attribute_any_ h (by rw[arm_eval_Attribute,hb])
end
def tFld(K:av)(ta:TE)(f:Str):TE:=λσ H Q=>ta σ H λx H1=>∃a C dx fs v,x=.ref a/\H1 a=Z (.ins C dx fs)/\Cls K C/\zp K C f/\fs.lookup f=Z v/\Q v H1
def sFld(K:av)(ta tv:TE)(f:Str):TS:=λD σ H=>tv σ H λy H1=>ta σ H1 λx H2=>∃a C dx fs,x=.ref a/\H2 a=Z (.ins C dx fs)/\Cls K C/\zp K C f/\fs.length<1000/\
 D.nx σ (upd H2 a (.ins C dx (Av f y fs)))
section
variable{X:Cx}{o e value:Expr}{f:Str}{pos pos' tpos:Pos}{ta tv:TE}
def XM(he:PE X e ta)(hb:eU e f X.env (eval e X.env)=eval e X.env):PE X (.Attribute e f pos) (tFld X.K ta f):=by
 sleep 11
 calc Uz hb (thn (he pins s σ H _ I h) λu s1 zz=>?_);let#v[x,H1,I1,rx,a,C,dx,fs,v,ex,ea,c,n,l,q]:=zz;subst ex;obtain rfl:u=Value.ref a:=rx;show MK I1 ea c n l λu' s2 I2 ru=>⟨v,H1,I2,ru,q⟩
def XN(ha:PE X o ta)(hv:PE X value tv)(hs:dB value (Z (.Attribute o f pos')) pos.line X.env=pure δ):PS X (.Assign [.Attribute o f pos'] value pos) (sFld X.K ta tv f):=by intro pins s σ H D I h;calc plainObj_wpAny_Assign_Attribute (thn (hv pins s σ H _ I h) λu s1 ⟨y,H1,I1,ry,q⟩=>thn (ha pins s1 σ H1 _ I1 q) λov s2 zz=>?_) hs;let#v[x,H2,I2,rx,a,C,dx,fs,ex,ea,c,n,l,q2]:=zz;subst ex;obtain rfl:ov=Value.ref a:=rx;show ML I2 ea c n l ry λs3 I3=>⟨σ,_,I3,q2⟩
end
section
variable{X:Cx}{pins:cJ}{σ:St}{H:Hp}{s:af}{A:aP}{E:ae->af->Prop}{Q:ae->af->Prop}{c:ae}{b:Bool}
inductive Gq(K:av) (H:Hp):V->ae->Prop where
 |non:Gq K H .non (.type "NoneType")
 |bl (x:Bool):Gq K H (.bl x) (.type "bool")
 |int (i:Int):Gq K H (.int i) (.type "int")
 |str (x:Str):Gq K H (.str x) (.type "str")
 |flt (x:UInt64):Gq K H (.flt x) (.type "float")
 |lst {a:Addr} {xs:bN} (e:H a=Z (.lst xs)):Gq K H (.ref a) (.type "list")
 |frz {a:Addr} {o:Obj} {xs:bN} (e:H a=Z (.frz o (.lst xs))):Gq K H (.ref a) (.type "list")
 |tup {a:Addr} {xs:bN} (e:H a=Z (.tup xs)):Gq K H (.ref a) (.type "tuple")
 |dK {a:Addr} {kvs:List (Key×V)} (e:H a=Z (.dK kvs)):Gq K H (.ref a) (.type "dict")
 |dT {a:Addr} {kvs:List (List Key×V)} (e:H a=Z (.dT kvs)):Gq K H (.ref a) (.type "dict")
 |ins {a C dx:Addr} {fs:List (Str×V)} (e:H a=Z (.ins C dx fs)) (cl:Cls K C) (ha:cR K (.ref C) "__class__" = Z (Z (.builtin "object.__class__")))
   (hn:p8 K (.builtin "object.__class__") "__get__" = Z (Z (.builtin "getset_descriptor.__get__"))) (htk:W.takesIn K (.builtin "object.__class__")=Z γ)
   (hm:W.mroIn K C (.type "object")=Z γ):Gq K H (.ref a) (.ref C)
def y8(I:Inv X pins σ H s)(rx:RelV x u)(ty:Gq X.K H x t)(e:dh X.K t c=Z b)(h:∀tk,Q (.bool b) { s with toks:=tk }):
  ah (model X.prog X.w) A (call (.builtin "isinstance") [u,c]) Q E s:=by
 cases ty with
 |non=>cases (show u=Value.none from rx);show cP p9 I.kIn True.intro e (λz=>nomatch z) h
 |bl y=>cases (show u=Value.bool y from rx);show cP qa I.kIn True.intro e (λz=>nomatch z) h
 |int i=>let#v[t,q]:=(show ∃t,u=Value.int i t from rx);ext q;show cP W.kitx_int I.kIn True.intro e (λz=>nomatch z) h
 |str y=>let#v[t,q]:=(show ∃t,u=Value.str y t from rx);ext q;show cP W.kitx_str I.kIn True.intro e (λz=>nomatch z) h
 |flt y=>let#v[t,q]:=(show ∃t,u=Value.float y t from rx);ext q;show cP W.kitx_float I.kIn True.intro e (λz=>nomatch z) h
 |@lst a xs ea=>cases (show u=Value.ref a from rx);let#v[_,_,n,_,h1]:=(show ObjOk X.prog X.w H s.heap a (.lst xs) from I.hok a _ ea);show cP iA I.kIn ⟨_,h1,O⟩ e (λz=>nomatch z) h
 |@frz a ob xs ea=>cases (show u=Value.ref a from rx);let#v[_,_,_,n,_,h1]:=(show ObjOk X.prog X.w H s.heap a (.frz ob (.lst xs)) from I.hok a _ ea);show cP iA I.kIn ⟨_,h1,O⟩ e (λz=>nomatch z) h
 |@tup a xs ea=>cases (show u=Value.ref a from rx);let#v[_,_,_,p]:=(show ObjOk X.prog X.w H s.heap a (.tup xs) from I.hok a _ ea);let#v[o,h1,h2,_]:=p;show cP lG I.kIn ⟨o,h1,h2⟩ e (λz=>nomatch z) h
 |@dK a kvs ea=>cases (show u=Value.ref a from rx);let#v[_,_,vs,_,p]:=(show ObjOk X.prog X.w H s.heap a (.dK kvs) from I.hok a _ ea);let#v[o,es,ep,h1,h2,_]:=p;show cP js I.kIn ⟨o,h1,h2.1⟩ e (λz=>nomatch z) h
 |@dT a kvs ea=>cases (show u=Value.ref a from rx);let#v[_,_,xs,_,o,es,ep,h1,h2,_]:=(show ObjOk X.prog X.w H s.heap a (.dT kvs) from I.hok a _ ea);show cP js I.kIn ⟨o,h1,h2.1⟩ e (λz=>nomatch z) h
 |@ins a C dx fs ea cl ha hn htk hm=>cases (show u=Value.ref a from rx);let#v[mA,A',_]:=DX I.hok ea;let#v[od,At,_]:=A'.look;show cP (W.kitx_own (cl.get _) cl.hd ha hn htk hm) I.kIn At e (λz=>nomatch z) h
end
structure v5(k:Nat)(A:aP):Prop where
 hd:A.handled=J
 dp:A.depth+3 * k+5<recursionLimit
 un:A.units+16 * k+200<cLine
def v5.mono(r:v5 k A)(h:j<=k):v5 j A:=⟨r.hd,by have:=r.dp;omega,by have:=r.un;omega⟩
theorem v5.deeper(r:v5 (k+1) A)(env:Env):v5 k (A.deeper env):=
 ⟨r.hd,by have:=r.dp;change A.depth+1+3 * k+5<_;omega,by have:=r.un;change A.units+3+16 * k+200<_;omega⟩
def MM{A:aP}:(A.under (.builtin "type.__call__" ⟨.ref C::us,kw⟩)).depth=A.depth+1:=by
 first|rfl|simp[lI,Code.weight,Code.isCreation,Code.isGuard,Code.isCaller,qb,lK,guardIds]
def MN{A:aP}:(A.under (.builtin "type.__call__" ⟨.ref C::us,kw⟩)).units=A.units+1:=by
 first|rfl|simp[lI,Code.cUnits,qb,lK]
def v5.make(r:v5 (k+1) A)(C:Addr)(us:List ae)(kw:List (Str×ae)):v5 k (A.under (.builtin "type.__call__" ⟨.ref C::us,kw⟩)):=
 ⟨r.hd,by have:=r.dp;rw[MM];omega,by have:=r.un;rw[MN];omega⟩
theorem v5.depth(r:v5 k A):A.depth<recursionLimit:=by have:=r.dp;omega
theorem v5.units(r:v5 k A):A.units+64<cLine:=by have:=r.un;omega
def IP:TA:=λ_ H Q=>Q [] H
def DY(ta:TE)(tr:TA):TA:=λσ H Q=>ta σ H λx H1=>tr σ H1 λxs H2=>Q (x::xs) H2
section
variable{X:Cx}{e:Expr}{es:List Expr}{te:TE}{t:TA}{pos:Pos}
def zq:PA X [] IP:=λ_ _ _ _ H Q I h=>fD ⟨[],H,I,.nil,h⟩
def wu(ha:PE X e te)(hr:PA X es t)(hs:aG (e::es) X.env=(δ,eval e X.env)::aG es X.env:=by rfl):PA X (e::es) (DY te t):=by intro pos pins s σ H Q I h;rw[hs];change ah _ _ (spliced ((δ,eval e X.env)::bJ pos (aG es X.env))) _ _ s;calc dZ (thn (ha pins s σ H _ I h) λu s1 zz=>?_);let#v[x,H1,I1,r1,q1]:=zz;show thn (hr pos pins s1 σ H1 _ I1 q1) λus s2 ⟨xs,H2,I2,r2,q2⟩=>⟨x::xs,H2,I2,.cons r1 r2,q2⟩
def tTup(t:TA):TE:=λσ H Q=>t σ H λxs H1=>xs.length<=aL/\∀p,H1 p=J->Q (.ref p) (upd H1 p (.tup xs))
def tLst(t:TA):TE:=λσ H Q=>t σ H λxs H1=>xs.length<=aL/\∀p,H1 p=J->Q (.ref p) (upd H1 p (.lst xs))
def QV{x1}(h:PA X es t):PE X (.Tuple es x1 pos) (tTup t):=by intro pins s σ H Q I hq;calc wpAny_Tuple_spliced (thn (h pos pins s σ H _ I hq) λus s1 ⟨xs,H1,I1,r,z,q⟩=>⟨by rw[<-r.length];show z,?_⟩);have hf:H1 (~~~s1)=J:=I1.hok.fresh (aS _);calc⟨.ref (~~~s1),upd H1 (~~~s1) (.tup xs),I1.laid (t':=s1.toks) (λb u e=>aC _ e) (aS _) ?_,O,q _ hf⟩;show⟨z,us,r,⟨_,bq _ O,O,_,O⟩⟩
def QW(h:PA X es t):PE X (.List es pos) (tLst t):=by intro pins s σ H Q I hq;calc wpAny_List_spliced (thn (h pos pins s σ H _ I hq) λus s1 ⟨xs,H1,I1,r,z,q⟩=>⟨by rw[<-r.length];show z,?_⟩);have hf:H1 (~~~s1)=J:=I1.hok.fresh (aS _);calc⟨.ref (~~~s1),upd H1 (~~~s1) (.lst xs),I1.laid (t':=s1.toks) (λb u e=>aC _ e) (aS _) ?_,O,q _ hf⟩;show⟨z,us,0,r,bq _ O⟩
end
abbrev Sp:=bN->Hp->VK->XK->Prop
abbrev CXT:=List Env->Hp->af->XK->ae->af->Prop
structure MO(P:aO)(w:aF)(K:av)(mg:Str->Option ae)(base:Heap)(A:aP)(outer:List Env)(s:af)(H:Hp):Prop where
 frames:A.frames=Z outer
 mod:Mod K mg base
 bs:∀b o,base.get? b=Z o->s.heap.get? b=Z o/\H b=J
 bsz:base.objs.size<= ~~~s
 funs:s.heap.FunFrames base outer
 frf:∀b∈frs outer,H b=J
 hok:HOk P w H s.heap
 bare:eC s.gens
def CE(outer:List Env)(P:aO)(w:aF)(H:Hp)(s:af)(Q:VK)(u:ae)(s':af):Prop:=
 ∃v H',s'.os=s.os/\eC s'.gens/\Un (frs outer) [] H H' s.heap s'.heap/\HOk P w H' s'.heap/\RelV v u/\Q v H'
def CR(CX:CXT)(outer:List Env)(P:aO)(w:aF)(H:Hp)(s:af)(Q:VK)(E:XK)(r:fY)(s':af):Prop:=
 match r with
 |.ok (.ret u)=>CE outer P w H s Q u s'
 |.ok _=>False
 |.error e=>CX outer H s E e s'
structure x9(P:aO)(w:aF)(K:av)(mg:Str->Option ae)(base:Heap)(CX:CXT)(k:Nat)(f:Addr)(fd:cv)(ps:aH)(sp:Sp):Prop where
 len:∀vs H Q E,sp vs H Q E->vs.length=ps.length
 run:∀(A:aP) (outer:List Env) (s:af) (H:Hp) (args:Args) (us:List ae) (vs:bN) (Q:VK) (E:XK),v5 k A->MO P w K mg base A outer s H->gG s fd args (ps.zip us)->Vals vs us->sp vs H Q E->
  cf (model P w) A (.call (.ref f) args) (CR CX outer P w H s Q E) s
theorem x9.mono{K:av}(F:x9 P w K mg base CX j f fd ps sp)(h:j<=k):
  x9 P w K mg base CX k f fd ps sp:=⟨F.len,λA outer s H args us vs Q E hr=>F.run A outer s H args us vs Q E (hr.mono h)⟩
theorem x9.imp{K:av}(F:x9 P w K mg base CX k f fd ps sp)
  (h:∀vs H Q E,sp' vs H Q E->sp vs H Q E):x9 P w K mg base CX k f fd ps sp':=
 ⟨λvs H Q E q=>F.len vs H Q E (h _ _ _ _ q),λA outer s H args us vs Q E hr he hb hv hs=>F.run A outer s H args us vs Q E hr he hb hv (h _ _ _ _ hs)⟩
def MO.make{K:av}(e:MO P w K mg base A outer s H)(C:Addr)(us:List ae)(kw:List (Str×ae)):
  MO P w K mg base (A.under (.builtin "type.__call__" ⟨.ref C::us,kw⟩)) outer s H:=⟨by first|show e.frames|(simpa [lI,Code.envs,lK,pushEnvs]using e.frames),e.mod,e.bs,e.bsz,e.funs,e.frf,e.hok,e.bare⟩
section
variable{X:Cx}{pins:cJ}{σ:St}{H:Hp}{s s':af}
def Inv.env0(I:Inv X pins σ H s):MO X.prog X.w X.K X.mg X.base X.A X.stack s H:=
 ⟨I.ok.frames,I.ok.mod,I.bs,bM I.ok.bsz I.sz,I.stack,I.stkFree,I.hok,I.bare⟩
def Inv.after(I:Inv X pins σ H s)(h:CE X.stack X.prog X.w H s Q u s'):EP X pins σ Q u s':=by let#v[v,H',os,bare,un,hok,r,q]:=h;let#v[hh,g,d,t,os']:=s';obtain rfl:os'=s.os:=os;show⟨v,H',I.call (h':=hh) (g':=g) (d':=d) (t':=t) (ch:=[]) un hok bare (λb z=>ar z (by simp)),r,q⟩
end
def G1(sp:Sp)(dvs:bN)(E:XK)(t:TA):TE:=λσ H Q=>t σ H λvs H1=>sp (vs++dvs) H1 Q E
def Wv(C:Addr)(sp:Sp)(dvs:bN)(E:XK)(t:TA):TE:=λσ H Q=>t σ H λvs H1=>∀x dx,H1 x=J->H1 dx=J->dx≠x->
 sp (.ref x::(vs++dvs)) (upd (upd H1 dx (.own x)) x (.ins C dx [])) (λv H2=>v=.non/\Q (.ref x) H2) E
def Binds(K:av)(fd:cv)(ps:aH)(ds:List ae):Prop:=
 ∀(s:af) (us:List ae),K.In s.heap->(us++ds).length=ps.length->gG s fd ⟨us,[]⟩ (ps.zip (us++ds))
def Binds.all{K:av}{ps:aH}(h:∀us:List ae,us.length=ps.length->bindArgs fd ⟨us,[]⟩=pure (ps.zip us)):Binds K fd ps []:=λs us _ hl=>by rw[bQ]at hl ⊢;show .of_eq (h us hl)
def Passes(CX:CXT)(X:Cx)(E:XK):Prop:=∀(pins:cJ) (σ:St) (H:Hp) (s:af) (e:ae) (s':af),Inv X pins σ H s->CX X.stack H s E e s'->X.xe e s'
section
variable{X:Cx}{CX:CXT}{k:Nat}{f C:Addr}{fd:cv}{ps:aH}{sp:Sp}{dvs:bN}{ds:List ae}{E:XK}{x m:Str}{p pos apos:Pos}{e o:Expr}{es:List Expr}{ta:TE}{t:TA}
theorem Kj(F:x9 X.prog X.w X.K X.mg X.base CX k f fd ps sp)(hr:v5 k X.A)(hb:Binds X.K fd ps ds)(hd:Vals dvs ds)(hx:Passes CX X E)
  (I:Inv X pins σ H s) (r:Vals vs us) (h:sp (vs++dvs) H Q E):ah (model X.prog X.w) X.A (call (.ref f) us) (EP X pins σ Q) X.xe s:=by
 have r2:Vals (vs++dvs) (us++ds):=r.append hd;have hl:(us++ds).length=ps.length:=by rw[<-r2.length];show F.len _ _ _ _ h
 calc jv (gv (F.run X.A X.stack s H ⟨us,[]⟩ (us++ds) (vs++dvs) Q E hr I.env0 (hb s us I.kIn hl) r2 h) λr s' hq=>?_);cases r with
 |error e=>show hx pins σ H s e s' I hq
 |ok fl=>
  cases fl with
  |ret u=>show I.after hq
  |next=>show cY hq
  |brk=>show cY hq
  |cont=>show cY hq
def N3(F:x9 X.prog X.w X.K X.mg X.base CX k f fd ps sp)(hr:v5 k X.A)(hg:Gl X x)(hm:X.mg x=Z (.ref f))(hk:dU X.K (.ref f)=γ)(hb:Binds X.K fd ps ds)(hd:Vals dvs ds)(hx:Passes CX X E)
  (ha:PA X (e::es) t) (hdb:(x==("__debug__" : Str))=δ:=by decide) (he:aG (e::es) X.env=(δ,eval e X.env)::aG es X.env:=by rfl) (hpl:(bJ pos (aG es X.env)).any (·.1)=δ:=by rfl):
  PE X (.Call (.Name x p) (e::es) [] pos) (G1 sp dvs E t):=by
 sleep 11
 calc dG (DV I hg hm ?_ hdb);calc lM (h₀:=X.base) I.ok.mod.kin hk (thn (ha pos pins s σ H _ I h) λus s1 ⟨vs,H1,I1,r,q⟩=>⟨I1.kIn,?_⟩) he hpl;show Kj F hr hb hd hx I1 r q
def QX(F:x9 X.prog X.w X.K X.mg X.base CX k f fd ps sp)(hr:v5 k X.A)(hg:Gl X x)(hm:X.mg x=Z (.ref f))(hk:dU X.K (.ref f)=γ)(hb:Binds X.K fd ps ds)(hd:Vals dvs ds)(hx:Passes CX X E)
  (hdb:(x==("__debug__" : Str))=δ:=by decide):PE X (.Call (.Name x p) [] [] pos) (G1 sp dvs E IP):=by
 sleep 11
 calc dG (DV I hg hm ?_ hdb);show lj I.kIn hk (Kj (us:=[]) F hr hb hd hx I .nil h)
structure Mk(K:av)(C f:Addr):Prop where
 makes:ma K C=γ
 init:cR K (.ref C) "__init__" = Z (Z (.ref f))
 fn:jD K (.ref f)=γ
 kp:dU K (.ref C)=γ
theorem QY(M:Mk X.K C f)(F:x9 X.prog X.w X.K X.mg X.base CX k f fd ps sp)(hr:v5 (k+1) X.A)(hb:Binds X.K fd ps ds)(hd:Vals dvs ds)
  (hx:Passes CX X E) (I:Inv X pins σ H s) (r:Vals vs us)
  (h:∀x dx,H x=J->H dx=J->dx≠x->sp (.ref x::(vs++dvs)) (upd (upd H dx (.own x)) x (.ins C dx [])) (λv H2=>v=.non/\Q (.ref x) H2) E):
  ah (model X.prog X.w) X.A (call (.ref C) us) (EP X pins σ Q) X.xe s:=by
 have hq:=h (~~~s+1) (~~~s) (I.hok.fresh (iB _)) (I.hok.fresh (aS _)) (aV (dq _));have I2:=Inv.made (C:=C) I;have r2:Vals (V.ref (~~~s+1)::(vs++dvs)) (Value.ref (~~~s+1)::(us++ds)):=.cons O (r.append hd);have hl:(Value.ref (~~~s+1)::us++ds).length=ps.length:=by have e:=r2.length;rw[F.len _ _ _ _ hq]at e;show e.symm
 refine jv (QU (f:=f) I.kIn M.makes M.init (beq_iff_eq.mp M.fn) (gv (F.run _ X.stack _ _ ⟨Value.ref (~~~s+1)::us,[]⟩ (Value.ref (~~~s+1)::(us++ds)) _ _ E (hr.make C us [])
  (I2.env0.make C us []) (hb _ (Value.ref (~~~s+1)::us) I2.kIn hl) r2 hq) λr s' hq'=>?_))
 cases r with
 |error e=>show hx pins σ _ _ e s' I2 hq'
 |ok fl=>
  cases fl with
  |ret u=>let#v[v,H',I3,rv,ev,q3]:=I2.after hq';subst ev;show⟨rv,⟨V.ref (~~~s+1),H',I3,O,q3⟩⟩
  |next=>show cY hq'
  |brk=>show cY hq'
  |cont=>show cY hq'
def UA(M:Mk X.K C f)(F:x9 X.prog X.w X.K X.mg X.base CX k f fd ps sp)(hr:v5 (k+1) X.A)(hg:Gl X x)(hm:X.mg x=Z (.ref C))(hb:Binds X.K fd ps ds)(hd:Vals dvs ds)(hx:Passes CX X E)
  (ha:PA X (e::es) t) (hdb:(x==("__debug__" : Str))=δ:=by decide) (he:aG (e::es) X.env=(δ,eval e X.env)::aG es X.env:=by rfl) (hpl:(bJ pos (aG es X.env)).any (·.1)=δ:=by rfl):
  PE X (.Call (.Name x p) (e::es) [] pos) (Wv C sp dvs E t):=by
 sleep 11
 calc dG (DV I hg hm ?_ hdb);calc lM (h₀:=X.base) I.ok.mod.kin M.kp (thn (ha pos pins s σ H _ I h) λus s1 ⟨vs,H1,I1,r,q⟩=>⟨I1.kIn,?_⟩) he hpl;show QY M F hr hb hd hx I1 r q
end
structure wx(N P:aH)(sc:c5):Prop where
 kind:sc.kind=.function
 co:sc.isCoroutine=δ
 gen:sc.isGenerator=δ
 nd:N.Nodup
 pre:N.take P.length=P
 par:∀x∈P,sc.names.lookup x=Z .local\/sc.names.lookup x=Z .cell
 nofree:∀y∈sc.names,y.2≠.free
theorem Jh{kindOf:Str->Option dW}:∀{binds:List (Str×ae)} {m:Str->Option ae},(∀v,(x,v)∉binds)->bindL kindOf binds m x=m x
 |[],_,_=>rfl
 |(n,v)::r,m,h=>by
  delta bindL;rw[Jh λw hw=>h w (aU _ hw)];split
  .have:x≠n:=by rintro rfl;show h v aR
   simp[this]
  .rfl
theorem Ji{kindOf:Str->Option dW}:∀{binds:List (Str×ae)} {m:Str->Option ae},(∀v,(x,v)∉binds)->bindC kindOf binds m x=m x
 |[],_,_=>rfl
 |(n,v)::r,m,h=>by
  delta bindC;rw[Ji λw hw=>h w (aU _ hw)];split
  .rfl
  .have:x≠n:=by rintro rfl;show h v aR
   simp[this]
theorem Jj{kindOf:Str->Option dW}:∀{P:aH} {vs:List ae} {i:Nat} {m:Str->Option ae},P.Nodup->P[i]?=Z x->vs[i]?=Z v->kindOf x=Z .local->
  bindL kindOf (P.zip vs) m x=Z v
 |[],_,_,_,_,h,_,_=>by simp at h
 |_::_,[],_,_,_,_,h,_=>by simp at h
 |p::P,w::vs,0,m,nd,h1,h2,hk=>by simp at h1 h2;subst h1;subst h2;change bindL kindOf ((p,w)::P.zip vs) m p=_;delta bindL;rw[Jh λv hv=>(dg.mp nd).1 (jj hv).1,ao hk];simp
 |p::P,w::vs,i+1,m,nd,h1,h2,hk=>by change bindL kindOf ((p,w)::P.zip vs) m x=_;delta bindL;show Jj (i:=i) (dg.mp nd).2 (by exists h1) (by exists h2) hk
theorem Jk{kindOf:Str->Option dW}:∀{P:aH} {vs:List ae} {i:Nat} {m:Str->Option ae},P.Nodup->P[i]?=Z x->vs[i]?=Z v->kindOf x≠Z .local->
  bindC kindOf (P.zip vs) m x=Z v
 |[],_,_,_,_,h,_,_=>by simp at h
 |_::_,[],_,_,_,_,h,_=>by simp at h
 |p::P,w::vs,0,m,nd,h1,h2,hk=>by simp at h1 h2;subst h1;subst h2;change bindC kindOf ((p,w)::P.zip vs) m p=_;delta bindC;rw[Ji λv hv=>(dg.mp nd).1 (jj hv).1,ak hk];simp
 |p::P,w::vs,i+1,m,nd,h1,h2,hk=>by change bindC kindOf ((p,w)::P.zip vs) m x=_;delta bindC;show Jk (i:=i) (dg.mp nd).2 (by exists h1) (by exists h2) hk
def start(N:aH)(vs:bN):St:=vs.map Z++jm (N.length - vs.length) J
def Lk(CX:CXT)(P:aO)(w:aF)(K:av)(mg:Str->Option ae)(base:Heap)(N:aH)(qual:Str)(scope:c5)(f:Addr)(cd:ae)(A:aP)(outer:List Env)(s:af)(H:Hp)(E:XK):Cx where
 prog:=P
 w:=w
 K:=K
 mg:=mg
 base:=base
 A:=A.deeper (envOfC qual scope (~~~s) f cd)
 N:=N
 s₀:=s
 H₀:=H
 env:=envOfC qual scope (~~~s) f cd
 outer:=outer
 stack:=envOfC qual scope (~~~s) f cd::outer
 ex:=[]
 calm:=γ
 fn:=λ_=>γ
 pn:=[]
 xe:=λe s'=>ah (model P w) (A.deeper (envOfC qual scope (~~~s) f cd)) (leaving (envOfC qual scope (~~~s) f cd) e) (λ_ s''=>CX outer H s E e s'') (λe' s''=>CX outer H s E e' s'') s'
def Ll{sc:c5}(h:sc.names.lookup x=Z .cell):∃c,(cellsFrom n sc.names []).lookup x=Z c:=by have q:=oM sc.names n [] (.inl h);show Option.isSome_iff_exists.mp q
def Pp{K:av}{A:aP}{vs:bN}
  (S:wx N ps scope) (hd:A.handled=J) (e0:MO P w K mg base A outer s H) (hl:vs.length=ps.length) (r:Vals vs us)
  (x:InCallC s (~~~s) (bindL (envOfC qual scope (~~~s) f cd).kindOf (ps.zip us) λ_=>J) (cellsFrom (~~~s+1) scope.names []) (bindC (envOfC qual scope (~~~s) f cd).kindOf (ps.zip us) λ_=>J) s1):
  Inv (Lk CX P w K mg base N qual scope f cd A outer s H E) [] (start N vs) H s1:=by
 have hpl:ps.length<=N.length:=by have:=bL eZ S.pre;rw[cO]at this;omega
 let#v[h1,tk,rfl,hk]:=x.done;have noA:∀b:Addr,b∉(Lk CX P w K mg base N qual scope f cd A outer s H E).ex:=λb z=>ar (show b∈([]:List Addr) from z) (by simp);refine⟨⟨e0.mod,S.kind,O,O,aS _,λy z c h1 h2=>?_,λy hy=>?_,λy c _ h=>?_,λ_=>hd,Around.frames_deeper e0.frames,.inr ⟨O,O⟩,λb z=>ar z (noA b),e0.bs,e0.bsz,λb _ _=>noA b,λb z=>ar z (noA b),e0.funs,e0.frf⟩,
  rfl,e0.bare,Un.kept hk,⟨_,x.toInCall.ns,λi y v h1 h2 h3=>?_⟩,λy c h=>⟨_,x.cell y c h⟩,e0.hok.fresh (aS _),λy c h=>?_,λp hp=>ar (show p∈([]:cJ) from hp) (by simp),e0.hok.kept hk,?_⟩
 .show name_of_addr x.apart (ib h1) (ib h2)
 .have hy:scope.names.lookup y=Z .cell\/scope.names.lookup y=Z .free:=hy;rcases hy with hy|hy
  .show Ll hy
  .show ar O (S.nofree _ (ib hy))
 .show gu (x.above y c (ib h))
 .have hi:i<vs.length:=by
   delta start at h2;by_cases hi:i<vs.length
   .show hi
   .rw[fw (by exists hi)]at h2;rw[iV]at h2;split at h2<;>ext h2
  have ha:vs[i]?=Z v:=by
   delta start at h2;rw[fz (by exists hi),bC]at h2;cases e:vs[i]? with
   |none=>rw[e]at h2;cases h2
   |some a=>rw[e]at h2;ext h2;rfl
  let#v[u,hu,rv]:=r.get ha;have hp:ps[i]?=Z y:=by rw[<-S.pre,List.getElem?_take_of_lt ()];show h1
  have ndP:ps.Nodup:=by rw[<-S.pre];show S.nd.sublist (kE _ _)
  calc⟨u,rv,?_⟩;rcases S.par y (cG hp)with k|k
  .show .inl ⟨k,Jj ndP hp hu k⟩
  .let#v[c,e]:=Ll (n:= ~~~s+1) k;calc .inr ⟨.inl k,c,e,?_⟩;have q:=x.cell y c e;rw[Jk ndP hp hu (by change scope.names.lookup y≠_;rw[k];decide)]at q;show q
 .show e0.hok.fresh (gu (x.above y c (ib h)))
 .delta start;change _=N.length;rw[aM,aq,c6];omega
def Ww{K:av}{kV:ae}
 (lk:K.lookup f=Z ⟨oc,od,.func (eD name qual params body scope dV kV doc pm an cdv ct),osl⟩) (hcd:gA K cdv qual=γ) (S:wx N ps scope)
  (len:∀vs H Q E,sp vs H Q E->vs.length=ps.length)
  (hbody:∀(A:aP) (outer:List Env) (s:af) (H:Hp) (vs:bN) (Q:VK) (E:XK),v5 k (A.deeper (envOfC qual scope (~~~s) f cdv))->sp vs H Q E->
   ∃t,PSs (Lk CX P w K mg base N qual scope f cdv A outer s H E) body t/\t { nx:=λ_ H'=>Q .non H',rt:=Q } (start N vs) H):
  x9 P w K mg base CX (k+1) f (eD name qual params body scope dV kV doc pm an cdv ct) ps sp:=by
 calc⟨len,λA outer s H args us vs Q E hr e0 hb r hsp=>?_⟩;have hl:=len _ _ _ _ hsp;have KX:K.In s.heap:=e0.mod.kin.keeps λb o e=>(e0.bs b o e).1;have lim:s.heap.NoLimit:=e0.mod.nolimit.keeps λb o e=>(e0.bs b o e).1;have hkind:∀y∈ps.zip us,scope.names.lookup y.1=Z .local\/(scope.names.lookup y.1=Z .cell/\((cellsFrom (~~~s+1) scope.names []).lookup y.1).isSome=γ):=λ⟨n,v⟩ hy=>by
  rcases S.par n (jj hy).1 with q|q
  .show .inl q
  .show .inr ⟨q,oM _ _ _ (.inl q)⟩
 calc codeAny_call_function hr.depth (KX _ _ lk) O S.co S.gen O (W.codeRec_of KX hcd) (hb _ _ _ _ ?_);calc wpAny_newFunctionEnv_cells S.kind hkind λenv he s1 x=>?_;subst he;calc⟨lim.keeps x.toInCall.keep,codeAny_func ?_⟩;let#v[t,ht,hq]:=hbody A outer s H vs Q E (hr.deeper _) hsp;have I:Inv (Lk CX P w K mg base N qual scope f cdv A outer s H E) [] (start N vs) H s1:=Pp S hr.hd e0 hl r x;calc bZ (ht [] s1 (start N vs) H _ I hq) (λfl s' hs=>?_) λe s' hs=>hs;have fin:∀{σ':St} {H':Hp} {v:V} {u:ae},Inv (Lk CX P w K mg base N qual scope f cdv A outer s H E) [] σ' H' s'->RelV v u->Q v H'->CE outer P w H s Q u s':=
  λ{σ' H' v u} At rv q=>⟨v,H',At.os,At.bare,At.base,At.hok,rv,q⟩
 cases fl with
 |ret u=>let#v[v,σ',H',At,rv,q]:=hs;show fin At rv q
 |next=>let#v[σ',H',At,q]:=hs;show fin (v:=V.non) (u:=Value.none) At O q
 |brk=>let#v[_,_,_,q]:=hs;show cY q
 |cont=>let#v[_,_,_,q]:=hs;show cY q
section
variable{X:Cx}{x:Str}{p pos:Pos}{e:Expr}{es:List Expr}{t:TA}{id T:String}{r:bN->Hp->VK->Prop}
def tCB(r:bN->Hp->VK->Prop)(t:TA):TE:=λσ H Q=>t σ H λvs H1=>r vs H1 Q
def DZ(hc:vT X (.builtin id) r)(hg:Gl X x)(hm:X.mg x=J)(hv:dP x=Z (.builtin id))(ha:PA X (e::es) t)(hn:x≠"__name__" := by decide)(hdb:(x==("__debug__" : Str))=δ:=by decide)
  (he:aG (e::es) X.env=(δ,eval e X.env)::aG es X.env:=by rfl) (hpl:(bJ pos (aG es X.env)).any (·.1)=δ:=by rfl):PE X (.Call (.Name x p) (e::es) [] pos) (tCB r t):=by
 sleep 11
 calc dG (AX I hg hm hv ?_ hn hdb);show callWith_builtin1 (thn (ha pos pins s σ H _ I h) λus s1 ⟨vs,H1,I1,r1,q1⟩=>hc pins s1 σ H1 vs us Q I1 r1 q1) he hpl
def Pq(hc:vT X (.type T) r)(hg:Gl X x)(hm:X.mg x=J)(hv:dP x=Z (.type T))(ha:PA X (e::es) t)(hn:x≠"__name__" := by decide)(hdb:(x==("__debug__" : Str))=δ:=by decide)
  (he:aG (e::es) X.env=(δ,eval e X.env)::aG es X.env:=by rfl) (hpl:(bJ pos (aG es X.env)).any (·.1)=δ:=by rfl):PE X (.Call (.Name x p) (e::es) [] pos) (tCB r t):=by
 sleep 11
 calc dG (AX I hg hm hv ?_ hn hdb);show callWith_type1 (thn (ha pos pins s σ H _ I h) λus s1 ⟨vs,H1,I1,r1,q1⟩=>hc pins s1 σ H1 vs us Q I1 r1 q1) he hpl
end
end L2
namespace HT
open PySem PyProof.Rows
section
variable{prog:aO}{w:aF}{A:aP}{E:ae->af->Prop}{s:af}
def UB{vs ws:List ae}(ht:gL s.heap t vs.toArray)(hb:gL s.heap b ws.toArray)(hv:vs≠[])
  (h1:ws=[]->Q (.ref t) s) (h2:ws≠[]->Q (.ref (~~~s)) { s with heap:=s.heap.push { cls:=.type "tuple", data:=.seq (vs++ws).toArray } })
  (hsz:vs.length+ws.length<=aL):ah (model prog w) A (cQ .Add (.ref t) (.ref b)) Q E s:=by
 let#v[#v[cls,dd,data,sl],ho,hc,n,hd]:=id ht;let#v[#v[cls2,dd2,data2,sl2],ho2,hc2,n2,hd2]:=id hb;simp only at hc hd hc2 hd2;subst hc hd hc2 hd2;have e:vs.toArray++ws.toArray=(vs++ws).toArray:=by simp
 by_cases hw:ws=[]
 .show concat_meets ⟨_,ho,O⟩ ⟨_,ho2,O⟩ oN pG oO og (nX _ _)
   (tuple_addW1 t b vs.toArray ws.toArray n n2 dd dd2 sl sl2 (by exists hv) (by simp[hw])) ⟨ho,ho2,h1 hw⟩
 .refine concat_meets ⟨_,ho,O⟩ ⟨_,ho2,O⟩ oN pG oO og (nX _ _)
   (tuple_addW2 t b vs.toArray ws.toArray n n2 dd dd2 sl sl2 (by exists hv) (by exists hw) (by rw[bB,bB];show hsz)) ⟨ho,ho2,?_⟩
  rw[e];show h2 hw
def sIx(n d:Nat):Option Int->Nat
 |none=>d
 |some v=>if v<0 then (v+(n:Int)).toNat else min v.toNat n
def QZ(n d:Nat):sIx n d J=d:=rfl
def UC(n d k:Nat):sIx n d (Z (k:Int))=min k n:=by change (if (k:Int)<0 then ((k:Int)+(n:Int)).toNat else min (k:Int).toNat n)=min k n;rw[ak (),d5]
end
end HT
namespace L2
open PySem PySem.Spec PyProof.Rows
abbrev TO:=St->Hp->(Option Int->Hp->Prop)->Prop
def PO(X:Cx)(e:Option Expr)(t:TO):Prop:=
 ∀(pins:cJ) (s:af) (σ:St) (H:Hp) (Q:Option Int->Hp->Prop),Inv X pins σ H s->t σ H Q->
  ah (model X.prog X.w) X.A (evalPart e X.env) (λu s'=>∃o H',Inv X pins σ H' s'/\IsPart u o/\Q o H') X.xe s
def UD:TO:=λ_ H Q=>Q J H
def abn(t:TE):TO:=λσ H Q=>t σ H λx H1=>∃i,x=.int i/\Q (Z i) H1
section
variable{X:Cx}{e:Expr}{te:TE}{lo hi:Option Expr}{tl th:TO}{pos p2:Pos}
def UE:PO X J UD:=by
 sleep 11
 rw[pH];show au ⟨J,H,I,.none,h⟩
def N4(h:PE X e te):PO X (Z e) (abn te):=by intro pins s σ H Q I hw;rw[evalPart_some];calc thn (h pins s σ H _ I hw) λu s1 zz=>?_;let#v[x,H1,I1,r1,q1]:=zz;let#v[i,rfl,q]:=q1;let#v[t,rfl]:=r1;show⟨Z i,H1,I1,.int i t,q⟩
def SlR(X:Cx)(r:V->Option Int->Option Int->Hp->VK->Prop):Prop:=
 ∀(pins:cJ) (s:af) (σ:St) (H:Hp) (x:V) (v vl vu:ae) (lo hi:Option Int) (sl:Addr) (Q:VK),Inv X pins σ H s->RelV x v->s.heap.IsSliceOf sl vl vu .none->IsPart vl lo->IsPart vu hi->r x lo hi H Q->
  ∃T id,typeLookup (.type T) "__getitem__" = pure (Z (.builtin id))/\s.TypeIs v T/\ah (model X.prog X.w) X.A (getItem v (.ref sl)) (EP X pins σ Q) X.xe s
def tSl(r:V->Option Int->Option Int->Hp->VK->Prop)(te:TE)(tl th:TO):TE:=λσ H Q=>te σ H λx H1=>tl σ H1 λl H2=>th σ H2 λu H3=>r x l u H3 Q
def Lm(hr:SlR X r)(he:PE X e te)(hl:PO X lo tl)(hu:PO X hi th):PE X (.Subscript e (.Slice lo hi J p2) pos) (tSl r te tl th):=by
 sleep 11
 calc l4 (thn (he pins s σ H _ I h) λv s1 zz=>?_);let#v[x,H1,I1,r1,q1]:=zz;calc wpAny_Slice (thn (hl pins s1 σ H1 _ I1 q1) λvl s2 ⟨l,H2,I2,pl,q2⟩=>thn (hu pins s2 σ H2 _ I2 q2) λvu s3 zz=>?_);let#v[u,H3,I3,pu,q3]:=zz;rw[pH];calc au ?_;have I4:Inv X pins σ H3 { s3 with heap:=s3.heap.push { cls:=.type "slice", data:=.fields #[vl,vu,.none] } }:=I3.kept (t':=s3.toks) λb ob q=>aC _ q;let#v[T,id,hT,ht,hg]:=hr pins { s3 with heap:=s3.heap.push { cls:=.type "slice", data:=.fields #[vl,vu,.none] } } σ H3 x v vl vu l u (~~~s3) Q I4 r1 (sL ..) pl pu q3;change ah (model X.prog X.w) X.A (subscriptTail e (.Slice lo hi J p2) v (.ref (~~~s3))) (EP X pins σ Q) X.xe { s3 with heap:=s3.heap.push { cls:=.type "slice", data:=.fields #[vl,vu,.none] } };show tail_any (ops:=[.ref (~~~s3),v]) ht hT hg (by with_unfolding_all rfl)
def Pt(xs:bN)(lo hi:Option Int):bN:=(xs.drop (HT.sIx xs.length 0 lo)).take (HT.sIx xs.length xs.length hi - HT.sIx xs.length 0 lo)
def Ln(xs:bN)(lo hi:Option Int):(Pt xs lo hi).length<=xs.length:=by delta Pt;rw[cO,jh];omega
def abo(K:av):R2:=λx y H Q=>∃a b xs ys,x=.ref a/\y=.ref b/\SqT K H a xs/\SqT K H b ys/\xs≠[]/\xs.length+ys.length<=aL/\
 (ys=[]->Q (.ref a) H)/\(ys≠[]->∀p,H p=J->Q (.ref p) (upd H p (.tup (xs++ys))))
def Vals.nil_iff(r:Vals xs us):us=[] ↔ xs=[]:=by
 cases r with
 |nil=>simp
 |cons _ _=>simp
def UF:OpR X (cQ .Add) (abo X.K):=by intro pins s σ H x y v u Q I rx ry h;let#v[a,b,xs,ys,rfl,rfl,ha,hb,hx,hz,q1,q2]:=h;ext rx;ext ry;let#v[its,r1,p1,_]:=I.tuple ha;let#v[its2,r2,p2,_]:=I.tuple hb;calc HT.UB p1 p2 (λz=>hx (r1.nil_iff.mp z)) (λz=>⟨.ref a,H,I,O,q1 (r2.nil_iff.mp z)⟩) (λz=>?_) (by rw[<-r1.length,<- r2.length];show hz);calc⟨.ref (~~~s),_,I.laid (t':=s.toks) (o:=.tup (xs++ys)) (λb ob q=>aC _ q) (aS _) ?_,O,q2 (λw=>z (r2.nil_iff.mpr w)) _ (I.hok.fresh (aS _))⟩;show⟨by rw[aM];show hz,_,r1.append r2,qj _ _⟩
end
def ixN(n:Nat)(i:Int):Option Nat:=if 0<=i then (if i<n then Z i.toNat else J)else if -(n:Int)<=i then Z (i+n).toNat else J
def atI{α:Type}(xs:List α)(i:Int):Option α:=(ixN xs.length i).bind λj=>xs[j]?
def UG(h:ixN n i=Z j):seqIndex? i n=Z j/\j<n/\-(n:Int)<=i/\i<n:=by
 delta ixN at h;by_cases h0:0<=i
 .rw[ao h0]at h;by_cases h1:i<n
  .rw[ao h1]at h;have e:i.toNat=j:=cy h;show⟨by rw[seqIndex_of h0 h1,e],by omega,by omega,h1⟩
  .rw[ak h1]at h;ext h
 .rw[ak h0]at h;by_cases h1:-(n:Int)<=i
  .rw[ao h1]at h;have e:(i+n).toNat=j:=cy h;show⟨by rw[seqIndex_neg () h1,e],by omega,h1,by omega⟩
  .rw[ak h1]at h;ext h
def Kk{α:Type}{xs:List α}{i:Int}{v:α}(h:atI xs i=Z v):∃j,seqIndex? i xs.length=Z j/\xs[j]?=Z v/\j<xs.length/\-(xs.length:Int)<=i/\i<xs.length:=by
 delta atI at h;cases e:ixN xs.length i with
 |none=>rw[e]at h;cases h
 |some j=>rw[e]at h;let#v[h1,h2,h3,h4]:=UG e;show⟨j,h1,h,h2,h3,h4⟩
def AY{α:Type}{xs:List α}{j:Nat}{v:α}(h:xs[j]?=Z v):atI xs (j:Int)=Z v:=by
 have hj:j<xs.length:=(ck.mp h).1;have e:ixN xs.length (j:Int)=Z j:=by delta ixN;rw[ao (),ao ()];simp
 delta atI;rw[e];show h
def N5(b:Expr):Prop:=∀o i,subscripted b δ o i=operate [o,i] (getItem o i)
def IxR(X:Cx)(r:R2):Prop:=
 ∀(value slice:Expr) (pins:cJ) (s:af) (σ:St) (H:Hp) (x y:V) (v u:ae) (Q:VK),Inv X pins σ H s->RelV x v->RelV y u->r x y H Q->
  subscripted slice δ v u=operate [v,u] (getItem v u)->ah (model X.prog X.w) X.A (subscriptTail value slice v u) (EP X pins σ Q) X.xe s
def MtR(X:Cx)(id:String)(r:V->bN->Hp->VK->Prop):Prop:=
 ∀(pins:cJ) (s:af) (σ:St) (H:Hp) (x:V) (xs:bN) (v:ae) (us:List ae) (Q:VK),Inv X pins σ H s->RelV x v->Vals xs us->r x xs H Q->
  ah (model X.prog X.w) X.A (call (.builtin id) (v::us)) (EP X pins σ Q) X.xe s
section
variable{X:Cx}{a b:Expr}{ta tb:TE}{pos:Pos}
def IxR.or(h:IxR X r)(h':IxR X r'):IxR X (λx y H Q=>r x y H Q\/r' x y H Q):=by
 intro value slice pins s σ H x y v u Q I rx ry q hs;rcases q with q|q
 .show h value slice pins s σ H x y v u Q I rx ry q hs
 .show h' value slice pins s σ H x y v u Q I rx ry q hs
def abp(hr:IxR X r)(ha:PE X a ta)(hb:PE X b tb)(hs:N5 b):PE X (.Subscript a b pos) (tOp r ta tb):=by
 sleep 11
 show l4 (Xw ha hb I h λv u s2 x y H2 I2 rx ry q=>hr a b pins s2 σ H2 x y v u Q I2 rx ry q (hs _ _))
def rIxL(K:av):R2:=λx y H Q=>∃p xs i v,x=.ref p/\y=.int i/\SqL K H p xs/\atI xs i=Z v/\Q v H
def rIxT(K:av):R2:=λx y H Q=>∃p xs i v,x=.ref p/\y=.int i/\SqT K H p xs/\atI xs i=Z v/\Q v H
def rIxS:R2:=λx y H Q=>∃z i c,x=.str z/\y=.int i/\z.length<=aL/\atI z.cps.toList i=Z c/\Q (.str ⟨#[c]⟩) H
def UH:IxR X (rIxL X.K):=by
 intro value slice pins s σ H x y v u Q I rx ry h hs;let#v[p,xs,i,z,rfl,rfl,hq,he,q]:=h;ext rx;let#v[t,rfl]:=ry;let#v[its,r,pl,hz]:=I.list hq;let#v[j,h1,h2,h3,h4,h5]:=Kk he;let#v[w,ew,rw']:=r.get h2;have hl:=r.length;have hn:=GZ;have fin:EP X pins σ Q w s:=⟨z,H,I,rw',q⟩;by_cases h0:0<=i
 .have hj:i.toNat=j:=by rw[seqIndex_of h0 h5]at h1;show cy h1
  show item_listR pl.isList h0 () (by rw[hj];exists ew) fin hs
 .have hj:(i+(its.toArray.size:Int)).toNat=j:=by rw[seqIndex_neg () h4]at h1;rw[bB,<- hl];show cy h1
  show m7 (x:=w) pl.isList.typeIs oh.lookup
   (wpAny_getItem_list_neg (Q:=λr s'=>r=w/\EP X pins σ Q r s') pl.isList () (by rw[bB]<;>omega) () (by rw[hj];exists ew) ⟨O,fin⟩) hs
def XO:IxR X (rIxT X.K):=by
 intro value slice pins s σ H x y v u Q I rx ry h hs;let#v[p,xs,i,z,rfl,rfl,hq,he,q]:=h;ext rx;let#v[t,rfl]:=ry;let#v[its,r,pl,hz]:=I.tuple hq;let#v[j,h1,h2,h3,h4,h5]:=Kk he;let#v[w,ew,rw']:=r.get h2;have hl:=r.length;have hn:=GZ;have fin:EP X pins σ Q w s:=⟨z,H,I,rw',q⟩;show m7 (x:=w) pl.typeIs slot_tuple_getitem.lookup
  (getItem_tuple (j:=j) (Q:=λr s'=>r=w/\EP X pins σ Q r s') pl () () (by rw[bB,<- hl];show h1) (by exists ew) ⟨O,fin⟩) hs
def XQ:IxR X rIxS:=by
 intro value slice pins s σ H x y v u Q I rx ry h hs;let#v[z,i,c,rfl,rfl,hz,he,q]:=h;let#v[t,rfl]:=rx;let#v[t',rfl]:=ry;let#v[j,h1,h2,h3,h4,h5]:=Kk he;have hl:z.cps.toList.length=z.length:=by simp[Str.length]
 rw[hl]at h1 h4 h5;have hn:=GZ;show tail_any (typeIs_str s z t) slot_str_getitem.lookup (getItem_str (c:=c) (by
  have e1:decide (i < -(2 ^ 63:Int))=δ:=bj ();have e2:decide (i >= 2 ^ 63)=δ:=bj ();rw[e1,e2,Bool.or_false]) (by rw[h1];exists h2) ⟨.str ⟨#[c]⟩,H,I.tok _,⟨_,O⟩,q⟩) hs
def rIx(K:av):R2:=λx y H Q=>rIxL K x y H Q\/rIxT K x y H Q\/rIxS x y H Q
def XR:IxR X (rIx X.K):=UH.or (XO.or XQ)
def Kl(lo hi:Option Int)(n:Nat):(sliceBounds lo hi J n).1=((HT.sIx n 0 lo:Nat):Int)/\(sliceBounds lo hi J n).2.1=((HT.sIx n n hi:Nat):Int)/\(sliceBounds lo hi J n).2.2=1:=by
 refine⟨?_,?_,O⟩
 .cases lo with
  |none=>simp[sliceBounds,HT.sIx]
  |some i=>
   erw[sliceBounds,HT.sIx,oP,show (1:Int) > 0 by decide,if_true];by_cases h:i<0
   .erw[h,if_true]<;>omega
   .erw[h,if_false]<;>omega
 .cases hi with
  |none=>simp[sliceBounds,HT.sIx]
  |some i=>
   erw[sliceBounds,HT.sIx,oP,show (1:Int) > 0 by decide,if_true];by_cases h:i<0
   .erw[h,if_true]<;>omega
   .erw[h,if_false]<;>omega
def IQ(its:List ae)(lo hi:Option Int):slicePick its.toArray lo hi J=((its.drop (HT.sIx its.length 0 lo)).take (HT.sIx its.length its.length hi - HT.sIx its.length 0 lo)).toArray:=by let#v[h1,h2,h3]:=Kl lo hi its.toArray.size;delta slicePick;rw[h1,h2,h3];erw[sliceRange_one,pick_run,bB]<;>rfl
def Pu(K:av):V->Option Int->Option Int->Hp->VK->Prop:=λx lo hi H Q=>∃a xs,x=.ref a/\SqL K H a xs/\∀p,H p=J->Q (.ref p) (upd H p (.lst (Pt xs lo hi)))
def UI:SlR X (Pu X.K):=by intro pins s σ H x v vl vu lo hi sl Q I rx hs pl pu h;let#v[a,xs,rfl,hx,q]:=h;ext rx;let#v[its,r,ht,hz]:=I.list hx;have hlen:=r.length;calc⟨"list", _,oh.lookup,ht.isList.typeIs,?_⟩;calc wpAny_getItem_list_slice ht.isList hs pl pu .none (by simp) ?_ (by rw[bB]<;>omega);rw[IQ,<- hlen];calc⟨.ref (~~~s),_,I.laid (t':=s.toks) (o:=.lst (Pt xs lo hi)) (λb ob q=>aC _ q) (aS _) ?_,O,q _ (I.hok.fresh (aS _))⟩;show⟨bM (Ln xs lo hi) hz,_,0,(r.drop (HT.sIx xs.length 0 lo)).take (HT.sIx xs.length xs.length hi - HT.sIx xs.length 0 lo),bq _ O⟩
def CU:V->Bool
 |.non=>γ
 |.bl _=>γ
 |.int _=>γ
 |.str _=>γ
 |_=>δ
def eqV:V->V->Bool
 |.non,.non=>γ
 |.bl a,.bl b=>a==b
 |.bl a,.int b=>(if a then 1 else 0)==b
 |.int a,.bl b=>a==(if b then 1 else 0)
 |.int a,.int b=>a==b
 |.str a,.str b=>a==b
 |_,_=>δ
def G2(ry:RelV y u)(rx:RelV x v)(fy:CU y=γ)(fx:CU x=γ):jw A s u v (eqV y x):=by
 cases y with
 |non=>
  ext ry;cases x with
  |non=>ext rx;show kN _
  |bl b=>ext rx;show r9 b
  |int b=>let#v[t,rfl]:=rx;show nL b t
  |str b=>let#v[t,rfl]:=rx;show nM b t
  |_=>show ar (show δ=γ from fx) bA
 |bl a=>
  ext ry;cases x with
  |non=>ext rx;show sd a
  |bl b=>ext rx;show se a b
  |int b=>let#v[t,rfl]:=rx;show sv a b t
  |str b=>let#v[t,rfl]:=rx;show sy a b t
  |_=>show ar (show δ=γ from fx) bA
 |int a=>
  let#v[t',rfl]:=ry;cases x with
  |non=>ext rx;show nN a t'
  |bl b=>ext rx;show sA a t' b
  |int b=>let#v[t,rfl]:=rx;show sM a t' b t
  |str b=>let#v[t,rfl]:=rx;show nV a t' b t
  |_=>show ar (show δ=γ from fx) bA
 |str a=>
  let#v[t',rfl]:=ry;cases x with
  |non=>ext rx;show nO a t'
  |bl b=>ext rx;show sC a t' b
  |int b=>let#v[t,rfl]:=rx;show nW a t' b t
  |str b=>let#v[t,rfl]:=rx;show ky a t' b t
  |_=>show ar (show δ=γ from fx) bA
 |_=>show ar (show δ=γ from fy) bA
def eqU(x:V)(u:ae):Bool:=match u with
 |.none=>eqV .non x
 |.bool b=>eqV (.bl b) x
 |.int i _=>eqV (.int i) x
 |.str z _=>eqV (.str z) x
 |_=>δ
def Q0(r:RelV y u)(f:CU y=γ):eqU x u=eqV y x:=by
 cases y with
 |non=>ext r;rfl
 |bl b=>ext r;rfl
 |int i=>let#v[t,rfl]:=r;rfl
 |str z=>let#v[t,rfl]:=r;rfl
 |_=>show ar (show δ=γ from f) bA
theorem D1:∀{xs:bN} {us:List ae},Vals xs us->xs.all CU=γ->us.any (eqU x)=xs.any λy=>eqV y x
 |_,_,.nil,_=>rfl
 |y::xs,u::us,.cons r t,f=>by rw[fO,aW]at f;rw[fP,fP,Q0 r f.1,D1 t f.2]
theorem BN(rx:RelV x v)(fx:CU x=γ):∀{xs:bN} {us:List ae},Vals xs us->xs.all CU=γ->∀u∈us,jw A s u v (eqU x u)
 |_,_,.nil,_=>λu hu=>by cases hu
 |y::xs,u::us,.cons r t,f=>λu' hu=>by
  rw[fO,aW]at f;rcases aQ.mp hu with rfl|hu
  .rw[Q0 r f.1];show G2 r rx f.1 fx
  .show BN rx fx t f.2 u' hu
def inV(x:V)(xs:bN):Bool:=xs.any λy=>eqV y x
def rIn(K:av)(neg:Bool):R2:=λx y H Q=>∃p xs,y=.ref p/\(SqL K H p xs\/SqT K H p xs)/\CU x=γ/\xs.all CU=γ/\Q (.bl (if neg then !inV x xs else inV x xs)) H
def Pw:OpR X (bD .In) (rIn X.K δ):=by
 intro pins s σ H x y v u Q I rx ry h;let#v[p,xs,rfl,hq,fx,fs,q]:=h;ext ry;rcases hq with hq|hq
 .let#v[its,r,pl,hz]:=I.list hq;calc SeqAt.in_listAt (eqU x) pl.isList (λw hw=>BN rx fx r fs w (by exists hw)) ⟨.bl _,H,I,O,?_⟩;rw[show its.toArray.any (eqU x)=its.any (eqU x) by simp,D1 r fs];show q
 .let#v[its,r,pl,hz]:=I.tuple hq;calc SeqAt.in_tupleAt (eqU x) pl (λw hw=>BN rx fx r fs w (by exists hw)) ⟨.bl _,H,I,O,?_⟩;rw[show its.toArray.any (eqU x)=its.any (eqU x) by simp,D1 r fs];show q
def Km:OpR X (bD .NotIn) (rIn X.K γ):=by
 intro pins s σ H x y v u Q I rx ry h;let#v[p,xs,rfl,hq,fx,fs,q]:=h;ext ry;rcases hq with hq|hq
 .let#v[its,r,pl,hz]:=I.list hq;calc SeqAt.notIn_listAt (eqU x) pl.isList (λw hw=>BN rx fx r fs w (by exists hw)) ⟨.bl _,H,I,O,?_⟩;rw[show its.toArray.any (eqU x)=its.any (eqU x) by simp,D1 r fs];show q
 .let#v[its,r,pl,hz]:=I.tuple hq;calc SeqAt.notIn_tupleAt (eqU x) pl (λw hw=>BN rx fx r fs w (by exists hw)) ⟨.bl _,H,I,O,?_⟩;rw[show its.toArray.any (eqU x)=its.any (eqU x) by simp,D1 r fs];show q
def Kn:vT X (.builtin "len") (λxs H Q=>∃p ys,xs=[.ref p]/\(SqL X.K H p ys\/SqT X.K H p ys)/\Q (.int ys.length) H):=by
 intro pins s σ H xs us Q I r h;let#v[p,ys,rfl,hq,q]:=h;let#v[u,rfl,rx]:=vals1 r;ext rx;have hn:=GZ;rcases hq with hq|hq
 .let#v[its,r',pl,hz]:=I.list hq;have hlen:=r'.length;show Calls.call_len_list pl.isList (by erw[bB]<;>omega) ⟨.int ys.length,H,I.tok _,⟨s.toks+1,by rw[bB,hlen]⟩,q⟩
 .let#v[its,r',pl,hz]:=I.tuple hq;have hlen:=r'.length;show len_tuple pl (by erw[bB]<;>omega) ⟨.int ys.length,H,I.tok _,⟨s.toks+1,by rw[bB,hlen]⟩,q⟩
def Ko:vT X (.builtin "len") (λxs H Q=>∃z,xs=[.str z]/\z.length<=aL/\Q (.int z.length) H):=by intro pins s σ H xs us Q I r h;let#v[z,rfl,hz,q]:=h;let#v[u,rfl,t,rfl]:=vals1 r;have hn:=GZ;show len_str () ⟨.int z.length,H,I.tok _,⟨_,O⟩,q⟩
def Kp:vT X (.type "list") (λxs H Q=>∃p ys,xs=[.ref p]/\(SqL X.K H p ys\/SqT X.K H p ys)/\∀l,H l=J->Q (.ref l) (upd H l (.lst ys))):=by
 intro pins s σ H xs us Q I r h;let#v[p,ys,rfl,hq,q]:=h;let#v[u,rfl,rx]:=vals1 r;ext rx;have fin:∀(its:List ae),Vals ys its->ys.length<=aL->∀(h':Heap) (c':Nat),(∀b o',s.heap.get? b=Z o'->h'.get? b=Z o')->
   h'.get? (~~~s)=Z { cls:=.type "list", dict:=J,data:=.seq its.toArray c',slots:=[].toArray }->EP X pins σ Q (.ref (~~~s)) { s with heap:=h' }:=λits r' hz h' c' kp e=>
  ⟨.ref (~~~s),_,I.laid (t':=s.toks) kp (aS _) (show ObjOk X.prog X.w _ h' _ (.lst ys) from⟨hz,its,c',r',e⟩),O,q _ (I.hok.fresh (aS _))⟩
 rcases hq with hq|hq
 .let#v[its,r',pl,hz]:=I.list hq;have hlen:=r'.length;let#v[o,ho,hc,n,hd]:=pl.isList;show pI p (.inl O) ho hc hd (λh' c' kp e=>fin its r' hz h' c' kp e) (by erw[bB]<;>omega)
 .let#v[its,r',pl,hz]:=I.tuple hq;have hlen:=r'.length;let#v[o,ho,hc,n,hd]:=pl;show pI p (.inr O) ho hc hd (λh' c' kp e=>fin its r' hz h' c' kp e) (by erw[bB]<;>omega)
def IR:vT X (.type "tuple") (λxs H Q=>∃p ys,xs=[.ref p]/\((SqL X.K H p ys/\∀l,H l=J->Q (.ref l) (upd H l (.tup ys)))\/(SqT X.K H p ys/\Q (.ref p) H))):=by
 intro pins s σ H xs us Q I r h;let#v[p,ys,rfl,h]:=h;let#v[u,rfl,rx]:=vals1 r;ext rx;rcases h with ⟨hq,q⟩|⟨hq,q⟩
 .let#v[its,r',pl,hz]:=I.list hq;have hlen:=r'.length;calc call_tuple_list pl.isList (λh' kp=>?_) (by erw[bB]<;>omega);have I1:Inv X pins σ H { s with heap:=h' }:=I.kept (t':=s.toks) kp;have I2:Inv X pins σ (upd H h'.objs.size (.tup ys)) { s with heap:=h'.push { cls:=.type "tuple", data:=.seq its.toArray } }:=
   I1.laid (t':=s.toks) (λb o e=>aC _ e) (aS _) (show ObjOk X.prog X.w _ _ _ (.tup ys) from⟨hz,its,r',qj _ _⟩)
  show⟨.ref h'.objs.size,_,I2,O,q _ (I1.hok.fresh (aS _))⟩
 .let#v[its,r',pl,hz]:=I.tuple hq;show call_tuple_same pl ⟨.ref p,H,I,O,q⟩
def tyV(K:av)(T:String)(x:V)(H:Hp):Prop:=match x with
 |.str _=>T="str"
 |.int _=>T="int"
 |.ref p=>(T="list" /\ ∃xs,SqL K H p xs)\/(T="tuple" /\ ∃o,K.lookup p=Z o/\o.cls=.type "tuple" /\ o.dict=J)\/
   (T="dict" /\ ((∃kvs,H p=Z (.dK kvs))\/∃kvs,H p=Z (.dT kvs)))\/(T="set" /\ ∃S n,H p=Z (.set S n))
 |_=>False
def XS(I:Inv X pins σ H s)(r:RelV x v)(ty:tyV X.K T x H):
  s.TypeIs v T/\∀a,v=.ref a->∃ob,s.heap.get? a=Z ob/\ob.dict=J:=by
 cases x with
 |str z=>let#v[t,rfl]:=r;cases (show T="str" from ty);show⟨typeIs_str s z t,λ_ e=>nomatch e⟩
 |int i=>let#v[t,rfl]:=r;cases (show T="int" from ty);show⟨typeIs_int s i t,λ_ e=>nomatch e⟩
 |ref p=>
  ext r;rcases ty with ⟨rfl,xs,hq⟩|⟨rfl,o,hk,hc,hd⟩|⟨rfl,hk⟩|⟨rfl,S,n,hk⟩
  .let#v[its,_,pl,_]:=I.list hq;calc⟨pl.isList.typeIs,λa e=>?_⟩;ext e;let#v[o,n,e,c,hd,_]:=pl;show⟨o,e,hd⟩
  .calc⟨⟨o,I.kIn p o hk,hc⟩,λa e=>?_⟩;ext e;show⟨o,I.kIn _ o hk,hd⟩
  .have z:∃o,s.heap.get? p=Z o/\o.ExactDict:=by
    rcases hk with ⟨kvs,hk⟩|⟨kvs,hk⟩
    .let#v[_,_,_,_,o,_,_,e,ex,_]:=I.hok p _ hk;show⟨o,e,ex⟩
    .let#v[_,_,_,_,o,_,_,e,ex,_]:=I.hok p _ hk;show⟨o,e,ex⟩
   let#v[o,e,ex]:=z;calc⟨⟨o,e,ex.1⟩,λa e2=>?_⟩;ext e2;show⟨o,e,ex.2.1⟩
  .let#v[o,_,_,_,e,ex,_]:=I.hok p _ hk;calc⟨⟨o,e,ex.1⟩,λa e2=>?_⟩;ext e2;show⟨o,e,ex.2.1⟩
 |_=>show cY ty
def tBM(K:av)(T:String)(r:V->bN->Hp->VK->Prop)(to:TE)(t:TA):TE:=λσ H Q=>to σ H λx H1=>tyV K T x H1/\t σ H1 λxs H2=>r x xs H2 Q
variable{o e:Expr}{es:List Expr}{to:TE}{t:TA}{name:Str}{apos cpos:Pos}{T id:String}{r:V->bN->Hp->VK->Prop}
def abu(pa:l5 T)(slot:Slot T name id)(hty:typeOf (.builtin id)=pure (.type "method_descriptor"))(hm:MtR X id r)(ho:PE X o to)(ha:PA X (e::es) t)
  (hbase:eU o name X.env (eval o X.env)=eval o X.env:=by rfl)
  (hfew:((bJ cpos (aG (e::es) X.env)).all (λx=>!x.1)&&(backToKw cpos (dS [] X.env)).all (λx=>x.1.isSome)
   && decide ((e::es).length+([]:List fj).length+(if ([]:List fj).isEmpty then 0 else 1)<30))=γ:=by rfl)
  (hline:(apos.endLine==cpos.line)=γ:=by rfl) (hs:aG (e::es) X.env=(δ,eval e X.env)::aG es X.env:=by rfl) (hplain:(bJ cpos (aG es X.env)).any (·.1)=δ:=by rfl):
  PE X (.Call (.Attribute o name apos) (e::es) [] cpos) (tBM X.K T r to t):=by
 sleep 11
 calc wpAny_Call_method_late hbase hfew hline O (thn (ho pins s σ H _ I h) λv s1 zz=>?_);let#v[x,H1,I1,r1,ty,q1]:=zz;let#v[h1,h2]:=XS I1 r1 ty;calc⟨T,id,pa,slot,hty,h1,h2,?_⟩;have hA:=ha cpos pins s1 σ H1 _ I1 q1;rw[hs]at hA ⊢;refine hJ (by change (δ||(bJ cpos (aG es X.env)).any (·.1))=δ;rw[hplain]<;>rfl) (ia ?_)
 show thn hA λus s2 ⟨vs,H2,I2,r2,q2⟩=>hm pins s2 σ H2 x vs v us Q I2 r1 r2 q2
end
def MtM(X:Cx)(id:String)(r:V->bN->Hp->VK->Prop):Prop:=
 ∀(pins:cJ) (s:af) (σ:St) (H:Hp) (x:V) (xs:bN) (v:ae) (us:List ae) (Q:VK),Inv X pins σ H s->RelV x v->Vals xs us->r x xs H Q->
  ah (model X.prog X.w) X.A (call (.builtin id) (v::us)) (EP X pins σ Q) X.xe s
def Vals.one:∀{x:V} {us:List ae},Vals [x] us->∃u,us=[u]/\RelV x u
 |_,_,.cons r .nil=>⟨_,O,r⟩
section
variable{X:Cx}{pins:cJ}{σ:St}{H:Hp}{s:af}{l b:Addr}{xs ys zs:bN}
def Inv.lset{its its':List ae}(I:Inv X pins σ H s)(hH:H l=Z (.lst xs))
  (e:s.heap.get? l=Z { cls:=.type "list", data:=.seq its.toArray n }) (hf:f its.toArray=its'.toArray) (hv:Vals ys its') (hz:ys.length<=aL):
  Inv X pins σ (upd H l (.lst ys)) { s with heap:=s.heap.update l (dA f),toks:=t' }:=by
 have q:=PySem.IsL.update e f;rw[hf]at q;calc I.write (x:=l) (e:=l) (by rw[hH];show trivial) (.inl O) (λb' u hb hu=>(hU s.heap (dA f) (dD hb)).trans hu) ⟨_,q⟩ ?_;show⟨hz,its',_,hv,q⟩
def Inv.lnew(I:Inv X pins σ H s)(hv:Vals ys its)(hz:ys.length<=aL):
  Inv X pins σ (upd H (~~~s) (.lst ys)) { s with heap:=s.heap.push { cls:=.type "list", data:=.seq its.toArray },toks:=t' }:=
 I.laid (λ_ _ q=>aC _ q) (aS _) ⟨hz,its,0,hv,bq _ O⟩
theorem Inv.fresh(I:Inv X pins σ H s):H (~~~s)=J:=I.hok.fresh (aS _)
def Inv.lstM(I:Inv X pins σ H s)(hH:H l=Z (.lst xs)):xs.length<=aL/\∃(its:List ae) (n:Nat),Vals xs its/\xs.length=its.length/\s.heap.get? l=Z { cls:=.type "list", data:=.seq its.toArray n }:=by let#v[z,its,n,r,e]:=I.hok l _ hH;show⟨z,its,n,r,r.length,e⟩
def Lo(h:n<=aL):hG n=δ:=by delta hG;show bj ()
end
section
variable{X:Cx}
def Kq:V->bN->Hp->VK->Prop:=λx vs H Q=>∃l xs y,x=.ref l/\vs=[y]/\H l=Z (.lst xs)/\xs.length<aL/\Q .non (upd H l (.lst (xs++[y])))
theorem EX:MtM X "list.append" Kq:=by intro pins s σ H x vs v us Q I rx rv h;let#v[l,xs,y,rfl,rfl,hH,hz,q]:=h;ext rx;let#v[u,rfl,ru]:=rv.one;let#v[z,its,n,r,hl,e]:=I.lstM hH;calc l6 kz ⟨_,e,O⟩ F.entry_list_append (F.args_list_append_2 _ _) (PySem.list_append l its.toArray n u (by rw[bB];omega)) ⟨e,?_⟩;calc⟨.non,_,I.lset (its':=its++[u]) hH e (by simp) (r.append (.cons ru .nil)) ?_,O,q⟩;rw[aM,cW];omega
def N6:V->bN->Hp->VK->Prop:=λx vs H Q=>∃l b xs zs,x=.ref l/\vs=[.ref b]/\H l=Z (.lst xs)/\H b=Z (.lst zs)/\xs.length+zs.length<=aL/\Q .non (upd H l (.lst (xs++zs)))
def Px:MtM X "list.extend" N6:=by
 intro pins s σ H x vs v us Q I rx rv h;let#v[l,b,xs,zs,rfl,rfl,hH,hB,hz,q]:=h;ext rx;let#v[u,rfl,ru]:=rv.one;ext ru;let#v[z,its,n,r,hl,e]:=I.lstM hH;let#v[z2,its2,n2,r2,hl2,e2]:=I.lstM hB;have hsz:its.toArray.size+its2.toArray.size<=aL:=by rw[bB,bB];omega
 have hlong:¬(!its.toArray.isEmpty&&hG (its.toArray.size+its2.toArray.size))=γ:=by rw[Lo hsz,kX];show bA
 refine l6 i8 ⟨_,e,O⟩ nQ (nD _ _)
  (AutoSeq1.list_extend_list_list_0 l its.toArray n b its2.toArray n2 hlong (by rw[bB];omega) ()) ⟨e,e2,?_⟩
 calc⟨.non,_,I.lset (its':=its++its2) hH e (by simp) (r.append r2) ?_,O,q⟩;rw[aM];omega
def rCat:R2:=λx y H Q=>∃l b xs zs,x=.ref l/\y=.ref b/\H l=Z (.lst xs)/\H b=Z (.lst zs)/\xs.length+zs.length<=aL/\∀p,H p=J->Q (.ref p) (upd H p (.lst (xs++zs)))
def XT:OpR X (cQ .Add) rCat:=by
 intro pins s σ H x y v u Q I rx ry h;let#v[l,b,xs,zs,rfl,rfl,hH,hB,hz,q]:=h;ext rx;ext ry;let#v[z,its,n,r,hl,e]:=I.lstM hH;let#v[z2,its2,n2,r2,hl2,e2]:=I.lstM hB;calc PySem.P.add_list e e2 ?_ (by rw[bB,bB];omega);have ea:its.toArray++its2.toArray=(its++its2).toArray:=by simp
 rw[ea];show⟨.ref _,_,I.lnew (t':=s.toks) (r.append r2) (by rw[aM];omega),O,q _ I.fresh⟩
end
section
variable{prog:aO}{w:aF}{A:aP}{E:ae->af->Prop}{s:af}
set_option maxRecDepth 100000 in
end
section
variable{κ:Type}[DecidableEq κ]
def xG(kvs:List (κ×V))(k:κ):Option V:=(kvs.find? λkv=>decide (kv.1=k)).map (·.2)
def putK(kvs:List (κ×V))(k:κ)(v:V):List (κ×V):=
 if (kvs.any λkv=>decide (kv.1=k))=γ then kvs.map (λkv=>if kv.1=k then (kv.1,v)else kv)else kvs++[(k,v)]
def D3{p:κ×V}(e:p.1=k):xG (p::r) k=Z p.2:=by simp[xG,d9,e]
def D4{p:κ×V}(e:¬p.1=k):xG (p::r) k=xG r k:=by simp[xG,d9,e]
theorem G3(k:κ):∀kvs:List (κ×V),(kvs.any λkv=>decide (kv.1=k))=(xG kvs k).isSome
 |[]=>rfl
 |p::r=>by
  rw[fP];by_cases e:p.1=k
  .erw[D3 e,bh e,Bool.true_or,Option.isSome_some]
  .rw[D4 e,bj e,Bool.false_or];show G3 k r
def BO(kvs:List (κ×V))(k:κ)(v:V):(putK kvs k v).length<=kvs.length+1:=by
 delta putK;split
 .rw[aq];omega
 .rw[aM,aT,fL];omega
def Q1{kvs:List (κ×V)}{k:κ}(v:V)(h:xG kvs k=J):putK kvs k v=kvs++[(k,v)]:=by delta putK;rw[G3,h];show ak #[]
def BM.isSome_eq(r:BM o u):o.isSome=u.isSome:=by
 cases o with
 |none=>cases u with
  |none=>rfl
  |some _=>show(show False from r).elim
 |some _=>cases u with
  |none=>show(show False from r).elim
  |some _=>rfl
theorem BM.getD(r:BM o u)(rd:RelV d d'):RelV (o.getD d) (u.getD d'):=by
 cases o with
 |none=>cases u with
  |none=>show rd
  |some _=>show(show False from r).elim
 |some _=>cases u with
  |none=>show(show False from r).elim
  |some _=>show r
def KV.val(r:KV kvs vs)(k:κ):BM (xG kvs k) (valueAt vs k):=by
 delta KV at r
 induction r with
 |nil=>show True.intro
 |@cons p q ps qs h t ih=>
  let#v[h1,h2]:=h;by_cases e:p.1=k
  .have e':q.1=k:=h1.symm.trans e;have b:valueAt (q::qs) k=Z q.2:=by simp[valueAt,d9,e']
   rw[D3 e,b];show h2
  .have e':¬q.1=k:=λz=>e (h1.trans z);have b:valueAt (q::qs) k=valueAt qs k:=by simp[valueAt,d9,e']
   rw[D4 e,b];show ih
theorem KV.any(r:KV kvs vs)(k:κ):(kvs.any λkv=>decide (kv.1=k))=vs.any λkv=>decide (kv.1=k):=by
 delta KV at r
 induction r with
 |nil=>rfl
 |cons h t ih=>rw[fP,fP,ih,h.1]
def KV.repl(r:KV kvs vs)(k:κ)(ry:RelV y u):
  KV (kvs.map λkv=>if kv.1=k then (kv.1,y)else kv) (vs.map λkv=>if kv.1=k then (kv.1,u)else kv):=by
 delta KV at r ⊢
 induction r with
 |nil=>show .nil
 |@cons p q ps qs h t ih=>
  rw[aN,aN];calc .cons ?_ ih;let#v[h1,h2]:=h;by_cases e:p.1=k
  .rw[ao e,ao (h1.symm.trans e)];show⟨h1,ry⟩
  .rw[ak e,ak (λz=>e (h1.trans z))];show⟨h1,h2⟩
def KV.put{kvs:List (κ×V)}{vs:List (κ×ae)}(r:KV kvs vs)(k:κ){y:V}{u:ae}(ry:RelV y u):KV (putK kvs k y) (stored vs k u):=by
 delta putK stored;rw[r.any k];by_cases e:(vs.any λkv=>decide (kv.1=k))=γ
 .rw[ao e,ao e];show r.repl k ry
 .rw[ak e,ak e];show qc r ⟨O,ry⟩
theorem KV.length(r:KV kvs vs):kvs.length=vs.length:=lg r
end
def Fu(r:RelV (kV k) u):(um P w).is k u=γ:=by
 cases k with
 |inl i=>let#v[t,e]:=(show ∃t,u=Value.int i t from r);subst e;show Lg P w i t
 |inr x=>let#v[t,e]:=(show ∃t,u=Value.str x t from r);subst e;show Lh P w x t
theorem Jl:∀{ks:List Key} {us:List ae},Vals (ks.map kV) us->ItemsAre (um P w) ks us
 |[],_,r=>by rw[fR]at r;ext r;show .nil
 |k::ks,_,r=>by
  rw[aN]at r;cases r with
  |cons h t=>show .cons (Fu h) (Jl t)
abbrev KT(H:Hp):List (List Key×V)->List (List Key×Addr×ae)->Prop:=fV λp q=>p.1=q.1/\H q.2.1=Z (.tup (p.1.map kV))/\RelV p.2 q.2.2
def KT.val(r:KT H kvs xs)(k:List Key):BM (xG kvs k) ((atKey xs k).map (·.2)):=by
 induction r with
 |nil=>show True.intro
 |@cons p q ps qs h t ih=>
  let#v[h1,_,h2]:=h;by_cases e:p.1=k
  .have e':q.1=k:=h1.symm.trans e;have b:atKey (q::qs) k=Z q.2:=by simp[atKey,d9,e']
   rw[D3 e,b];show h2
  .have e':¬q.1=k:=λz=>e (h1.trans z);have b:atKey (q::qs) k=atKey qs k:=by simp[atKey,d9,e']
   rw[D4 e,b];show ih
def KT.repl(r:KT H kvs xs)(k:List Key)(ry:RelV y u):
  KT H (kvs.map λkv=>if kv.1=k then (kv.1,y)else kv) (xs.map (putAt k u)):=by
 induction r with
 |nil=>show .nil
 |@cons p q ps qs h t ih=>
  rw[aN,aN];calc .cons ?_ ih;let#v[h1,h2,h3]:=h;delta putAt;by_cases e:p.1=k
  .rw[ao e,ao (h1.symm.trans e)];show⟨h1,h2,ry⟩
  .rw[ak e,ak (λz=>e (h1.trans z))];show⟨h1,h2,h3⟩
def KT.put{H:Hp}{kvs:List (List Key×V)}{xs:List (List Key×Addr×ae)}(r:KT H kvs xs)(k:List Key){b:Addr}{y:V}{u:ae}(hb:H b=Z (.tup (k.map kV)))(ry:RelV y u):
  KT H (putK kvs k y) (storedH xs k b u):=by
 have e:(kvs.any λkv=>decide (kv.1=k))=(atKey xs k).isSome:=by rw[G3,(r.val k).isSome_eq,Option.isSome_map]
 delta putK storedH;rw[e];by_cases q:(atKey xs k).isSome=γ
 .rw[ao q,ao q];show r.repl k ry
 .rw[ak q,ak q];show qc r ⟨O,hb,ry⟩
def KT.keeps(r:KT H kvs xs)(ht:∀b ys,H b=Z (.tup ys)->H' b=Z (.tup ys)):KT H' kvs xs:=
 Paired.mapP r λ_ _ z=>⟨z.1,ht _ _ z.2.1,z.2.2⟩
section
variable{P:aO}{w:aF}{H:Hp}{h:Heap}{a:Addr}
def Wx(ok:HOk P w H h)(e:Rd H a u):ObjOk P w H h a u:=e.ok ok
def Fv(ok:HOk P w H h)(e:Rd H a (.dK kvs)):kvs.length<=aL/\(a==dw)=δ/\∃vs,KV kvs vs/\h.DictOf (um P w) a vs:=
 show ObjOk P w H h a (.dK kvs) from Wx ok e
def WA(ok:HOk P w H h)(e:H a=Z (.dK kvs)):kvs.length<=aL/\(a==dw)=δ/\∃vs,KV kvs vs/\h.DictOf (um P w) a vs:=Fv ok (.inl e)
def G4{ks:List Key}(ok:HOk P w H h)(e:H a=Z (.tup (ks.map kV))):(tupleKind (um P w)).is h ks a:=by let#v[_,its,r,o,h1,h2,n,h3]:=(show ObjOk P w H h a (.tup (ks.map kV)) from ok a _ e);show⟨o,its.toArray,n,h1,h2,h3,by exists Jl r⟩
def Jm(ok:HOk P w H h)(e:Rd H a (.dT kvs)):kvs.length<=aL/\(a==dw)=δ/\
  ∃xs,KT H kvs xs/\h.DictOfH (tupleKind (um P w)) a xs:=by
 let#v[z,y,xs,r,o,es,ep,h1,h2,h3,h4,h5]:=(show ObjOk P w H h a (.dT kvs) from Wx ok e);calc⟨z,y,xs,r,o,es,ep,h1,h2,h3,h4,λx hx=>?_,h5⟩;have all:∀{l:List (List Key×V)} {m:List (List Key×Addr×ae)},KT H l m->∀x∈m,(tupleKind (um P w)).is h x.1 x.2.1:=by
  intro l m q
  induction q with
  |nil=>intro x hx;show nomatch hx
  |@cons p q ps qs hq t ih=>
   intro x hx;rcases aQ.mp hx with e|hx
   .subst e;show G4 ok (by rw[<-hq.1];show hq.2.1)
   .show ih x hx
 show all r x hx
def abv(ok:HOk P w H h)(e:H a=Z (.dT kvs)):kvs.length<=aL/\(a==dw)=δ/\
  ∃xs,KT H kvs xs/\h.DictOfH (tupleKind (um P w)) a xs:=Jm ok (.inl e)
end
def DGet(H:Hp)(a:Addr)(y:V)(r:Option V):Prop:=
 (∃kvs k,Rd H a (.dK kvs)/\y=kV k/\r=xG kvs k)\/∃kvs k b,Rd H a (.dT kvs)/\y=.ref b/\H b=Z (.tup (k.map kV))/\r=xG kvs k
def Q2(H:Hp)(a:Addr)(y v:V)(H':Hp):Prop:=
 (∃kvs k,H a=Z (.dK kvs)/\y=kV k/\kvs.length<aL/\H'=upd H a (.dK (putK kvs k v)))\/
 ∃kvs k b,H a=Z (.dT kvs)/\y=.ref b/\H b=Z (.tup (k.map kV))/\kvs.length<aL/\H'=upd H a (.dT (putK kvs k v))
theorem Q2.k{H:Hp}{a:Addr}{kvs:List (Key×V)}{k:Key}{v:V}(e:H a=Z (.dK kvs))(hl:kvs.length<aL):Q2 H a (kV k) v (upd H a (.dK (putK kvs k v))):=.inl ⟨kvs,k,e,O,hl,O⟩
section
variable{X:Cx}{pins:cJ}{σ:St}{H:Hp}{s:af}{a:Addr}{y v:V}{u r:ae}{o:Option V}{A:aP}{E:ae->af->Prop}
def Inv.big(I:Inv X pins σ H s):dw< ~~~s:=by have h:aX< ~~~s:=(I.mod.glob.keeps I.bk).lt;show Nat.lt_trans #[] h
def Py(hu:A.units+1<cLine)(I:Inv X pins σ H s)(g:DGet H a y (Z v))(ry:RelV y u)(h:∀w' s',Inv X pins σ H s'->RelV v w'->Q w' s'):
  ah (model X.prog X.w) A (getItem (.ref a) u) Q E s:=by
 rcases g with ⟨kvs,k,e,ey,l⟩|⟨kvs,k,b,e,ey,eb,l⟩
 .subst ey;let#v[z,hd,vs,rel,dd]:=Fv I.hok e;let#v[w',hw,rw']:=BM.some_of (v:=v) (o:=valueAt vs k) (by rw[l];show rel.val k);show wpAny_getItem_of (Fu ry) dd.mapOf hw (h w' _ (I.tok _) rw')
 .subst ey;cases (show u=Value.ref b from ry);let#v[z,hd,xs,rel,dd]:=Jm I.hok e;let#v[w',hw,rw']:=BM.some_of (v:=v) (o:=(atKey xs k).map (·.2)) (by rw[l];show rel.val k)
  let#v[p,hp,hp2]:=Option.map_eq_some_iff.mp hw;calc wpAny_getItem_heap (i9 hu) (G4 I.hok eb) dd hp ?_;rw[hp2];show h w' _ (I.tok _) rw'
def Kr(I:Inv X pins σ H s)(mu:Mut (H a))(hs:dt a s.heap h')(he:∃q,h'.get? a=Z q)(new:ObjOk X.prog X.w (upd H a ob) h' a ob):
  Inv X pins σ (upd H a ob) { s with heap:=h',toks:=t' }:=
 I.write (x:=a) (e:=a) mu (.inl O) (λb q hb z=>(hs.2 b hb).trans z) he new
def Q3{h':Heap}{kvs:List (Key×V)}(z:kvs.length<=aL)(hd:(a==dw)=δ)(rel:KV kvs vs)(dd:h'.DictOf (um P w) a vs):
  ObjOk P w H' h' a (.dK kvs):=⟨z,hd,vs,rel,dd⟩
def Pz(hu:A.units+1<cLine)(I:Inv X pins σ H s)(g:Q2 H a y v H')(ry:RelV y u)(rv:RelV v r)(h:∀s',Inv X pins σ H' s'->Q Unit.unit s'):
  ah (model X.prog X.w) A (setItem (.ref a) u r) Q E s:=by
 rcases g with ⟨kvs,k,e,ey,l,eH⟩|⟨kvs,k,b,e,ey,eb,l,eH⟩
 .subst ey eH;let#v[z,hd,vs,rel,dd]:=WA I.hok e;have hz:vs.length<=aL:=by rw[<-rel.length];show z
  have hl:(putK kvs k v).length<=aL:=by have:=BO kvs k v;omega
  calc wpAny_setItem_pairs (hsz:=hz) (Fu ry) dd λh' dd' hs=>h _ ?_;have he:∃q,h'.get? a=Z q:=let ⟨q,_,_,hq,_⟩:=dd';⟨q,hq⟩;show Kr I (by rw[e];show True.intro) hs he (Q3 hl hd (rel.put k rv) dd')
 .subst ey eH;cases (show u=Value.ref b from ry);let#v[z,hd,xs,rel,dd]:=abv I.hok e;have hz:xs.length<=aL:=by rw[<-lg rel];show z
  have hl:(putK kvs k v).length<=aL:=by have:=BO kvs k v;omega
  calc wpAny_setItem_heap (hsz:=hz) (i9 hu) (G4 I.hok eb) dd λh' dd' hs=>h _ ?_;let#v[q,es,ep,hq,h2,h3,h4,_,h5]:=dd';calc Kr I (by rw[e];show True.intro) hs ⟨q,hq⟩ ⟨hl,hd,_,(rel.put k eb rv).keeps λc ys ec=>?_,q,es,ep,hq,h2,h3,h4,h5⟩;rw[tT (aa1 ec e (λz=>nomatch z))];show ec
end
section
variable{X:Cx}{pins:cJ}{σ:St}{H:Hp}{s:af}{a:Addr}{kvs:List (Key×V)}{k:Key}{u:ae}{A:aP}{E:ae->af->Prop}
def abw(I:Inv X pins σ H s)(e:Rd H a (.dK kvs))(h:∀t s',Inv X pins σ H s'->Q (.int kvs.length t) s'):ah (model X.prog X.w) A (call (.builtin "len") [.ref a]) Q E s:=by let#v[z,hd,vs,rel,dd]:=Fv I.hok e;calc call_len_dict hd dd (by rw[<-rel.length];rw[bR]at z;omega) ?_;rw[<-rel.length];show h _ _ (I.tok _)
end
def XU(i:Expr):Prop:=∀ov iv,subscripted i δ ov iv=operate [ov,iv] (getItem ov iv)
def UJ{id:String}
  (hl:typeLookup (.type T) "__getitem__" = pure (Z (.builtin id))) (hs:XU slice)
  (h:ah (model prog w) A (eval value env) (λo s₁=>ah (model prog w) A (eval slice env) (λi s₂=>s₂.TypeIs o T/\ah (model prog w) A (getItem o i) Q E s₂) E s₁) E s):
  ah (model prog w) A (eval (.Subscript value slice pos) env) Q E s:=by
 calc l4 (bZ h (λo s₁ h₁=>bZ h₁ (λi s₂ h₂=>?_) λ_ _ x=>x) λ_ _ x=>x);let#v[hT,h₂]:=h₂;delta subscriptTail;calc ag ?_;rw[getitemInPython_of_ne hT.not_modules];calc ag (iq hT hl ?_);have fin:ah (model prog w) A (subscripted slice δ o i) (λr s₃=>ah (model prog w) A (letTemporaryGo value o r>>=λ_=>pure r) Q E s₃) E s₂:=by rw[hs o i];show wpAny_operating (bZ h₂ (λr s₃ h₃=>ag (wpAny_letTemporaryGo (au h₃))) λ_ _ x=>x)
 first
  |show au (ag fin)
  |show ag (au (ag fin))
  |show ag fin
def Lp(I:Inv X pins σ H s)(g:DGet H a y o):s.TypeIs (.ref a) "dict" := by
 rcases g with ⟨kvs,k,e,_,_⟩|⟨kvs,k,b,e,_,_,_⟩
 .let#v[_,_,vs,_,dd]:=Fv I.hok e;show dd.typeIs
 .let#v[_,_,xs,_,dd]:=Jm I.hok e;show dd.typeIs
def abx(td ty:TE):TE:=λσ H Q=>td σ H λx H1=>ty σ H1 λy H2=>∃a v,x=.ref a/\DGet H2 a y (Z v)/\Q v H2
def WB(td ty tv:TE):TS:=λD σ H=>tv σ H λv H1=>td σ H1 λx H2=>ty σ H2 λy H3=>∃a H4,x=.ref a/\Q2 H3 a y v H4/\D.nx σ H4
section
variable{X:Cx}{o i e value:Expr}{pos pos' tpos:Pos}{td ty tv:TE}
theorem UK(hu:X.A.units+1<cLine)(ho:PE X o td)(hi:PE X i ty)(hs:XU i):PE X (.Subscript o i pos) (abx td ty):=by
 sleep 11
 calc UJ F.slot_dict_getitem.lookup hs (thn (ho pins s σ H _ I h) λu s1 ⟨x,H1,I1,rx,q1⟩=>thn (hi pins s1 σ H1 _ I1 q1) λiv s2 zz=>?_);let#v[y,H2,I2,ry,a,v,ex,g,q2]:=zz;subst ex;obtain rfl:u=Value.ref a:=rx;show⟨Lp I2 g,Py hu I2 g ry λw' s3 I3 rw'=>⟨v,H2,I3,rw',q2⟩⟩
def UM(hu:X.A.units+1<cLine)(ho:PE X o td)(hi:PE X i ty)(hv:PE X value tv)(hs:dB value (Z (.Subscript o i pos')) pos.line X.env=pure δ):
  PS X (.Assign [.Subscript o i pos'] value pos) (WB td ty tv):=by
 intro pins s σ H D I h;calc wpAny_Assign_Subscript (thn (hv pins s σ H _ I h) λr s1 ⟨v,H1,I1,rv,q1⟩=>thn (ho pins s1 σ H1 _ I1 q1) λu s2 ⟨x,H2,I2,rx,q2⟩=>thn (hi pins s2 σ H2 _ I2 q2) λiv s3 zz=>?_) hs;let#v[y,H3,I3,ry,a,H4,ex,g,q3]:=zz;subst ex;obtain rfl:u=Value.ref a:=rx;show Pz hu I3 g ry rv λs4 I4=>⟨σ,H4,I4,q3⟩
end
def Q4(h:Heap)(hb:dw<h.objs.size):ObjOk P w H (h.push { cls:=.type "dict", data:=.dict [].toArray }) h.objs.size (.dK []):=
 ⟨cc _,beq_eq_false_iff_ne.mpr (dD (aV hb)),[],.nil,sW h⟩
def MP:TE:=λ_ H Q=>∀p,H p=J->Q (.ref p) (upd H p (.dK []))
section
variable{X:Cx}{pos:Pos}
def Lq:PE X (.Dict [] [] pos) MP:=λpins s σ H Q I h=>
 wpAny_Dict_empty ⟨.ref (~~~s),_,I.laid (a:= ~~~s) (o:=.dK []) (t':=s.toks) (λ_ _ q=>aC _ q) (aS _) (Q4 s.heap I.big),O,h _ (I.hok.fresh (aS _))⟩
end
abbrev VV:List (V×V)->List (ae×ae)->Prop:=fV λp q=>RelV p.1 q.1/\RelV p.2 q.2
structure M1(X:Cx)(o:Expr)(m:Str)(apos:Pos)(e:Expr)(cpos:Pos):Prop where
 base:eU o m X.env (eval o X.env)=eval o X.env
 few:((bJ cpos (aG [e] X.env)).all (λx=>!x.1)&&(backToKw cpos (dS [] X.env)).all (λx=>x.1.isSome)
  && decide (([e]:List Expr).length+([]:List fj).length+(if ([]:List fj).isEmpty then 0 else 1)<30))=γ
 line:(apos.endLine==cpos.line)=γ
 trees:bJ cpos (aG [e] X.env)=[(δ,eval e X.env)]
structure M2(X:Cx)(o:Expr)(m:Str)(apos:Pos)(e f:Expr)(cpos:Pos):Prop where
 base:eU o m X.env (eval o X.env)=eval o X.env
 few:((bJ cpos (aG [e,f] X.env)).all (λx=>!x.1)&&(backToKw cpos (dS [] X.env)).all (λx=>x.1.isSome)
  && decide (([e,f]:List Expr).length+([]:List fj).length+(if ([]:List fj).isEmpty then 0 else 1)<30))=γ
 line:(apos.endLine==cpos.line)=γ
 trees:bJ cpos (aG [e,f] X.env)=[(δ,eval e X.env),(δ,eval f X.env)]
def IsD(H:Hp)(a:Addr):Prop:=(∃kvs,Rd H a (.dK kvs))\/∃kvs,Rd H a (.dT kvs)
def Ks(I:Inv X pins σ H s)(d:IsD H a):
  s.TypeIs (.ref a) "dict" /\ (∀b,Value.ref a=.ref b->∃ob,s.heap.get? b=Z ob/\ob.dict=J)/\(a==dw)=δ:=by
 rcases d with ⟨kvs,e⟩|⟨kvs,e⟩
 .let#v[_,hd,vs,_,dd]:=Fv I.hok e;calc⟨dd.typeIs,λb q=>?_,hd⟩;ext q;let#v[ob,_,_,h1,h2,_]:=dd;show⟨ob,h1,h2.2.1⟩
 .let#v[_,hd,xs,_,dd]:=Jm I.hok e;calc⟨dd.typeIs,λb q=>?_,hd⟩;ext q;let#v[ob,_,_,h1,h2,_]:=dd;show⟨ob,h1,h2.2.1⟩
section
variable{X:Cx}{pins:cJ}{σ:St}{H:Hp}{s:af}{a:Addr}{y d:V}{u r:ae}{o:Option V}{A:aP}{E:ae->af->Prop}
def Q5(hu:A.units+1<cLine)(I:Inv X pins σ H s)(g:DGet H a y o)(ry:RelV y u)(h:∀w' s',Inv X pins σ H s'->RelV (o.getD .non) w'->Q w' s'):
  ah (model X.prog X.w) A (call (.builtin "dict.get") [.ref a,u]) Q E s:=by
 rcases g with ⟨kvs,k,e,ey,l⟩|⟨kvs,k,b,e,ey,eb,l⟩
 .subst ey;let#v[z,hd,vs,rel,dd]:=Fv I.hok e;calc gw eO dd.typeIs il (kF _ _) (ph (um X.prog X.w) a (Fu ry) hd) ⟨_,dd.mapOf,h _ _ (I.tok _) ?_⟩;rw[l];show(rel.val k).getD O
 .subst ey;cases (show u=Value.ref b from ry);let#v[z,hd,xs,rel,dd]:=Jm I.hok e;calc gw eO dd.typeIs il (kF _ _) (meetsH_dict_get (tupleKind (um X.prog X.w)) a b hd) ⟨i9 hu,k,xs,G4 I.hok eb,dd,h _ _ (I.tok _) ?_⟩;rw[l];show(rel.val k).getD O
def XW(hu:A.units+1<cLine)(I:Inv X pins σ H s)(g:DGet H a y o)(ry:RelV y u)(rd:RelV d r)(h:∀w' s',Inv X pins σ H s'->RelV (o.getD d) w'->Q w' s'):
  ah (model X.prog X.w) A (call (.builtin "dict.get") [.ref a,u,r]) Q E s:=by
 rcases g with ⟨kvs,k,e,ey,l⟩|⟨kvs,k,b,e,ey,eb,l⟩
 .subst ey;let#v[z,hd,vs,rel,dd]:=Fv I.hok e;calc gw eO dd.typeIs il (oj _ _ _) (meets_dict_get_default (um X.prog X.w) a (Fu ry) hd r) ⟨_,dd.mapOf,h _ _ (I.tok _) ?_⟩;rw[l];show(rel.val k).getD rd
 .subst ey;cases (show u=Value.ref b from ry);let#v[z,hd,xs,rel,dd]:=Jm I.hok e;calc gw eO dd.typeIs il (oj _ _ _) (meetsH_dict_get_default (tupleKind (um X.prog X.w)) a b hd r) ⟨i9 hu,k,xs,G4 I.hok eb,dd,h _ _ (I.tok _) ?_⟩;rw[l];show(rel.val k).getD rd
end
def XX(td ty:TE):TE:=λσ H Q=>td σ H λx H1=>∃a,x=.ref a/\IsD H1 a/\ty σ H1 λy H2=>∃o,DGet H2 a y o/\Q (o.getD .non) H2
def XY(td ty tx:TE):TE:=λσ H Q=>td σ H λx H1=>∃a,x=.ref a/\IsD H1 a/\ty σ H1 λy H2=>tx σ H2 λz H3=>∃o,DGet H3 a y o/\Q (o.getD z) H3
section
variable{X:Cx}{o e f:Expr}{apos cpos:Pos}{td ty tx:TE}
def Q6(hu:X.A.units+1<cLine)(ho:PE X o td)(he:PE X e ty)(m:M1 X o "get" apos e cpos):PE X (.Call (.Attribute o "get" apos) [e] [] cpos) (XX td ty):=by
 sleep 11
 calc jc m.base m.few m.line je eO kO (thn (ho pins s σ H _ I h) λu s1 zz=>?_);let#v[x,H1,I1,rx,a,ex,d,q1]:=zz;subst ex;obtain rfl:u=Value.ref a:=rx;let#v[t1,t2,_]:=Ks I1 d;calc⟨t1,t2,?_⟩;rw[m.trees];calc hJ O (ia (dZ (thn (he pins s1 σ H1 _ I1 q1) λiv s2 ⟨y,H2,I2,ry,ov,g,q2⟩=>fD ?_)));show Q5 hu I2 g ry λw' s3 I3 rw'=>⟨_,H2,I3,rw',q2⟩
def Q7(hu:X.A.units+1<cLine)(ho:PE X o td)(he:PE X e ty)(hf:PE X f tx)(m:M2 X o "get" apos e f cpos):PE X (.Call (.Attribute o "get" apos) [e,f] [] cpos) (XY td ty tx):=by
 sleep 11
 calc jc m.base m.few m.line je eO kO (thn (ho pins s σ H _ I h) λu s1 zz=>?_);let#v[x,H1,I1,rx,a,ex,d,q1]:=zz;subst ex;obtain rfl:u=Value.ref a:=rx;let#v[t1,t2,_]:=Ks I1 d;calc⟨t1,t2,?_⟩;rw[m.trees];refine hJ O (ia (dZ (thn (he pins s1 σ H1 _ I1 q1) λiv s2 ⟨y,H2,I2,ry,q2⟩=>
  dZ (thn (hf pins s2 σ H2 _ I2 q2) λfv s3 ⟨z,H3,I3,rz,ov,g,q3⟩=>fD ?_))))
 show XW hu I3 g ry rz λw' s4 I4 rw'=>⟨_,H3,I4,rw',q3⟩
end
end L2
namespace Att
open PySem PySem.W PySem.Calls PyProof.Rows
def Gr:∀(ns:List Int) (vs:List ae),WellAll P h vs (ns.map WData.int)->iG vs ns:=by
 intro ns
 induction ns with
 |nil=>intro vs w;rw[fR]at w;ext w;show .nil
 |cons n ns ih=>
  intro vs w;rw[aN]at w;cases w with
  |cons a b=>ext a;show .cons _ _ (ih _ b)
def PB{l:gB}(hn:l.most=Z n)
  (hpre:l.row.toRowW.claim.pre args=γ) (hwl:WellAll P h vals args):
  ∃a vs ns,vals=[Value.ref a]/\args=[WData.list (ns.map WData.int)]/\h.get? a=Z { cls:=.type "list", data:=.seq vs.toArray }/\iG vs ns/\ns.length<=n:=by
 have hsh:WShape.hasAll [] args [.list .int]=γ:=(pre_splitW hpre).1;have hc:l.pre.holds [] { args:=args }=γ:=(pre_splitW hpre).2;let#v[d,r,rfl,h1,h2]:=hasAllW_cons hsh;obtain rfl:=hasAllW_nil h2;let#v[xs,rfl,h3]:=hasW_list h1;let#v[ns,rfl]:=items_int h3;have hlen:ns.length<=n:=by
  delta OpenLaw.pre at hc;have h4:(WTm.not (.lt (.lit (.int (n:Int))) (.len (.arg 0)))).holds [] { args:=[.list (ns.map .int)] }=γ:=by have h4:=(holds_andW hc).1;rw[hn]at h4;show h4
  have h5:=condW_of h4 (w_not (w_lt w_lit (w_len_list (w_arg O))));rw[aq]at h5;calc oQ λq=>?_;have q':(n:Int)<((ns.length:Nat):Int):=by omega
  first
   |(rw[bh q']at h5;show ar h5 #[])
   |(simp at h5;omega)
 cases hwl with
 |cons w1 w2=>
  ext w2;cases w1 with
  |list ho hall=>show⟨_,_,ns,O,O,ho,Gr ns _ hall,hlen⟩
def PD(l:gB)(args:List WData):l.row.toRowW.claim.post args (.bool γ) args=γ:=
 postW_of (r:=l.row.toRowW) (X:=(γ==γ))
  (show qg [] (.bool γ) .bool=γ by first|rfl|decide|simp[qg,WShape.arms,WShape.armsAll])
  (show (WTm.eq .res (.lit (.bool γ))).value [] { args:=args,res:=Z (.bool γ),after:=args }=Z (.bool (γ==γ)) from w_eq_bool (w_res O) w_lit) O
def attach_call{l:gB}{d:DefRec}
  (hn:l.most=Z n) (hdf:d.params.defaults=[])
  (call:∀(w:aF) (s₀ s₁:af) (mg mb:Str->Option ae) (fa:Addr) (o:Obj) (pm cd doc:ae) (a:Addr) (vs:List ae) (ns:List Int),
   Ground q loose [] XP w s₀ mg mb s₁.heap->YP w s₁.heap->
   s₁.heap.get? fa=Z o->o.data=.func (docDef d.name d.params d.body d.scope pm cd doc)->s₁.heap.CodeRec cd d.name->mg d.name=Z (.ref fa)->
   s₁.heap.get? a=Z { cls:=.type "list", data:=.seq vs.toArray }->iG vs ns->ns.length<=n->s₁.gens=[].toArray->
   cf (model l.prog w) callerA (.call (.ref fa) ⟨[.ref a],[]⟩) (λr s'=>r=.ok (.ret (.bool γ))/\OldK s₁.heap s'.heap/\s'.os=s₁.os/\eC s'.gens) s₁):
  WalkO q loose XP YP l.row.toRowW d [] (λf vs=>l7 f vs):=by
 intro w s₀ s₁ mg mb G Y fa o pm cd doc dV kV ho hd hcd hD hmg hg args vals as hpre hlay hrd hwl hlo;obtain rfl:dV=.none:=Dflts.none hD hdf;obtain rfl:kV=.none:=Dflts.noKw hD;let#v[a,vs,ns,rfl,rfl,hobj,hints,hlen]:=PB hn hpre hwl;calc enter_call (gv (call w s₀ s₁ mg mb fa o pm cd doc a vs ns G Y ho (fd_plain hd) hcd hmg hobj hints hlen hg) λr s' hq=>?_);let#v[rfl,h2,h3,h4]:=hq;show⟨.inl ⟨.bool γ,.bool γ,[],O,λ_=>O,.bool γ,PD l _,λ_=>⟨List.Pairwise.nil,λ_ hm=>(nomatch hm)⟩⟩,h2,h3,h4⟩
end Att
namespace L2
open PySem PySem.Spec PyProof.Rows
theorem Jn:∀{vs:List ae} {ns:List Int},iG vs ns->Vals (ns.map V.int) vs
 |_,_,.nil=>.nil
 |_,_,.cons n t h=>.cons ⟨t,O⟩ (Jn h)
def XZ(H:Hp):Prop:=∀b,H b=J\/∃o xs,H b=Z (.frz o (.lst xs))
def Q8{K:av}{s₁:af}{vs:List ae}
  (KX:K.In s₁.heap) (hns:s₁.heap.Ns aX mg) (hb:s₁.heap.Ns builtinsNs mb) (hbb:∀x:Str,x≠"__name__" -> mb x=dP x) (hlim:s₁.heap.NoLimit) (hg:s₁.gens=[].toArray)
  (ha:s₁.heap.get? a=Z { cls:=.type "list", data:=.seq vs.toArray }) (hi:iG vs ns) (hl:ns.length<=aL) (hr:v5 k callerA)
  (F:∀base:Heap,K.In base->base.Ns aX mg->x9 P w K mg base CX k fa fd [x] sp) (hbind:∀(s:af) (u:ae),gG s fd ⟨[u],[]⟩ [(x,u)])
  (hsp:∀H:Hp,XZ H->SqL K H a (ns.map V.int)->sp [.ref a] H (λv _=>v=.bl γ) λ_ _ _=>False)
  (hCX:∀H e s',CX [] H s₁ (λ_ _ _=>False) e s'->False):
  cf (model P w) callerA (.call (.ref fa) ⟨[.ref a],[]⟩) (λr s'=>r=.ok (.ret (.bool γ))/\OldK s₁.heap s'.heap/\s'.os=s₁.os/\eC s'.gens) s₁:=by
 have rv:=Jn hi;have lenV:=hi.length;have core:∀H:Hp,XZ H->SqL K H a (ns.map V.int)->HOk P w H s₁.heap->(∀b,H b≠J->b=a)->(H a≠J->K.lookup a=J)->
   cf (model P w) callerA (.call (.ref fa) ⟨[.ref a],[]⟩) (λr s'=>r=.ok (.ret (.bool γ))/\OldK s₁.heap s'.heap/\s'.os=s₁.os/\eC s'.gens) s₁:=by
  intro H hO hS hok hA hK;have base_of:∀{b:Addr} {o:Obj},s₁.heap.get? b=Z o->H b=J->(Kh s₁.heap H).get? b=Z o:=λe n=>QE e n;have noA:∀{b:Addr} {o:Obj} {es:Array DictEntry} {ep:Nat},s₁.heap.get? b=Z o->o.data=.dict es ep->H b=J:=λ{b o es ep} e d=>by
   cases q:H b with
   |none=>rfl
   |some u=>have e':b=a:=hA b (by rw[q];simp);subst e';rw[ha]at e;ext e;have d':Data.seq vs.toArray _=Data.dict es ep:=d;ext d'
  have nsK:∀{b:Addr} {m:Str->Option ae},s₁.heap.Ns b m->(Kh s₁.heap H).Ns b m:=λ{b m} ⟨o,es,ep,e,d,r⟩=>⟨o,es,ep,base_of e (noA e d),d,r⟩;have hKb:K.In (Kh s₁.heap H):=λb o e=>base_of (KX b o e) (by
   cases q:H b with
   |none=>rfl
   |some u=>
    have e':b=a:=hA b (by rw[q];simp);subst e';rw[hK (by rw[q];simp)]at e;ext e)
  have hM:Mod K mg (Kh s₁.heap H):=⟨hKb,nsK hns,⟨mb,nsK hb,hbb⟩,let ⟨mc,h1,h2⟩:=hlim;⟨mc,nsK h1,h2⟩⟩;have e0:MO P w K mg (Kh s₁.heap H) callerA [] s₁ H:=⟨O,hM,λb o e=>Uk e,pS (Ph _ _),trivial,λb hb=>ar (show b∈([]:List Addr) from hb) (by simp),hok,.of_eq hg⟩;calc gv ((F _ hKb (nsK hns)).run callerA [] s₁ H ⟨[.ref a],[]⟩ [.ref a] [.ref a] _ _ hr e0 (hbind s₁ (.ref a)) (.cons O .nil) (hsp H hO hS)) λr s' h=>?_;cases r with
  |error e=>show(hCX H e s' h).elim
  |ok fl=>
   cases fl with
   |next=>show cY h
   |brk=>show cY h
   |cont=>show cY h
   |ret u=>
    let#v[v,H',os,bare,un,hok',r',q]:=h;have q':v=.bl γ:=q;subst q';obtain rfl:u=Value.bool γ:=r';calc⟨O,OldK.of_keep λb o e=>?_,os,bare⟩;cases q:H b with
    |none=>show un.keep b o e q (by intro z;show ar (show b∈([]:List Addr) from z) (by simp)) (by simp)
    |some u=>
     rcases hO b with z|⟨ob,xs,z⟩
     .rw[q]at z;ext z
     .have z2:=un.frzs b ob _ z;let#v[e1,_]:=hok b _ z;let#v[e2,_]:=hok' b _ z2;rw[e]at e1;ext e1;show e2
 cases hk:K.lookup a with
 |some o=>have e:=KX a o hk;rw[ha]at e;ext e;refine core (λ_=>J) (λ_=>.inl O) (.inr ⟨_,vs.toArray,_,hk,O,O,O,by rw[bB,lenV];show hl,by exists rv⟩) (λb u z=>by have z':(J:Option HO)=Z u:=z;ext z') (λb z=>ar O z) λz=>ar O z
 |none=>
  refine core (λb=>if b=a then Z (.frz { cls:=.type "list", data:=.seq vs.toArray } (.lst (ns.map V.int)))else J) (λb=>?_) (.inl (.inr ⟨{ cls:=.type "list", data:=.seq vs.toArray },ao O⟩)) (λb u z=>?_) (λb z=>?_) λ_=>hk
  .by_cases hb:b=a
   .show .inr ⟨_,_,ao hb⟩
   .show .inl (ak hb)
  .by_cases hb:b=a
   .have z':=(ao hb).symm.trans z;ext z';subst hb;show⟨ha,by rw[aq];show hl,vs,_,rv,ha⟩
   .have z':=(ak hb).symm.trans z;ext z'
  .by_cases hb:b=a
   .show hb
   .show ar (ak hb) z
def UN{l:gB}{n k:Nat}{q:aO}{loose:aH}{XP:(Str->Option ae)->Heap->Prop}{YP:aF->Heap->Prop}{d:DefRec}{K:Params->av}{CX:aF->CXT}{sp:aF->Sp}{x:Str}
  (hn:l.most=Z n) (hn2:n<=aL) (hdf:d.params.defaults=[]) (hr:v5 k callerA)
  (hY:∀(w:aF) (h:Heap),YP w h->(K w.params).In h)
  (F:∀(w:aF) (mg:Str->Option ae) (fa:Addr) (h:Heap),(K w.params).In h->h.Ns aX mg->mg d.name=Z (.ref fa)->
   ∃fd:cv,(∀(s:af) (u:ae),gG s fd ⟨[u],[]⟩ [(x,u)])/\
    ∀base:Heap,(K w.params).In base->base.Ns aX mg->x9 l.prog w (K w.params) mg base (CX w) k fa fd [x] (sp w))
  (hsp:∀(w:aF) (H:Hp) (a:Addr) (ns:List Int),ns.length<=n->XZ H->SqL (K w.params) H a (ns.map V.int)->sp w [.ref a] H (λv _=>v=.bl γ) λ_ _ _=>False)
  (hCX:∀(w:aF) (H:Hp) (s:af) (e:ae) (s':af),CX w [] H s (λ_ _ _=>False) e s'->False):
  W.WalkO q loose XP YP l.row.toRowW d [] (λf vs=>l7 f vs):=by
 calc Att.attach_call hn hdf λw s₀ s₁ mg mb fa o pm cd doc a vs ns G Y ho hd hcd hmg hobj hints hlen hg=>?_;have KX:=hY w _ Y;let#v[fd,hb,hF]:=F w mg fa _ KX G.T.g hmg;show Q8 KX G.T.g G.T.b G.T.builtins G.T.nolimit hg hobj hints (bM hlen hn2) hr hF hb (λH hO hS=>hsp w H a ns hlen hO hS) λH e s'=>hCX w H s₁ e s'
def inClass(s:Stmt)(j:Nat):Stmt:=match s with
 |.ClassDef _ _ _ body _ _ _ _ _ _ _=>body.getD j (.Pass ⟨0,0,0,0⟩)
 |_=>.Pass ⟨0,0,0,0⟩
def xH(s:Stmt):Arguments:=match s with
 |.FunctionDef _ a _ _ _ _ _ _ _ _=>a
 |_=>{ posonlyargs:=[],args:=[],vararg:=J,kwonlyargs:=[],kw_defaults:=[],kwarg:=J,defaults:=[] }
def uG(s:Stmt):List Stmt:=match s with
 |.FunctionDef _ _ b _ _ _ _ _ _ _=>b
 |_=>[]
def uh(s:Stmt):c5:=match s with
 |.FunctionDef _ _ _ _ _ _ sc _ _ _=>sc
 |_=>{ kind:=.function,names:=[],isGenerator:=δ,isCoroutine:=δ }
abbrev CX0:CXT:=λ_ _ _ _ _ _=>False
abbrev E0:XK:=λ_ _ _=>False
def Lr:Passes CX0 X E0:=λ_ _ _ _ _ _ _ h=>h.elim
structure Fun(K:av)(x qual:Str)(st:Stmt)(f:Addr)(fd:cv):Prop where
 ex:∃(oc:ae) (od:Option Addr) (kV doc pm:ae) (an:Option Addr) (cdv ct:ae) (osl:Array (Option ae)),
  fd=eD x qual (xH st) (uG st) (uh st) .none kV doc pm an cdv ct/\K.lookup f=Z ⟨oc,od,.func fd,osl⟩/\gA K cdv qual=γ
 kp:dU K (.ref f)=γ
section
variable{P:aO}{w:aF}{K:av}{mg:Str->Option ae}{base:Heap}
theorem Fun.ok{st:Stmt}(F:Fun K x qual st f fd)(S:wx N ps (uh st))(len:∀vs H Q E,sp vs H Q E->vs.length=ps.length)
  (hbody:∀(cdv:ae) (A:aP) (outer:List Env) (s:af) (H:Hp) (vs:bN) (Q:VK) (E:XK),v5 k (A.deeper (envOfC qual (uh st) (~~~s) f cdv))->sp vs H Q E->
   ∃t,PSs (Lk CX0 P w K mg base N qual (uh st) f cdv A outer s H E).nox (uG st) t/\t { nx:=λ_ H'=>Q .non H',rt:=Q } (start N vs) H):x9 P w K mg base CX0 (k+1) f fd ps sp:=by
 let#v[oc,od,kV,doc,pm,an,cdv,ct,osl,rfl,lk,hcd]:=F.ex;calc Ww lk hcd S len λA outer s H vs Q E hr hsp=>?_;let#v[t,h,q]:=hbody cdv A outer s H vs Q E hr hsp;show⟨t,h.nox,q⟩
theorem Fun.binds{st:Stmt}{ps:aH}(F:Fun K x qual st f fd)
  (h:∀(kV doc pm:ae) (an:Option Addr) (cdv ct:ae) (us:List ae),us.length=ps.length->bindArgs (eD x qual (xH st) (uG st) (uh st) .none kV doc pm an cdv ct) ⟨us,[]⟩=pure (ps.zip us)):Binds K fd ps []:=by
 let#v[oc,od,kV,doc,pm,an,cdv,ct,osl,rfl,lk,hcd]:=F.ex;show .all (h kV doc pm an cdv ct)
end
def Lu(hr:v5 k A):A.units+1<cLine:=ja (Nat.add_le_add_left (by decide:1<=64) _) hr.units
def CC(h:n<=1000):n<aL:=ja h #[]
section
variable{X:Cx}
def pv(i:Nat)(hN:X.N[i]?=Z x:=by rfl)(hv:Vis X.env.scope x:=by first|show Or.inl O|show Or.inr (Or.inl O)|show Or.inr (Or.inr O))(hd:(x==("__debug__" : Str))=δ:=by decide)
  (hcd:(x==("__classdict__" : Str))=δ:=by decide):PE X (.Name x pos) (DU i):=Xd hN hv hd hcd
end
def Kt{A B:Prop}(h:B):if δ=γ then A else B:=by rw[ak bA];show h
def Ku{A B:Prop}(h:A):if γ=γ then A else B:=by rw[ao O];show h
def ue(H H':Hp):Prop:=∀b o,H b=Z o->H' b=Z o
def ue.refl(H:Hp):ue H H:=λ_ _ h=>h
def ue.trans(a:ue H H1)(b:ue H1 H2):ue H H2:=λc o h=>b c o (a c o h)
def ue.seq{K:av}(e:ue H H')(h:SqL K H a xs):SqL K H' a xs:=by
 rcases h with (h|⟨o,h⟩)|h
 .show .inl (.inl (e _ _ h))
 .show .inl (.inr ⟨o,e _ _ h⟩)
 .show .inr h
end L2
set_option maxHeartbeats 4000000
namespace L3
open PySem PySem.Spec PyProof.Rows L2
abbrev St:=L2.St
theorem G5{α β:Type}{f:α->β->Sem (ForInStep β)}{g:β->α->β}:∀(l:List α) (b:β),(∀x∈l,∀c,f x c=pure (ForInStep.yield (g c x)))->(forIn l b f:Sem β)=pure (l.foldl g b)
 |[],b,_=>by simp
 |x::r,b,h=>by rw[kP,h x aR b];change (forIn r (g b x) f:Sem β)=_;rw[G5 r (g b x) λy hy c=>h y (aU _ hy) c];rfl
def BA(cells:List (Str×Addr))(cs:List (Str×Addr))(x:Str×dW):List (Str×Addr):=if (x.2==NameKind.free)=γ then (x.1,(cells.lookup x.1).getD 0)::cs else cs
def yK(cells:List (Str×Addr))(names:List (Str×dW)):List (Str×Addr):=names.foldl (BA cells) []
def IS{scope:c5}{env:Env}(h:∀x∈scope.names,x.2=.free->∃c,env.cells.lookup x.1=Z c):
  closureFor scope env=pure (yK env.cells scope.names):=by
 erw[closureFor];rw[G5 (g:=BA env.cells) scope.names [] λx hx c=>by
  let#v[n,k]:=x;by_cases hk:k=.free
  .subst hk;let#v[a,e]:=h _ hx O;have e':env.cells.lookup n=Z a:=e;erw[BA,cellOf,e',beq_self_eq_true,if_true,oR];rfl
  .have hb:(k==NameKind.free)=δ:=by exists hk
   erw[BA,hb,fC,if_false]]
 rfl
theorem Lv{cells:List (Str×Addr)}:∀(names:List (Str×dW)) (acc:List (Str×Addr)),(∀x∈names,x.2=.free->∃c,cells.lookup x.1=Z c)->(∀x c,acc.lookup x=Z c->cells.lookup x=Z c)->
  ∀x c,(names.foldl (BA cells) acc).lookup x=Z c->cells.lookup x=Z c
 |[],acc,_,ha,x,c,e=>ha x c e
 |y::r,acc,h,ha,x,c,e=>by
  calc Lv r (BA cells acc y) (λz hz=>h z (aU _ hz)) (λz d ez=>?_) x c e;let#v[n,k]:=y;delta BA at ez;split at ez
  .rename_i hk;let#v[a,ea]:=h (n,k) aR (by exists hk);have ea':cells.lookup n=Z a:=ea;rw[eM]at ez;cases hb:z==n with
   |true=>rw[hb]at ez;have ez':Z ((cells.lookup n).getD 0)=Z d:=ez;rw[ea']at ez';rw[jy hb,ea'];show ez'
   |false=>rw[hb]at ez;show ha z d ez
  .show ha z d ez
theorem Jo:∀(names:List (Str×dW)) (acc:List (Str×Addr)) (x:Str),(∃c,acc.lookup x=Z c)->∃c,(names.foldl (BA cells) acc).lookup x=Z c
 |[],_,_,h=>h
 |y::r,acc,x,h=>by
  calc Jo r (BA cells acc y) x ?_;delta BA;split
  .rw[eM];cases x==y.1 with
   |true=>show⟨_,O⟩
   |false=>show h
  .show h
theorem G6:∀(names:List (Str×dW)) (acc:List (Str×Addr)) (x:Str),(x,NameKind.free)∈names->∃c,(names.foldl (BA cells) acc).lookup x=Z c
 |[],_,_,h=>by cases h
 |y::r,acc,x,h=>by
  rcases aQ.mp h with e|h
  .subst e;calc Jo r _ x ?_;delta BA;rw[ao (by simp),eM];simp
  .show G6 r _ x h
theorem AZ{env:Env}(x:Str):∀(names:List (Str×dW)),
  (names.map λ(n,k)=>if (k==NameKind.free&&env.scope.kind==.function&&env.kindOf n==Z .cell)then (n,NameKind.cell)else (n,k)).lookup x=
   (names.lookup x).map λk=>if (k==NameKind.free&&env.scope.kind==.function&&env.kindOf x==Z .cell)=γ then NameKind.cell else k
 |[]=>rfl
 |(n,k)::r=>by
  have ih:=AZ (env:=env) x r;rw[aN,eM (k:=n)];change du x ((if (k==NameKind.free&&env.scope.kind==.function&&env.kindOf n==Z .cell)=γ then (n,NameKind.cell)else (n,k))::_)=_;cases hx:x==n with
  |true=>
   have e:=jy hx;subst e;split
   .rename_i hc;erw[eM,hx,fJ,hc,if_true]
   .rename_i hc;erw[eM,hx,fJ];rw[ak hc]
  |false=>
   rw[<-ih];split
   .erw[eM,hx]
   .erw[eM,hx]
def MQ{scope:c5}(hcell:∀y∈scope.names,y.2≠.cell)(h:(relabel scope env).names.lookup x=Z .cell\/(relabel scope env).names.lookup x=Z .free):(x,NameKind.free)∈scope.names:=by
 have e:=AZ (env:=env) x scope.names;have h':(scope.names.lookup x).map (λk=>if (k==NameKind.free&&env.scope.kind==.function&&env.kindOf x==Z .cell)=γ then NameKind.cell else k)=Z .cell\/
   (scope.names.lookup x).map (λk=>if (k==NameKind.free&&env.scope.kind==.function&&env.kindOf x==Z .cell)=γ then NameKind.cell else k)=Z .free:=by
  rw[<-e];show h
 cases q:scope.names.lookup x with
 |none=>rw[q]at h';rcases h' with z|z<;>cases z
 |some k=>
  rw[q]at h';have hm:=mem_of_lookup q;have hc:=hcell _ hm;cases k with
  |free=>show hm
  |cell=>show ar O hc
  |_=>rcases h' with z|z<;>ext z
def IT{scope:c5}(h:scope.names.lookup x=Z .free):(relabel scope env).names.lookup x=Z .cell\/(relabel scope env).names.lookup x=Z .free:=by
 have e:=AZ (env:=env) x scope.names;have e':(relabel scope env).names.lookup x=(scope.names.lookup x).map λk=>if (k==NameKind.free&&env.scope.kind==.function&&env.kindOf x==Z .cell)=γ then NameKind.cell else k:=e
 rw[e',h,fJ];split
 .show .inl O
 .show .inr O
def vJ(X:Cx)(N':aH)(scope:c5)(cl:List (Str×Addr))(C:Addr)(fp:List Addr)(s:af)(H:Hp):Cx:=
 { X with N:=N',s₀:=s,H₀:=H,env:=compEnvC scope cl C X.env,outer:=X.stack,ex:=fp,fn:=λ_=>δ,pn:=[],xe:=λ_ _=>False }
def PIf(X:Cx)(ifs:List Expr)(t:TT):Prop:=
 ∀(pins:cJ) (s:af) (σ:St) (H:Hp) (Q:Bool->Hp->Prop),Inv X pins σ H s->t σ H Q->
  ah (model X.prog X.w) X.A (forIn ifs γ λc r=>if r=γ then do let ok<-isTrue c X.env (eval c X.env);pure (ForInStep.yield ok)else pure (ForInStep.yield r)) (TP X pins σ Q) X.xe s
def tIf0:TT:=λ_ H Q=>Q γ H
def UO:PIf X [] tIf0:=λ_ _ _ H _ I h=>wpAny_tests_nil ⟨H,I,h⟩
def UP(h:PT X c t):PIf X [c] t:=λpins s σ H Q I hq=>wpAny_tests_one (h pins s σ H Q I hq)
section
variable{prog:aO}{w:aF}{A:aP}{R:fY->af->Prop}{s:af}
def Kv(At:Nat->af->Prop)
  (turn:∀n s,At n s->ah (model prog w) A (pyNext it) (λr s₁=>match r with
   |none=>R (.ok .next) s₁
   |some v=>ah (model prog w) A (gn target it v) (λ_ s₁'=>ah (model prog w) A (assign target env v) (λ_ s₂=>
     ah (model prog w) A (forIn ifs γ λc r=>if r=γ then do let ok<-isTrue c env (eval c env);pure (ForInStep.yield ok)else pure (ForInStep.yield r)) (λok s₃=>
      if ok=γ then ah (model prog w) A (eval elt env) (λx s₄=>
       ah (model prog w) A (call (.builtin "list.append") [acc,x]) (λ_ s₅=>∃m,m<n/\At m s₅) (notedBy (model prog w) A env λe s'=>R (.error e) s') s₄) (notedBy (model prog w) A env λe s'=>R (.error e) s') s₃
      else ∃m,m<n/\At m s₃) (notedBy (model prog w) A env λe s'=>R (.error e) s') s₂) (notedBy (model prog w) A env λe s'=>R (.error e) s') s₁')
      (notedBy (model prog w) A env λe s'=>R (.error e) s') s₁) (notedBy (model prog w) A env λe s'=>R (.error e) s') s)
  (n:Nat) (h:At n s):
  cf (model prog w) A (.compLoop (.ListComp elt [⟨target,iter,ifs,0⟩] scope pos) 0 it acc env) R s:=by
 calc codeAny_loop O At (λn s hI=>?_) n h;change ah _ A ((compTurn (.ListComp elt [⟨target,iter,ifs,0⟩] scope pos) 0 it acc env).onRaise (λx=>do noteFrame x env;theTreesLotGoes x)) _ _ s;calc wpAny_noted ?_;rw[compTurn_list];calc ag (pJ (ag (bZ (turn n s hI) (λr s₁ h₁=>?_) λ_ _ h'=>h')));cases r with
 |none=>show au h₁
 |some v=>
  calc ag (bZ h₁ (λ_ s₁' h₁'=>?_) λ_ _ h'=>h');calc ag (bZ h₁' (λ_ s₂ h₂=>ag (bZ h₂ (λok s₃ h₃=>?_) λ_ _ h'=>h')) λ_ _ h'=>h');cases ok with
  |false=>show au ⟨O,h₃⟩
  |true=>show ag (ag (bZ h₃ (λx s₄ h₄=>ag (bZ h₄ (λ_ s₅ h₅=>au (au ⟨O,h₅⟩)) λ_ _ h'=>h')) λ_ _ h'=>h'))
end
def xI(k:Nat)(cap:List Nat)(σ:St):St:=jm k J++cap.map λj=>(σ[j]?).join
def Jp(h:(xI k cap σ)[i]?=Z (Z v)):k<=i:=by
 by_cases hi:k<=i
 .show hi
 .delta xI at h;rw[fz (by rw[c6];omega),iV]at h;split at h<;>ext h
def PF{k:Nat}{cap:List Nat}{σ:St}{N N':aH}{i:Nat}{v:V}{x:Str}(hcap:(N'.drop k).map Z=cap.map λj=>N[j]?)(hx:N'[i]?=Z x)(h:(xI k cap σ)[i]?=Z (Z v)):
  ∃j:Nat,N[j]?=Z x/\σ[j]?=Z (Z v)/\x∈N'.drop k:=by
 have hi:=Jp h;delta xI at h;rw[fw (by rw[c6];show hi),c6,bC]at h;have hd:(N'.drop k)[i - k]?=Z x:=by rw[eI,show k+(i - k)=i by omega];show hx
 have e:=bL (λl=>l[i - k]?) hcap;erw[bC,hd,fJ]at e;cases q:cap[i - k]? with
 |none=>rw[q]at h;cases h
 |some j=>
  rw[q]at h e;erw[fJ,sQ]at h e;calc⟨j,e.symm,?_,cG hd⟩;cases z:σ[j]? with
  |none=>rw[z]at h;cases h
  |some o=>rw[z]at h;have h':o=Z v:=h;rw[h']
def Fw(wi:TI)(g:TG)(tt:TT)(te:TE)(k:Nat)(cap:List Nat):TE:=λσ H Q=>wi σ H λAt H1=>∀p,H1 p=J->
 ∃W:Nat->Nat->bN->Hp->Prop,(∃m,W 0 m [] (upd H1 p (.lst [])))/\∀i m acc H2,W i m acc H2->
  (At.stop i H2/\Q (.ref p) H2)\/
   (At.go i H2/\∀x H3,At.yld i H2 x H3->g x (xI k cap σ) H3 λσ4 H4=>σ4.drop k=(xI k cap σ).drop k/\tt σ4 H4 λb H5=>
    if b=γ then te σ4 H5 λy H6=>∃acc',H6 p=Z (.lst acc')/\acc'.length<aL/\∃m',m'<m/\W (i+1) m' (acc'++[y]) (upd H6 p (.lst (acc'++[y])))
    else ∃m',m'<m/\W (i+1) m' acc H5)
def Jq{X:Cx}{cap:List Nat}
  (hc:X.calm=γ) (hi:PI X tg iter wi)
  (body:∀(cl:List (Str×Addr)) (C:Addr) (fp:List Addr) (s:af) (H:Hp),PG (vJ X N' scope cl C fp s H) tg g/\PIf (vJ X N' scope cl C fp s H) ifs tt/\PE (vJ X N' scope cl C fp s H) elt te)
  (hkind:scope.kind=.function) (hcell:(scope.names.all λy=>y.2 != .cell)=γ)
  (hloc:(scope.names.all λy=>y.2 != .local||scope.names.lookup y.1==Z .local)=γ)
  (hfree:(scope.names.all λy=>y.2 != .free||(X.env.kindOf y.1==Z .cell||X.env.kindOf y.1==Z .free))=γ)
  (hlen:N'.length=k+cap.length) (hcap:(N'.drop k).map Z=cap.map λj=>X.N[j]?)
  (hcf:((N'.drop k).all λx=>scope.names.lookup x==Z .free)=γ)
  (hs:∀x,ig iter X.env x=pure x)
  (I:Inv X pins σ H s) (h:Fw wi g tt te k cap σ H Q)
  (fin:∀a C m u s4 H3,s4.heap.Ns C m->Inv X pins σ H3 s4->IM X pins H3 C->Q (.ref a) H3->compPost (model X.prog X.w) X.A X.xe use P (.ref a) C (.ok u) s4):
  ah (model X.prog X.w) X.A (comprehension (.ListComp elt [⟨tg,iter,ifs,0⟩] scope pos) scope X.env (firstIterPos [⟨tg,iter,ifs,0⟩] pos) (newList []) δ (eval iter X.env) use) P X.xe s:=by
 have hcell':∀y∈scope.names,y.2≠.cell:=λy hy e=>by have z:=bc.mp hcell y hy;rw[e]at z;show ar z #[]
 have hloc':∀y∈scope.names,y.2=.local->scope.names.lookup y.1=Z .local:=λy hy e=>by have z:=bc.mp hloc y hy;rw[e]at z;exists z
 have hfree':∀y∈scope.names,y.2=.free->X.env.kindOf y.1=Z .cell\/X.env.kindOf y.1=Z .free:=λy hy e=>by have z:=bc.mp hfree y hy;rw[e]at z;exists z
 have hcl:∀y∈scope.names,y.2=.free->∃c,X.env.cells.lookup y.1=Z c:=λy hy e=>I.ok.has y.1 (hfree' y hy e);calc wpAny_comprehension_free O hs (IS hcl) hkind hloc' (thn (hi pins s σ H _ I h) λxv s₁ h₁=>thn h₁ λit s₂ h₂=>?_);let#v[ita,fp,tn,At,H2,e,I2,T,st2,f2,R2]:=h₂;subst e;let#v[W,#v[m0,w0],turn]:=R2 (~~~s₂) (I2.hok.fresh (aS _));calc eL (wpAny_newFunctionEnv hcell' (by intro y hy;simp at hy) (λh₁ hns₁ hsb₁=>?_) hkind);dsimp only at hns₁ hsb₁ ⊢;generalize hp:s₂.heap.push { cls:=.type "list", dict:=J,data:=.seq ([]:List ae).toArray }=hpL at hns₁ hsb₁ ⊢;have hsz:hpL.objs.size= ~~~s₂+1:=by rw[<-hp,b9]
 have I3:Inv X pins σ (upd H2 (~~~s₂) (.lst [])) { s₂ with heap:=hpL }:=by rw[<-hp];show I2.laid (t':=s₂.toks) (λb u e=>aC _ e) (aS _) ⟨cc _,[],0,.nil,bq _ O⟩
 have old:∀b o,hpL.get? b=Z o->h₁.get? b=Z o:=λb o e=>hsb₁.extBut b o (aV (aK e)) (aC _ e);have older:∀b o,s₂.heap.get? b=Z o->hpL.get? b=Z o:=λb o e=>by rw[<-hp];show aC _ e
 have hfpS:∀b∈fp,b< ~~~s₂:=λb hb=>let ⟨o,e,_⟩:=T.obj _ _ st2 b hb;aK e;have sub:∀x c,(yK X.env.cells scope.names).lookup x=Z c->X.env.cells.lookup x=Z c:=Lv scope.names [] hcl (λx c e=>by ext e);have ok':(vJ X N' scope (yK X.env.cells scope.names) hpL.objs.size fp { s₂ with heap:=hpL } (upd H2 (~~~s₂) (.lst []))).Ok:={
  mod:=I3.ok.mod
  kind:=hkind
  glob:=I3.ok.glob
  blt:=I3.ok.blt
  above:=aS _
  inj:=λx y c h1 h2=>I3.ok.inj x y c (sub x c h1) (sub y c h2)
  has:=λx hx=>G6 scope.names [] x (MQ hcell' hx)
  cab:=λx c hf _=>ar (show δ=γ from hf) bA
  hd:=I3.ok.hd
  frames:=I3.ok.frames
  stk:=.inl O
  exf:=λb hb=>⟨(by
   change b≠hpL.objs.size;rw[hsz];show aV (dj (hfpS b hb))),λx c e=>(f2 b hb).2.2.2.2.1 x c (sub x c e)⟩
  bs:=I3.bs
  bsz:=bM I3.ok.bsz I3.sz
  noex:=λb o e hb=>by
   rcases(f2 b hb).2.2.2.1 with z|z
   .show I3.ok.noex b o e z
   .show ar (bY (aK e) (bM I3.ok.bsz z)) (dN _)
  exfs:=λb hb z=>(aQ.mp (I3.stkSub b z)).elim (f2 b hb).2.1 (f2 b hb).2.2.1
  funs:=I3.stack
  frf:=I3.stkFree }
 have IX:Inv (vJ X N' scope (yK X.env.cells scope.names) hpL.objs.size fp { s₂ with heap:=hpL } (upd H2 (~~~s₂) (.lst []))) [] (xI k cap σ) (upd H2 (~~~s₂) (.lst []))
   { s₂ with heap:=h₁,toks:=s₂.toks+([]:List (Str×ae)).length }:={
  ok:=ok'
  os:=rfl
  bare:=I3.bare
  base:=Un.kept old
  loc:=⟨_,hns₁,λi x v e1 e2 _=>by
   let#v[j,hj,hσ,hm]:=PF hcap e1 e2;have hx:scope.names.lookup x=Z .free:=by exists bc.mp hcf x hm
   have hk:=hfree' (x,.free) (mem_of_lookup hx) O;let#v[m,hn,hl]:=I3.loc;let#v[u,r,lk]:=hl j x v hj hσ (hk.elim (λz=>.inr (.inl z)) λz=>.inr (.inr z));calc⟨u,r,.inr ⟨IT hx,?_⟩⟩;rcases lk with ⟨z,_⟩|⟨_,c,e,o,ho,hd⟩
   .rcases hk with y|y
    .rw[y]at z;ext z
    .rw[y]at z;ext z
   .let#v[c',e']:=G6 (cells:=X.env.cells) scope.names [] x (mem_of_lookup hx);have ec:=sub x c' e';rw[e]at ec;have ec':c=c':=cy ec;subst ec';show⟨c,e',o,old _ _ ho,hd⟩⟩
  cell:=λx c e=>by let#v[v,o,ho,hd]:=I3.cell x c (sub x c e);show⟨v,o,old _ _ ho,hd⟩
  free:=I3.hok.fresh (aS _)
  freeC:=λx c e=>I3.freeC x c (sub x c e)
  pin:=λp hp=>ar (show p∈([]:cJ) from hp) (by simp)
  hok:=I3.hok.kept old
  len:=by
   change (xI k cap σ).length=N'.length;rw[hlen];delta xI;rw[aM,c6,aq] }
 have stat:∀{H':Hp},(∀b∈fp,H' b=J)->∀b∈fp,IM (vJ X N' scope (yK X.env.cells scope.names) hpL.objs.size fp { s₂ with heap:=hpL } (upd H2 (~~~s₂) (.lst []))) [] H' b:=λhn b hb=>⟨hn b hb,(ok'.exf b hb).1,ok'.exfs b hb,.inl hb,(ok'.exf b hb).2,λp hp=>ar (show p∈([]:cJ) from hp) (by simp)⟩
 have st4:tn 0 h₁:=T.keep _ _ _ st2 λb _ o e=>old b o (older b o e);have loop:cf (model X.prog X.w) X.A (.compLoop (.ListComp elt [⟨tg,iter,ifs,0⟩] scope pos) 0 (.ref ita) (.ref (~~~s₂)) (compEnvC scope (yK X.env.cells scope.names) hpL.objs.size X.env))
   (compPost (model X.prog X.w) X.A X.xe use P (.ref (~~~s₂)) hpL.objs.size) { s₂ with heap:=h₁,toks:=s₂.toks+([]:List (Str×ae)).length }:=by
  refine Kv (λn s'=>∃i acc H',Inv (vJ X N' scope (yK X.env.cells scope.names) hpL.objs.size fp { s₂ with heap:=hpL } (upd H2 (~~~s₂) (.lst []))) [] (xI k cap σ) H' s'/\tn i s'.heap/\(∀b∈fp,H' b=J)/\W i n acc H')
   ?_ m0 ⟨0,[],_,IX,st4,λb hb=>?_,w0⟩
  .rintro n s3 ⟨i,acc,H3,I4,st3,fr3,w3⟩;rcases turn i n acc H3 w3 with ⟨stop,qn⟩|⟨go,step⟩
   .calc thn (T.done (vJ X N' scope (yK X.env.cells scope.names) hpL.objs.size fp { s₂ with heap:=hpL } (upd H2 (~~~s₂) (.lst []))) O O O hc i [] s3 _ H3 _ I4 (stat fr3) st3 stop) λr s4 zz=>?_;let#v[hr,I5]:=zz;subst hr;let#v[m,hn,_]:=id I5.loc;have U:=I5.base;refine fin _ _ m _ _ _ hn (I3.call' (s':=s4) (ch:=fp) I5.os ⟨λb o e n hb hx=>U.keep b o e n hb hx,λb o e n hb hx=>U.slot b o e n hb hx,U.free,λb o e hx=>U.there b o e hx,U.tups,U.frzs,U.tbls⟩ I5.hok I5.bare
     λb hb=>⟨(f2 b hb).2.2.2.1,(f2 b hb).2.1,(f2 b hb).2.2.2.2.1,(f2 b hb).2.2.2.2.2⟩) (I3.fpOk (aS _) I5.free) qn
   .calc thn (T.item (vJ X N' scope (yK X.env.cells scope.names) hpL.objs.size fp { s₂ with heap:=hpL } (upd H2 (~~~s₂) (.lst []))) O O O hc i [] s3 _ H3 _ I4 (stat fr3) st3 go) λr s4 zz=>?_;let#v[u,hr,h4]:=zz;subst hr;calc thn h4 λ_ s5 zz=>?_;let#v[x,H5,I5,r5,y5,st5,fr5]:=zz;have I5':=I5.pinned (stat fr5) (T.obj _ _ st5);have again:∀{H8:Hp} {s8:af} {σ8:St} {acc8:bN} {m':Nat},Inv (vJ X N' scope (yK X.env.cells scope.names) hpL.objs.size fp { s₂ with heap:=hpL } (upd H2 (~~~s₂) (.lst []))) ([]++GY fp s5.heap) σ8 H8 s8->σ8.drop k=(xI k cap σ).drop k->m'<n->W (i+1) m' acc8 H8->
      ∃m,m<n/\∃i acc H',Inv (vJ X N' scope (yK X.env.cells scope.names) hpL.objs.size fp { s₂ with heap:=hpL } (upd H2 (~~~s₂) (.lst []))) [] (xI k cap σ) H' s8/\tn i s8.heap/\(∀b∈fp,H' b=J)/\W i m acc H':=λ{H8 s8 σ8 acc8 m'} I8 hd8 hm8 w8=>by
     refine⟨m',hm8,i+1,acc8,H8,I8.unpinned.weak (IX.len.trans I8.len.symm) (λj v e=>?_),T.keep _ _ _ st5 λb hb o e=>(I8.pin (b,o) (bE _ (bE _ (zm hb e)))).1,λb hb=>?_,w8⟩
     .have hj:=Jp e;have q:(σ8.drop k)[j - k]?=((xI k cap σ).drop k)[j - k]?:=by rw[hd8]
      rw[eI,eI,show k+(j - k)=j by omega]at q;rw[q];show e
     .let#v[o,e,d]:=T.obj _ _ st5 b hb;show(I8.pin (b,o) (bE _ (bE _ (zm hb e)))).2.1
    calc bZ ((body _ _ _ _ _).1 _ s5 _ H5 x u _ I5' r5 (step x H5 y5)) (λ_ s6 h6=>?_) λ_ _ f=>f.elim;let#v[σ6,H6,I6,hd6,q6]:=h6;calc bZ ((body _ _ _ _ _).2.1 _ s6 σ6 H6 _ I6 q6) (λb s7 h7=>?_) λ_ _ f=>f.elim;let#v[H7,I7,q7]:=h7;cases b with
    |false=>rw[ak bA]at q7;rw[ak bA];let#v[m',hm',w7]:=q7;show again I7 hd6 hm' w7
    |true=>rw[ao O]at q7;rw[ao O];calc bZ ((body _ _ _ _ _).2.2 _ s7 σ6 H7 _ I7 q7) (λyv s8 h8=>?_) λ_ _ f=>f.elim;let#v[y,H8,I8,r8,acc',hp8,hl8,m',hm',w8]:=h8;calc bZ (EX (X:=vJ X N' scope (yK X.env.cells scope.names) hpL.objs.size fp { s₂ with heap:=hpL } (upd H2 (~~~s₂) (.lst []))) _ s8 σ6 H8 (.ref (~~~s₂)) [y] (.ref (~~~s₂)) [yv] (λ_ Hx=>Hx=upd H8 (~~~s₂) (.lst (acc'++[y]))) I8 O (.cons r8 .nil) ⟨_,acc',y,O,O,hp8,hl8,O⟩) (λ_ s9 h9=>?_) λ_ _ f=>f.elim;let#v[_,H9,I9,_,e9]:=h9;subst e9;show again I9 hd6 hm' w8
  .have z:b≠~~~s₂:=aV (hfpS b hb);rw[tT z];show(f2 b hb).1
 show codeAny_compStart_list loop (T.self _ 0 _ _ _ st4 loop)
def UQ{X:Cx}{cap:List Nat}
  (hc:X.calm=γ) (hi:PI X tg iter wi)
  (body:∀(cl:List (Str×Addr)) (C:Addr) (fp:List Addr) (s:af) (H:Hp),PG (vJ X N' scope cl C fp s H) tg g/\PIf (vJ X N' scope cl C fp s H) ifs tt/\PE (vJ X N' scope cl C fp s H) elt te)
  (hkind:scope.kind=.function:=by rfl) (hcell:(scope.names.all λy=>y.2 != .cell)=γ:=by rfl)
  (hloc:(scope.names.all λy=>y.2 != .local||scope.names.lookup y.1==Z .local)=γ:=by rfl)
  (hfree:(scope.names.all λy=>y.2 != .free||(X.env.kindOf y.1==Z .cell||X.env.kindOf y.1==Z .free))=γ:=by rfl)
  (hlen:N'.length=k+cap.length:=by rfl) (hcap:(N'.drop k).map Z=cap.map λj=>X.N[j]?:=by rfl)
  (hcf:((N'.drop k).all λx=>scope.names.lookup x==Z .free)=γ:=by rfl)
  (hs:∀x,ig iter X.env x=pure x:=by intro _;rfl):
  PE X (.ListComp elt [⟨tg,iter,ifs,0⟩] scope pos) (Fw wi g tt te k cap):=by
 sleep 11
 show Jq hc hi body hkind hcell hloc hfree hlen hcap hcf hs I h λa C m u s4 H3 hn back fpC qn=>⟨m,hn,λh' hs'=>⟨.ref a,H3,back.turned (t':=s4.toks) (λb o hb e=>(hs'.2 b hb).trans e) fpC.1 fpC.2.1 fpC.2.2.2.1 fpC.2.2.2.2.1 fpC.2.2.2.2.2,O,qn⟩⟩
def Its(x:Str):It:=⟨λi _=>i<x.cps.size,λi H v H'=>H'=H/\∃c,x.cps[i]?=Z c/\v=.str ⟨#[c]⟩,λi _=>i=x.cps.size⟩
def X2(hQ:Q Unit.unit s):ah M A (gn tg (.ref it) (.str c t)) Q E s:=by delta gn;ext tg<;>show au hQ
def Lw{K:av}(it:Addr)(ty:String)(x:Str)(t:Tok)
  (hW:∀A:aP,A.handled=J->Walks P w A it [it] [it] x.cps.size (SignAt x) (λi h=>h.IsStrIter it ty x t i))
  (hS:∀(A:aP) (i:Nat) (s:af) (Q:ae->af->Prop) (E:ae->af->Prop),s.heap.IsStrIter it ty x t i->Q (.ref it) s->ah (model P w) A (pyIter (.ref it)) Q E s):
  Turn P w K tg (Its x) [it] it (λi h=>h.IsStrIter it ty x t i) where
 mem:=by simp
 obj:=λi h st b hb=>by
  have e:b=it:=by exists hb
  subst e;let#v[o,e,c,d]:=st;show⟨o,e,λv z=>by rw[d]at z;ext z⟩
 keep:=λi h h' st k=>by let#v[o,e,r]:=st;show⟨o,k it (by simp) o e,r⟩
 item:=by
  sleep 8
  let#v[f0,f1,f2,f3,f4,f5]:=hf it (by simp);calc(hW _ (I.ok.hd hc)).item i s _ _ hg st λv h' tk hv st' kk=>?_;let#v[c,t',hc',rfl]:=hv;have I1:Inv X pins σ H { s with heap:=h',toks:=tk }:=I.turned (λb o hb e=>kk b o (by exists hb) e) f0 f1 f3 f4 f5;show⟨_,O,X2 ⟨.str ⟨#[c]⟩,H,I1,⟨t',O⟩,⟨O,c,hc',O⟩,st',λb hb=>(hf b hb).1⟩⟩
 done:=by
  sleep 8
  let#v[f0,f1,f2,f3,f4,f5]:=hf it (by simp);have hg':i=x.cps.size:=hg;subst hg';show(hW _ (I.ok.hd hc)).done s _ _ st λh' tk kk=>⟨O,I.turned (λb o hb e=>kk b o (by exists hb) e) f0 f1 f3 f4 f5⟩
 self:=hS
section
variable{X:Cx}{tg:Expr}
def iStr(tl:TE):TI:=λσ H R=>tl σ H λv H1=>∃x,v=.str x/\R (Its x) H1
def X3(hl:PE X l tl):PI X tg l (iStr tl):=by
 intro pins s σ H R I h;calc thn (hl pins s σ H _ I h) λv s1 zz=>?_;let#v[x,H1,I1,r1,q1]:=zz;let#v[z,e,q]:=q1;subst e;let#v[t,rfl]:=r1;have fp:∀b∈[~~~s1],IM X pins H1 b:=λb hb=>by
  have e:b= ~~~s1:=by exists hb
  subst e;show I1.fpOk (aS _) (I1.hok.fresh (aS _))
 cases ha:z.cps.all (· < 128)
 .refine wpAny_pyIter_wide ha ⟨~~~s1,[~~~s1],_,_,H1,O,I1.kept (t':=s1.toks) λb o e=>aC _ e,Lw _ "str_iterator" z t (λA hA=>Walks.strWide hA _ z t) (λA i s Q E st hQ=>wpAny_pyIter_striter_wide st hQ),⟨_,bq _ O,O,O⟩,fp,q⟩
 .calc wpAny_pyIter_ascii ha ⟨~~~s1,[~~~s1],_,_,H1,O,I1.kept (t':=s1.toks) λb o e=>aC _ e,Lw _ "str_ascii_iterator" z t (λA hA=>Walks.strAscii hA _ z t) (λA i s Q E st hQ=>wpAny_pyIter_striter_ascii st hQ),⟨_,bq _ O,O,O⟩,fp,q⟩
end
section
variable{X:Cx}
def PH:OpR X (bD .LtE) (λx y H Q=>∃i j,x=.str i/\y=.str j/\Q (.bl (!decide (j.cps.toList<i.cps.toList))) H):=by intro pins s σ H x y v u Q I rx ry h;let#v[i,j,rfl,rfl,q]:=h;let#v[t,rfl]:=rx;let#v[t',rfl]:=ry;show PySem.P.le_str (uA I q O)
def Q9(hc:X.calm=γ):vT X (.builtin "all") (λxs H Q=>∃(p:Addr) (bs:List Bool),xs=[.ref p]/\SqL X.K H p (bs.map V.bl)/\Q (.bl (bs.all id)) H):=by
 intro pins s σ H xs us Q I r h;let#v[p,bs,rfl,hq,q]:=h;let#v[u,rfl,ru]:=vals1 r;ext ru;let#v[its,rv,pl,hz]:=I.list hq;have hlt:p< ~~~s:=by let#v[o,ho,_]:=pl.isList;show aK ho
 have hl:bs.length=its.length:=by have:=rv.length;rw[aq]at this;show this
 refine call_all_walk (eK pl.isList ⟨~~~s,_,_,_,_,_,λi=>(bs[i]?).getD γ,O,gy (show X.A.in1.handled=J from I.ok.hd hc) _ p (aV hlt) its.toArray,⟨⟨_,bq _ O,O,O⟩,?_⟩,?_,λh' tk hk=>?_⟩)
 .show pl.isList.at λo e=>aC _ e
 .intro i v s' Q' E' hv hQ';have hv':its[i]?=Z v:=by exists hv
  have hi:i<its.length:=(ck.mp hv').1;have hb:(bs.map V.bl)[i]?=Z (.bl (bs[i]'())):=by simp[show i<bs.length by omega]
  let#v[u,hu,ru]:=rv.get hb;rw[hv']at hu;ext hu;ext ru;calc dm ?_;have e:(bs[i]?).getD γ=bs[i]'():=by simp[show i<bs.length by omega]
  rw[<-e];show hQ'
 .refine⟨.bl (bs.all id),H,?_,?_,q⟩
  .show I.kept (t':=tk) λb o e=>hk b o (by simp;show aV (aK e)) (aC _ e)
  .change Value.bool _=Value.bool _;congr 1;rw[bB,<- hl];rw[dM];erw[bc,cu,id];constructor
   .intro hh b hb;let#v[i,hi,rfl]:=kl.mp hb;have:=hh i hi;simpa [hi]using this
   .intro hh i hi;erw[bg hi,oR];show hh _ (fH hi)
end
inductive Dq where
 |non|bl (b:Bool)|int (i:Int)|str (x:Str)|tup (ds:List Dq)|lst (ds:List Dq)
mutual
def Rep(K:av)(H:Hp):Dq->V->Prop
 |.non,v=>v=.non
 |.bl b,v=>v=.bl b
 |.int i,v=>v=.int i
 |.str x,v=>v=.str x
 |.tup ds,v=>∃a xs,v=.ref a/\SqT K H a xs/\Reps K H ds xs
 |.lst ds,v=>∃a xs,v=.ref a/\SqL K H a xs/\Reps K H ds xs
def Reps(K:av)(H:Hp):List Dq->bN->Prop
 |[],xs=>xs=[]
 |d::ds,xs=>∃v r,xs=v::r/\Rep K H d v/\Reps K H ds r
end
mutual
def eqD:Dq->Dq->Bool
 |.non,.non=>γ
 |.bl a,.bl b=>a==b
 |.bl a,.int b=>(if a then 1 else 0)==b
 |.int a,.bl b=>a==(if b then 1 else 0)
 |.int a,.int b=>a==b
 |.str a,.str b=>a==b
 |.tup a,.tup b=>Aw a b
 |.lst a,.lst b=>Aw a b
 |_,_=>δ
def Aw:List Dq->List Dq->Bool
 |[],[]=>γ
 |a::r,b::q=>eqD a b&&Aw r q
 |_,_=>δ
end
mutual
def dpt:Dq->Nat
 |.tup ds=>vA ds+1
 |.lst ds=>vA ds+1
 |_=>0
def vA:List Dq->Nat
 |[]=>0
 |d::r=>max (dpt d) (vA r)
end
mutual
theorem Lx:∀d:Dq,eqD d d=γ
 |.non=>by delta eqD;rfl
 |.bl b=>by delta eqD;simp
 |.int i=>by delta eqD;simp
 |.str x=>by delta eqD;simp
 |.tup ds=>by delta eqD;show EY ds
 |.lst ds=>by delta eqD;show EY ds
theorem EY:∀ds:List Dq,Aw ds ds=γ
 |[]=>by delta Aw;rfl
 |d::r=>by delta Aw;rw[Lx d,EY r];rfl
end
theorem tP{K:av}:∀{ds:List Dq} {xs:bN},Reps K H ds xs->ds.length=xs.length
 |[],xs,h=>by delta Reps at h;subst h;rfl
 |d::ds,xs,h=>by delta Reps at h;let#v[v,r,rfl,_,h2]:=h;rw[aT,aT,tP h2]
def eAt(ds ds':List Dq)(j:Nat):Bool:=match ds[j]?,ds'[j]? with
 |some a,Z b=>eqD a b
 |_,_=>γ
theorem G7:∀(ds ds':List Dq),Aw ds ds'=γ ↔ ds.length=ds'.length/\∀j,j<ds.length->eAt ds ds' j=γ
 |[],[]=>by simp[Aw]
 |[],b::q=>by simp[Aw]
 |a::r,[]=>by simp[Aw]
 |a::r,b::q=>by
  have ih:=G7 r q;delta Aw;rw[aW,ih,aT,aT];constructor
  .rintro⟨h1,h2,h3⟩;calc⟨by omega,λj hj=>?_⟩;cases j with
   |zero=>show h1
   |succ j=>show h3 j ()
  .rintro⟨h1,h2⟩;show⟨h2 0 (),by omega,λj hj=>h2 (j+1) ()⟩
def A0{ds ds':List Dq}(hn:ds.length=n)(hm:ds'.length=m):((bu (min n m)).all (eAt ds ds')&&n==m)=Aw ds ds':=by
 rw[dM,G7,aW,bc];subst hn hm;constructor
 .rintro⟨h1,h2⟩;have e:ds.length=ds'.length:=by exists h2
  show⟨e,λj hj=>h1 j (cu.mpr ())⟩
 .rintro⟨e,h⟩;show⟨λj hj=>h j (by have:=cu.mp hj;omega),by exists e⟩
def BP{ds ds':List Dq}(hn:ds.length=n)(hm:ds'.length=n):(bu n).all (eAt ds ds')=Aw ds ds':=by rw[<-A0 hn hm];simp
def G8{ds ds':List Dq}(h:ds.length≠ds'.length):Aw ds ds'=δ:=by
 cases e:Aw ds ds' with
 |false=>rfl
 |true=>show ar ((G7 ds ds').mp e).1 h
section
variable{X:Cx}{pins:cJ}{σ:St}{H:Hp}{s:af}
def WC(I:Inv X pins σ H s)(h:SqL X.K H a xs)(h':SqT X.K H a ys):False:=by let#v[its,_,p,_]:=I.list h;let#v[its',_,p',_]:=I.tuple h';show SeqAt.ne_of_list_tuple p.isList (show s.heap.IsTuple a its'.toArray from p') O
mutual
theorem G9(I:Inv X pins σ H s):∀(d d':Dq) (v:V),Rep X.K H d v->Rep X.K H d' v->eqD d d'=γ
 |.non,d',v,h,h'=>by delta Rep at h;subst h;ext d'<;>delta Rep at h'<;>first|rfl|(show nomatch h')|(let#v[_,_,e,_]:=h';show nomatch e)
 |.bl b,d',v,h,h'=>by delta Rep at h;subst h;ext d'<;>delta Rep at h'<;>first|(let#v[_,_,e,_]:=h';ext e)|(ext h'<;>simp[eqD])
 |.int b,d',v,h,h'=>by delta Rep at h;subst h;ext d'<;>delta Rep at h'<;>first|(let#v[_,_,e,_]:=h';ext e)|(ext h'<;>simp[eqD])
 |.str b,d',v,h,h'=>by delta Rep at h;subst h;ext d'<;>delta Rep at h'<;>first|(let#v[_,_,e,_]:=h';ext e)|(ext h'<;>simp[eqD])
 |.tup ds,d',v,h,h'=>by
  delta Rep at h;let#v[a,xs,rfl,hq,hr]:=h;cases d' with
  |tup ds'=>delta Rep at h';let#v[a',xs',e,hq',hr']:=h';ext e;have ex:=I.tuple_inj hq hq';subst ex;delta eqD;show EZ I ds ds' xs hr hr'
  |lst ds'=>delta Rep at h';let#v[a',xs',e,hq',hr']:=h';ext e;show(WC I hq' hq).elim
  |_=>delta Rep at h';show nomatch h'
 |.lst ds,d',v,h,h'=>by
  delta Rep at h;let#v[a,xs,rfl,hq,hr]:=h;cases d' with
  |lst ds'=>delta Rep at h';let#v[a',xs',e,hq',hr']:=h';ext e;have ex:=I.list_inj hq hq';subst ex;delta eqD;show EZ I ds ds' xs hr hr'
  |tup ds'=>delta Rep at h';let#v[a',xs',e,hq',hr']:=h';ext e;show(WC I hq hq').elim
  |_=>delta Rep at h';show nomatch h'
theorem EZ(I:Inv X pins σ H s):∀(ds ds':List Dq) (xs:bN),Reps X.K H ds xs->Reps X.K H ds' xs->Aw ds ds'=γ
 |[],ds',xs,h,h'=>by
  delta Reps at h;subst h;cases ds' with
  |nil=>rfl
  |cons d r=>delta Reps at h';let#v[_,_,e,_]:=h';show nomatch e
 |d::ds,ds',xs,h,h'=>by
  delta Reps at h;let#v[v,r,rfl,h1,h2]:=h;cases ds' with
  |nil=>delta Reps at h';show nomatch h'
  |cons d' r'=>delta Reps at h';let#v[v',q,e,h1',h2']:=h';ext e;delta Aw;rw[G9 I d d' v h1 h1',EZ I ds r' r h2 h2'];rfl
end
mutual
theorem X4(I:Inv X pins σ H s):∀(d d':Dq) (x y:V) (u v:ae) (A:aP),Rep X.K H d x->Rep X.K H d' y->RelV x u->RelV y v->A.units+dpt d+dpt d'<cLine->jw A s u v (eqD d d')
 |.tup ds,d',x,y,u,v,A,hx,hy,ru,rv,hu=>by
  delta Rep at hx;let#v[a,xs,rfl,hq,hr]:=hx;ext ru;let#v[its,rx,p,_]:=I.tuple hq;have p:s.heap.IsTuple a its.toArray:=p;cases d' with
  |non=>delta Rep at hy;subst hy;ext rv;show rT p ()
  |bl b=>delta Rep at hy;subst hy;ext rv;show rV b p ()
  |int b=>delta Rep at hy;subst hy;let#v[t,rfl]:=rv;show sf b t p ()
  |str b=>delta Rep at hy;subst hy;let#v[t,rfl]:=rv;show sg b t p ()
  |lst ds'=>
   sleep 7
   let#v[its',ry,p',_]:=I.list hq';show rW p p'.isList ()
  |tup ds'=>
   have hy0:=hy
   sleep 7
   let#v[its',ry,p',_]:=I.tuple hq';have p':s.heap.IsTuple b its'.toArray:=p';by_cases hab:a=b
   .subst hab;have e:eqD (.tup ds) (.tup ds')=γ:=G9 I _ _ (.ref a) (by delta Rep;show⟨a,xs,O,hq,hr⟩) hy0;rw[e];show kN _
   .have hd:dpt (.tup ds)=vA ds+1:=by rw[dpt]
    have hd':dpt (.tup ds')=vA ds'+1:=by rw[dpt]
    have q:=sR (A:=A) (e:=eAt ds ds') p p' () λj h1 h2=>by have z:=A1 I ds ds' xs ys its its' A.in1 hr hr' rx ry (by change A.units+1+vA ds+vA ds'<cLine;omega) j (by exists h1) (by exists h2);exists z
    rw[A0 (by rw[tP hr,rx.length];simp) (by rw[tP hr',ry.length];simp)]at q;show kA hab (by delta eqD;show q)
 |.lst ds,d',x,y,u,v,A,hx,hy,ru,rv,hu=>by
  delta Rep at hx;let#v[a,xs,rfl,hq,hr]:=hx;ext ru;let#v[its,rx,p,_]:=I.list hq;have p:=p.isList;cases d' with
  |non=>delta Rep at hy;subst hy;ext rv;show sj p ()
  |bl b=>delta Rep at hy;subst hy;ext rv;show sk b p ()
  |int b=>delta Rep at hy;subst hy;let#v[t,rfl]:=rv;show sE b t p ()
  |str b=>delta Rep at hy;subst hy;let#v[t,rfl]:=rv;show sF b t p ()
  |tup ds'=>
   sleep 7
   let#v[its',ry,p',_]:=I.tuple hq';show rX p (show s.heap.IsTuple b its'.toArray from p') ()
  |lst ds'=>
   have hy0:=hy
   sleep 7
   let#v[its',ry,p',_]:=I.list hq';have p':=p'.isList;by_cases hab:a=b
   .subst hab;have e:eqD (.lst ds) (.lst ds')=γ:=G9 I _ _ (.ref a) (by delta Rep;show⟨a,xs,O,hq,hr⟩) hy0;rw[e];show kN _
   .have hd:dpt (.lst ds)=vA ds+1:=by rw[dpt]
    have hd':dpt (.lst ds')=vA ds'+1:=by rw[dpt]
    by_cases hl:its.length=its'.length
    .have q:=sT (A:=A) (e:=eAt ds ds') p p' (by exists hl) () λj h1 h2=>by have z:=A1 I ds ds' xs ys its its' A.in1 hr hr' rx ry (by change A.units+1+vA ds+vA ds'<cLine;omega) j (by exists h1) (by exists h2);exists z
     rw[BP (by rw[tP hr,rx.length];simp) (by rw[tP hr',ry.length,<- hl];simp)]at q;show kA hab (by delta eqD;show q)
    .have e:eqD (.lst ds) (.lst ds')=δ:=by delta eqD;show G8 (by rw[tP hr,tP hr',rx.length,ry.length];show hl)
     rw[e];show kA hab (rP p p' (by exists hl) ())
 |.non,d',x,y,u,v,A,hx,hy,ru,rv,hu=>by
  delta Rep at hx;subst hx;cases d' with
  |tup ds'=>
   sleep 7
   ext ru;let#v[its',ry,p',_]:=I.tuple hq';show rY (show s.heap.IsTuple b its'.toArray from p') ()
  |lst ds'=>
   sleep 7
   ext ru;let#v[its',ry,p',_]:=I.list hq';show sm p'.isList ()
  |_=>delta Rep at hy;subst hy;show G2 ru rv O O
 |.bl c,d',x,y,u,v,A,hx,hy,ru,rv,hu=>by
  delta Rep at hx;subst hx;cases d' with
  |tup ds'=>
   sleep 7
   ext ru;let#v[its',ry,p',_]:=I.tuple hq';show rZ c (show s.heap.IsTuple b its'.toArray from p') ()
  |lst ds'=>
   sleep 7
   ext ru;let#v[its',ry,p',_]:=I.list hq';show sq c p'.isList ()
  |_=>delta Rep at hy;subst hy;show G2 ru rv O O
 |.int c,d',x,y,u,v,A,hx,hy,ru,rv,hu=>by
  delta Rep at hx;subst hx;cases d' with
  |tup ds'=>
   sleep 7
   let#v[t,rfl]:=ru;let#v[its',ry,p',_]:=I.tuple hq';show sr c t (show s.heap.IsTuple b its'.toArray from p') ()
  |lst ds'=>
   sleep 7
   let#v[t,rfl]:=ru;let#v[its',ry,p',_]:=I.list hq';show sG c t p'.isList ()
  |_=>delta Rep at hy;subst hy;show G2 ru rv O O
 |.str c,d',x,y,u,v,A,hx,hy,ru,rv,hu=>by
  delta Rep at hx;subst hx;cases d' with
  |tup ds'=>
   sleep 7
   let#v[t,rfl]:=ru;let#v[its',ry,p',_]:=I.tuple hq';show su c t (show s.heap.IsTuple b its'.toArray from p') ()
  |lst ds'=>
   sleep 7
   let#v[t,rfl]:=ru;let#v[its',ry,p',_]:=I.list hq';show sH c t p'.isList ()
  |_=>delta Rep at hy;subst hy;show G2 ru rv O O
theorem A1(I:Inv X pins σ H s):∀(ds ds':List Dq) (xs ys:bN) (us vs:List ae) (A:aP),Reps X.K H ds xs->Reps X.K H ds' ys->Vals xs us->Vals ys vs->A.units+vA ds+vA ds'<cLine->
  ∀(j:Nat) (h1:j<us.length) (h2:j<vs.length),jw A s us[j] vs[j] (eAt ds ds' j)
 |[],ds',xs,ys,us,vs,A,hx,hy,ru,rv,hu,j,h1,h2=>by
  have:=tP hx;have:=ru.length;erw[fL]at *
  omega
 |d::ds,[],xs,ys,us,vs,A,hx,hy,ru,rv,hu,j,h1,h2=>by
  have:=tP hy;have:=rv.length;erw[fL]at *
  omega
 |d::ds,d'::ds',xs,ys,us,vs,A,hx,hy,ru,rv,hu,j,h1,h2=>by
  delta Reps at hx hy;let#v[x,xr,rfl,hx1,hx2]:=hx;let#v[y,yr,rfl,hy1,hy2]:=hy;have e1:vA (d::ds)=max (dpt d) (vA ds):=by rw[vA]
  have e2:vA (d'::ds')=max (dpt d') (vA ds'):=by rw[vA]
  cases ru with
  |cons r1 r2=>
   cases rv with
   |cons q1 q2=>
    cases j with
    |zero=>show X4 I d d' x y _ _ A hx1 hy1 r1 q1 ()
    |succ j=>show A1 I ds ds' xr yr _ _ A hx2 hy2 r2 q2 () j (by exists h1) (by exists h2)
end
def Rb:Dq->Dq->Bool
 |.tup _,.tup _=>γ
 |.lst _,.lst _=>γ
 |_,_=>δ
def MR(K:av)(neg:Bool):R2:=λx y H Q=>∃d d',Rep K H d x/\Rep K H d' y/\Rb d d'=γ/\dpt d<=20/\dpt d'<=20/\Q (.bl (if neg then !eqD d d' else eqD d d')) H
def X5(hu:X.A.units+64<cLine):OpR X (bD .Eq) (MR X.K δ):=by
 intro pins s σ H x y u v Q I ru rv h;let#v[d,d',hx,hy,hd,h1,h2,q]:=h;cases d with
 |tup ds=>
  cases d' with
  |tup ds'=>
   have hd1:dpt (.tup ds)=vA ds+1:=by rw[dpt]
   have hd2:dpt (.tup ds')=vA ds'+1:=by rw[dpt]
   delta Rep at hx hy;let#v[a,xs,rfl,hq,hr]:=hx;let#v[b,ys,rfl,hq',hr']:=hy;ext ru;ext rv;let#v[its,rx,p,_]:=I.tuple hq;let#v[its',ry,p',_]:=I.tuple hq';refine SeqAt.eq_tupleAt (e:=eAt ds ds') (show s.heap.IsTuple a its.toArray from p) (show s.heap.IsTuple b its'.toArray from p') () (λj h1 h2=>?_) ?_
   .have z:=A1 I ds ds' xs ys its its' X.A.in1 hr hr' rx ry (by change X.A.units+1+vA ds+vA ds'<cLine;omega) j (by exists h1) (by exists h2);exists z
   .rw[A0 (by rw[tP hr,rx.length];simp) (by rw[tP hr',ry.length];simp)];delta eqD at q;show uA I q O
  |_=>show nomatch hd
 |lst ds=>
  cases d' with
  |lst ds'=>
   have hd1:dpt (.lst ds)=vA ds+1:=by rw[dpt]
   have hd2:dpt (.lst ds')=vA ds'+1:=by rw[dpt]
   delta Rep at hx hy;let#v[a,xs,rfl,hq,hr]:=hx;let#v[b,ys,rfl,hq',hr']:=hy;ext ru;ext rv;let#v[its,rx,p,_]:=I.list hq;let#v[its',ry,p',_]:=I.list hq';by_cases hl:its.length=its'.length
   .refine SeqAt.eq_listAt (e:=eAt ds ds') p.isList p'.isList (by exists hl) () (λj h1 h2=>?_) ?_
    .have z:=A1 I ds ds' xs ys its its' X.A.in1 hr hr' rx ry (by change X.A.units+1+vA ds+vA ds'<cLine;omega) j (by exists h1) (by exists h2);exists z
    .rw[BP (by rw[tP hr,rx.length];simp) (by rw[tP hr',ry.length,<- hl];simp)];delta eqD at q;show uA I q O
   .calc SeqAt.eq_list_lengthsAt p.isList p'.isList (by exists hl) () ?_;have e:Aw ds ds'=δ:=G8 (by rw[tP hr,tP hr',rx.length,ry.length];show hl);delta eqD at q;rw[e]at q;show uA I q O
  |_=>show nomatch hd
 |_=>show nomatch hd
def X6(hu:X.A.units+64<cLine):OpR X (bD .NotEq) (MR X.K γ):=by
 intro pins s σ H x y u v Q I ru rv h;let#v[d,d',hx,hy,hd,h1,h2,q]:=h;cases d with
 |tup ds=>
  cases d' with
  |tup ds'=>
   have hd1:dpt (.tup ds)=vA ds+1:=by rw[dpt]
   have hd2:dpt (.tup ds')=vA ds'+1:=by rw[dpt]
   delta Rep at hx hy;let#v[a,xs,rfl,hq,hr]:=hx;let#v[b,ys,rfl,hq',hr']:=hy;ext ru;ext rv;let#v[its,rx,p,_]:=I.tuple hq;let#v[its',ry,p',_]:=I.tuple hq';have w:=sI (A:=X.A) (e:=eAt ds ds') (show s.heap.IsTuple a its.toArray from p) (show s.heap.IsTuple b its'.toArray from p') () (λj h1 h2=>by
    have z:=A1 I ds ds' xs ys its its' X.A.in1 hr hr' rx ry (by change X.A.units+1+vA ds+vA ds'<cLine;omega) j (by exists h1) (by exists h2);exists z)
   rw[A0 (by rw[tP hr,rx.length];simp) (by rw[tP hr',ry.length];simp)]at w;delta eqD at q;show w X.prog X.w X.xe _ (uA I q O)
  |_=>show nomatch hd
 |lst ds=>
  cases d' with
  |lst ds'=>
   have hd1:dpt (.lst ds)=vA ds+1:=by rw[dpt]
   have hd2:dpt (.lst ds')=vA ds'+1:=by rw[dpt]
   delta Rep at hx hy;let#v[a,xs,rfl,hq,hr]:=hx;let#v[b,ys,rfl,hq',hr']:=hy;ext ru;ext rv;let#v[its,rx,p,_]:=I.list hq;let#v[its',ry,p',_]:=I.list hq';by_cases hl:its.length=its'.length
   .have w:=sN (A:=X.A) (e:=eAt ds ds') p.isList p'.isList (by exists hl) () (λj h1 h2=>by
     have z:=A1 I ds ds' xs ys its its' X.A.in1 hr hr' rx ry (by change X.A.units+1+vA ds+vA ds'<cLine;omega) j (by exists h1) (by exists h2);exists z)
    rw[BP (by rw[tP hr,rx.length];simp) (by rw[tP hr',ry.length,<- hl];simp)]at w;delta eqD at q;show w X.prog X.w X.xe _ (uA I q O)
   .have e:Aw ds ds'=δ:=G8 (by rw[tP hr,tP hr',rx.length,ry.length];show hl);delta eqD at q;rw[e]at q;show qY p.isList p'.isList (by exists hl) () X.prog X.w X.xe _ (uA I q O)
  |_=>show nomatch hd
 |_=>show nomatch hd
end
inductive zO:List Expr->bN->Prop
 |nil:zO [] []
 |cons {x:Str} {j:Nat} {pos:Pos} {es:List Expr} {vs:bN} (h:zO es vs):zO (.Constant (.str x) j pos::es) (.str x::vs)
def xl(h:n<=1000):n<=aL:=gu (CC h)
def ue.new(x:ue H H1)(hp:H1 p=J)(o:HO):ue H (upd H1 p o):=λb u e=>by have z:=x b u e;rw[tT (wB z hp)];show z
structure PJ(K:av)(x qual:Str)(st:Stmt)(f:Addr)(fd:cv)(T:Addr):Prop where
 ex:∃(oc:ae) (od:Option Addr) (kV doc pm:ae) (an:Option Addr) (cdv ct:ae) (osl:Array (Option ae)),
  fd=eD x qual (xH st) (uG st) (uh st) (.ref T) kV doc pm an cdv ct/\K.lookup f=Z ⟨oc,od,.func fd,osl⟩/\gA K cdv qual=γ
 kp:dU K (.ref f)=γ
section
variable{P:aO}{w:aF}{K:av}{mg:Str->Option ae}{base:Heap}
theorem PJ.ok{st:Stmt}(F:PJ K x qual st f fd T)(S:wx N ps (uh st))(len:∀vs H Q E,sp vs H Q E->vs.length=ps.length)
  (hbody:∀(cdv:ae) (A:aP) (outer:List Env) (s:af) (H:Hp) (vs:bN) (Q:VK) (E:XK),v5 k (A.deeper (envOfC qual (uh st) (~~~s) f cdv))->sp vs H Q E->
   ∃t,PSs (Lk CX0 P w K mg base N qual (uh st) f cdv A outer s H E).nox (uG st) t/\t { nx:=λ_ H'=>Q .non H',rt:=Q } (L2.start N vs) H):x9 P w K mg base CX0 (k+1) f fd ps sp:=by
 let#v[oc,od,kV,doc,pm,an,cdv,ct,osl,rfl,lk,hcd]:=F.ex;calc Ww lk hcd S len λA outer s H vs Q E hr hsp=>?_;let#v[t,h,q]:=hbody cdv A outer s H vs Q E hr hsp;show⟨t,h.nox,q⟩
end
theorem PJ.binds{K:av}{st:Stmt}{ps:aH}{ds:List ae}(F:PJ K x qual st f fd T)(ho:K.lookup T=Z o)(hs:o.data=.seq items n)
  (h:∀(kV doc pm:ae) (an:Option Addr) (cdv ct:ae) (us:List ae),us.length=ps.length - ds.length->∃k,bindArgs (eD x qual (xH st) (uG st) (uh st) (.ref T) kV doc pm an cdv ct) ⟨us,[]⟩=seqItems? (.ref T)>>=k/\k (Z items)=pure (ps.zip (us++ds))):Binds K fd ps ds:=by
 let#v[oc,od,kV,doc,pm,an,cdv,ct,osl,rfl,lk,hcd]:=F.ex;intro s us KX hl;let#v[k,h1,h2]:=h kV doc pm an cdv ct us (by rw[aM]at hl;omega);show BindsTo.of_defaults (k:=k) O (KX _ _ ho) hs h1 h2
section
variable{X:Cx}(K:av)
def Ly(hl:PE X l tl)(hK:X.K=K:=by rfl):PI X tg l (QK K tl):=by subst hK;show Ur hl
def UR(hl:PE X l tl)(hK:X.K=K:=by rfl):PI X tg l (Xt K tl):=by subst hK;show Xu hl
def US(hc:X.calm=γ)(h:PGs X es t)(hn:(cZ es X.env).length=n:=by rfl)(hst:(cZ es X.env).findIdx? (·.1)=J:=by rfl)(hK:X.K=K:=by rfl):PG X (.Tuple es k pos) (Xp K n t):=by subst hK;show Xq hc h hn hst
variable{o e:Expr}{es:List Expr}{to:TE}{t:TA}{name:Str}{apos cpos:Pos}{T id:String}{r:V->bN->Hp->VK->Prop}
def Re(pa:l5 T)(slot:Slot T name id)(hty:typeOf (.builtin id)=pure (.type "method_descriptor"))(hm:MtR X id r)(ho:PE X o to)(ha:PA X (e::es) t)
  (hbase:eU o name X.env (eval o X.env)=eval o X.env:=by rfl)
  (hfew:((bJ cpos (aG (e::es) X.env)).all (λx=>!x.1)&&(backToKw cpos (dS [] X.env)).all (λx=>x.1.isSome)
   && decide ((e::es).length+([]:List fj).length+(if ([]:List fj).isEmpty then 0 else 1)<30))=γ:=by rfl)
  (hline:(apos.endLine==cpos.line)=γ:=by rfl) (hs:aG (e::es) X.env=(δ,eval e X.env)::aG es X.env:=by rfl) (hplain:(bJ cpos (aG es X.env)).any (·.1)=δ:=by rfl) (hK:X.K=K:=by rfl):
  PE X (.Call (.Attribute o name apos) (e::es) [] cpos) (tBM K T r to t):=by subst hK;show abu pa slot hty hm ho ha hbase hfew hline hs hplain
end
end L3
namespace L2
open PySem PySem.Spec PyProof.Rows
section
variable{X:Cx}{pins:cJ}{σ:St}{H:Hp}{s:af}
def Ax(e:H a=Z u)(q:H c=Z v)(d:u≠v)(n:HO):upd H a n c=Z v:=by rw[tT (λz=>by subst z;rw[e]at q;show d (cy q))];show q
def Inv.freeze(I:Inv X pins σ H s)(e:H a=Z (.dK kvs)):∃o,Inv X pins σ (upd H a (.frz o (.dK kvs))) s:=by
 let#v[z,y,vs,r,ob,es,ep,e1,c]:=(show ObjOk X.prog X.w H s.heap a (.dK kvs) from I.hok a _ e);calc⟨ob,?_⟩;have I':=I.step (H':=upd H a (.frz ob (.dK kvs))) (h':=s.heap) (g':=s.gens) (d':=s.drawn) (t':=s.toks) (ch:=[]) (λ_ z=>nomatch z) (λb o _ _ _ q _=>q) (λb o _ _ _ q _=>⟨o.slots,q⟩)
  (λb o _ _ n=>by rw[tT (λz=>by subst z;rw[e]at n;ext n)];show n) (λb o _ q=>⟨o,q⟩) (λb xs q=>Ax e q (λz=>nomatch z) _) (λb o u q=>Ax e q (λz=>nomatch z) _)
  (λb ps q=>⟨[].toArray,by rw[Ax e q (λz=>nomatch z) _];simp⟩) (λm q=>q) ?_ I.bare
 .let#v[h,g,d,t,os]:=s;show I'
 .intro b u q;have st:∀{b:Addr} {u:HO},ObjOk X.prog X.w H s.heap b u->ObjOk X.prog X.w (upd H a (.frz ob (.dK kvs))) s.heap b u:=λ{b u} x=>x.stay (λ_ _ _ q=>q) (λc q=>Ax e q (λz=>nomatch z) _) λc xs q=>Ax e q (λz=>nomatch z) _
  by_cases hb:b=a
  .subst hb;rw[tU]at q;ext q;show⟨e1,st (I.hok b _ e)⟩
  .rw[tT hb]at q;show st (I.hok b u q)
def PE.ghost(h:PE X e t):PE X e (λσ H Q=>t σ H λx H1=>Q x H1\/∃a kvs,H1 a=Z (.dK kvs)/\∀o,Q x (upd H1 a (.frz o (.dK kvs)))):=λpins s σ H Q I hq=>
 thn (h pins s σ H _ I hq) λu s1 ⟨x,H1,I1,r1,q1⟩=>by
  rcases q1 with q|⟨a,kvs,e,q⟩
  .show⟨x,H1,I1,r1,q⟩
  .let#v[o,I2]:=I1.freeze e;show⟨x,_,I2,r1,q o⟩
end
end L2
namespace L4
open PySem PySem.Spec PyProof.Rows L2 L3
abbrev St:=L2.St
inductive D where
 |non|bl (b:Bool)|int (i:Int)|str (x:Str)
 |tup (ds:List D)|lst (ds:List D)
 |fzl (ds:List D)
 |obj (c:Nat) (ns:aH) (ds:List D)
 |dic (ks:List Key) (ds:List D)
abbrev bw:=List D
structure Bg where
 K:av
 ca:Nat->Addr
mutual
def Rep(G:Bg)(H:Hp):D->V->Prop
 |.non,v=>v=.non
 |.bl b,v=>v=.bl b
 |.int i,v=>v=.int i
 |.str x,v=>v=.str x
 |.tup ds,v=>∃a xs,v=.ref a/\SqT G.K H a xs/\Reps G H ds xs
 |.lst ds,v=>∃a xs,v=.ref a/\H a=Z (.lst xs)/\Reps G H ds xs
 |.fzl ds,v=>∃a xs,v=.ref a/\SqL G.K H a xs/\Reps G H ds xs
 |.obj c ns ds,v=>∃a dx xs,v=.ref a/\H a=Z (.ins (G.ca c) dx (ns.zip xs))/\ns.length=xs.length/\Reps G H ds xs
 |.dic ks ds,v=>∃a o xs,v=.ref a/\H a=Z (.frz o (.dK (ks.zip xs)))/\ks.length=xs.length/\Reps G H ds xs
def Reps(G:Bg)(H:Hp):bw->bN->Prop
 |[],xs=>xs=[]
 |d::ds,xs=>∃v r,xs=v::r/\Rep G H d v/\Reps G H ds r
end
def SqT.mono{K:av}(e:ue H H')(h:SqT K H a xs):SqT K H' a xs:=by
 rcases h with (h|⟨o,h⟩)|h
 .show .inl (.inl (e _ _ h))
 .show .inl (.inr ⟨o,e _ _ h⟩)
 .show .inr h
mutual
theorem Rep.mono(e:ue H H'):∀(d:D) (v:V),Rep G H d v->Rep G H' d v
 |.non,v,h=>by delta Rep at h ⊢;show h
 |.bl b,v,h=>by delta Rep at h ⊢;show h
 |.int i,v,h=>by delta Rep at h ⊢;show h
 |.str x,v,h=>by delta Rep at h ⊢;show h
 |.tup ds,v,h=>by delta Rep at h ⊢;let#v[a,xs,rfl,h1,h2]:=h;show⟨a,xs,O,SqT.mono e h1,Reps.mono e ds xs h2⟩
 |.lst ds,v,h=>by delta Rep at h ⊢;let#v[a,xs,rfl,h1,h2]:=h;show⟨a,xs,O,e _ _ h1,Reps.mono e ds xs h2⟩
 |.fzl ds,v,h=>by delta Rep at h ⊢;let#v[a,xs,rfl,h1,h2]:=h;show⟨a,xs,O,e.seq h1,Reps.mono e ds xs h2⟩
 |.obj c ns ds,v,h=>by delta Rep at h ⊢;let#v[a,dx,xs,rfl,h1,h2,h3]:=h;show⟨a,dx,xs,O,e _ _ h1,h2,Reps.mono e ds xs h3⟩
 |.dic ks ds,v,h=>by delta Rep at h ⊢;let#v[a,o,xs,rfl,h1,h2,h3]:=h;show⟨a,o,xs,O,e _ _ h1,h2,Reps.mono e ds xs h3⟩
theorem Reps.mono(e:ue H H'):∀(ds:bw) (xs:bN),Reps G H ds xs->Reps G H' ds xs
 |[],xs,h=>by delta Reps at h ⊢;show h
 |d::ds,xs,h=>by delta Reps at h ⊢;let#v[v,r,rfl,h1,h2]:=h;show⟨v,r,O,Rep.mono e d v h1,Reps.mono e ds r h2⟩
end
section
variable{G:Bg}{H:Hp}
def uy:Reps G H [] []:=by delta Reps;rfl
def uD(h:Rep G H d v)(r:Reps G H ds xs):Reps G H (d::ds) (v::xs):=by delta Reps;show⟨v,xs,O,h,r⟩
theorem tP:∀{ds:bw} {xs:bN},Reps G H ds xs->ds.length=xs.length
 |[],xs,h=>by delta Reps at h;subst h;rfl
 |d::ds,xs,h=>by delta Reps at h;let#v[v,r,rfl,_,h2]:=h;rw[aT,aT,tP h2]
theorem vU:∀{ds es:bw} {xs ys:bN},Reps G H ds xs->Reps G H es ys->Reps G H (ds++es) (xs++ys)
 |[],es,xs,ys,h,h'=>by delta Reps at h;subst h;show h'
 |d::ds,es,xs,ys,h,h'=>by delta Reps at h;let#v[v,r,rfl,h1,h2]:=h;show uD h1 (vU h2 h')
theorem xJ:∀{ds:bw} {xs:bN} {i:Nat} {d:D},Reps G H ds xs->ds[i]?=Z d->∃v,xs[i]?=Z v/\Rep G H d v
 |[],xs,i,d,h,e=>by simp at e
 |d'::ds,xs,i,d,h,e=>by
  delta Reps at h;let#v[v,r,rfl,h1,h2]:=h;cases i with
  |zero=>simp at e;subst e;show⟨v,O,h1⟩
  |succ i=>exists xJ (i:=i) (d:=d) h2 (by exists e)
theorem Jr:∀{ds:bw} {xs:bN} (n:Nat),Reps G H ds xs->Reps G H (ds.drop n) (xs.drop n)
 |ds,xs,0,h=>h
 |[],xs,n+1,h=>by delta Reps at h;subst h;show uy
 |d::ds,xs,n+1,h=>by delta Reps at h;let#v[v,r,rfl,h1,h2]:=h;show Jr n h2
theorem Js:∀{ds:bw} {xs:bN} (n:Nat),Reps G H ds xs->Reps G H (ds.take n) (xs.take n)
 |ds,xs,0,h=>uy
 |[],xs,n+1,h=>by delta Reps at h;subst h;show uy
 |d::ds,xs,n+1,h=>by delta Reps at h;let#v[v,r,rfl,h1,h2]:=h;show uD h1 (Js n h2)
def D5(h:SqT G.K H a xs)(r:Reps G H ds xs):Rep G H (.tup ds) (.ref a):=by delta Rep;show⟨a,xs,O,h,r⟩
def CD(h:H a=Z (.lst xs))(r:Reps G H ds xs):Rep G H (.lst ds) (.ref a):=by delta Rep;show⟨a,xs,O,h,r⟩
def wK(i:Int):Rep G H (.int i) (.int i):=by delta Rep;rfl
def wZ(i:Bool):Rep G H (.bl i) (.bl i):=by delta Rep;rfl
def A2(i:Str):Rep G H (.str i) (.str i):=by delta Rep;rfl
def zP:Rep G H .non .non:=by delta Rep;rfl
end
inductive Sl where
 |un
 |im (d:D)
 |ls (ds:bw)
 |pm (ds:bw)
 |dk (ks:List Key) (ds:bw)
 |ob (c:Nat) (ns:aH) (ds:bw)
abbrev aJ:=List Sl
def Sl.own:Sl->Bool
 |.ls _=>γ
 |.pm _=>γ
 |.dk _ _=>γ
 |.ob _ _ _=>γ
 |_=>δ
structure Fr where
 B0:Hp
 B:Hp
 A:List Addr
def IU(G:Bg)(F:Fr)(H0 H:Hp)(o:Option V):Sl->Prop
 |.un=>True
 |.im d=>∃v,o=Z v/\Rep G H0 d v
 |.ls ds=>∃a xs,o=Z (.ref a)/\H a=Z (.lst xs)/\H0 a=J/\F.B a=J/\Reps G H0 ds xs
 |.pm ds=>∃a xs,o=Z (.ref a)/\H a=Z (.lst xs)/\H0 a=J/\a∈F.A/\Reps G H0 ds xs
 |.dk ks ds=>∃a xs,o=Z (.ref a)/\H a=Z (.dK (ks.zip xs))/\H0 a=J/\F.B a=J/\ks.length=xs.length/\Reps G H0 ds xs
 |.ob c ns ds=>∃a dx xs,o=Z (.ref a)/\H a=Z (.ins (G.ca c) dx (ns.zip xs))/\H0 a=J/\a∈F.A/\ns.length=xs.length/\Reps G H0 ds xs
structure RelE(G:Bg)(F:Fr)(σ:St)(ρ:aJ)(H0 H:Hp):Prop where
 sub:ue H0 H
 g0:ue F.B0 H0
 keep:∀b o,F.B b=Z o->b∉F.A->H b=Z o
 fr:∀b o,H0 b=Z o->F.B0 b=Z o\/F.B b=J
 am:∀a∈F.A,∃o,H a=Z o
 len:σ.length=ρ.length
 sl:∀(i:Nat) (s:Sl),ρ[i]?=Z s->IU G F H0 H (σ[i]?).join s
 ap:∀(i j:Nat) (s t:Sl) (a:Addr),i≠j->ρ[i]?=Z s->ρ[j]?=Z t->s.own=γ->t.own=γ->(σ[i]?).join=Z (.ref a)->(σ[j]?).join=Z (.ref a)->False
theorem IU.at(h:IU G F H0 H o s)(e:s.own=γ):∃a u,o=Z (.ref a)/\H a=Z u/\H0 a=J/\(F.B a=J\/a∈F.A):=by
 cases s with
 |un=>cases e
 |im d=>cases e
 |ls ds=>let#v[a,xs,h1,h2,h3,h4,_]:=h;show⟨a,_,h1,h2,h3,.inl h4⟩
 |pm ds=>let#v[a,xs,h1,h2,h3,h4,_]:=h;show⟨a,_,h1,h2,h3,.inr h4⟩
 |dk ks ds=>let#v[a,xs,h1,h2,h3,h4,_]:=h;show⟨a,_,h1,h2,h3,.inl h4⟩
 |ob c ns ds=>let#v[a,dx,xs,h1,h2,h3,h4,_]:=h;show⟨a,_,h1,h2,h3,.inr h4⟩
def IU.grow(h:IU G F H0 H o s)(h0:ue H0 H0')(hk:∀a u,o=Z (.ref a)->s.own=γ->H a=Z u->H' a=Z u)
  (hn:∀a u,o=Z (.ref a)->s.own=γ->H a=Z u->H0 a=J->H0' a=J):IU G F H0' H' o s:=by
 cases s with
 |un=>trivial
 |im d=>let#v[v,h1,h2]:=h;show⟨v,h1,Rep.mono h0 _ _ h2⟩
 |ls ds=>let#v[a,xs,h1,h2,h3,h4,h5]:=h;show⟨a,xs,h1,hk _ _ h1 O h2,hn _ _ h1 O h2 h3,h4,Reps.mono h0 _ _ h5⟩
 |pm ds=>let#v[a,xs,h1,h2,h3,h4,h5]:=h;show⟨a,xs,h1,hk _ _ h1 O h2,hn _ _ h1 O h2 h3,h4,Reps.mono h0 _ _ h5⟩
 |dk ks ds=>let#v[a,xs,h1,h2,h3,h4,h5,h6]:=h;show⟨a,xs,h1,hk _ _ h1 O h2,hn _ _ h1 O h2 h3,h4,h5,Reps.mono h0 _ _ h6⟩
 |ob c ns ds=>let#v[a,dx,xs,h1,h2,h3,h4,h5,h6]:=h;show⟨a,dx,xs,h1,hk _ _ h1 O h2,hn _ _ h1 O h2 h3,h4,h5,Reps.mono h0 _ _ h6⟩
section
variable{G:Bg}{F:Fr}{σ:St}{ρ:aJ}{H0 H H0' H':Hp}
theorem RelE.bNone(R:RelE G F σ ρ H0 H)(h:H b=J):F.B b=J:=by
 cases e:F.B b with
 |none=>rfl
 |some o=>
  by_cases ha:b∈F.A
  .let#v[xs,q]:=R.am b ha;rw[q]at h;ext h
  .have q:=R.keep b o e ha;rw[q]at h;ext h
theorem RelE.grow(R:RelE G F σ ρ H0 H)(hs:ue H H')(h0:ue H0 H0')(sub':ue H0' H')(hf:∀b o,H0' b=Z o->H0 b=Z o\/H b=J):RelE G F σ ρ H0' H' where
 sub:=sub'
 g0:=R.g0.trans h0
 keep:=λb o e n=>hs _ _ (R.keep b o e n)
 fr:=λb o e=>by
  rcases hf b o e with q|q
  .show R.fr b o q
  .show .inr (R.bNone q)
 am:=λa ha=>let ⟨xs,q⟩:=R.am a ha;⟨xs,hs _ _ q⟩
 len:=R.len
 sl:=λi s e=>(R.sl i s e).grow h0 (λa u _ _ q=>hs _ _ q) λa u _ _ q q0=>by
  cases z:H0' a with
  |none=>rfl
  |some o=>
   rcases hf a o z with y|y
   .rw[y]at q0;ext q0
   .rw[y]at q;ext q
 ap:=R.ap
def ui(hp:H p=J)(o:HO):ue H (upd H p o):=ue.new (ue.refl H) hp o
def RelE.h0none(R:RelE G F σ ρ H0 H)(hp:H p=J):H0 p=J:=by
 cases e:H0 p with
 |none=>rfl
 |some o=>have:=R.sub _ _ e;rw[this]at hp;ext hp
def Rf(s:ue H0 H)(p:Addr)(o:HO):ue (upd H0 p o) (upd H p o):=λb u e=>by
 by_cases hb:b=p
 .subst hb;rw[tU]at e ⊢;show e
 .rw[tT hb]at e ⊢;show s _ _ e
def RelE.newIm(R:RelE G F σ ρ H0 H)(hp:H p=J)(o:HO):RelE G F σ ρ (upd H0 p o) (upd H p o):=
 R.grow (ui hp o) (ui (R.h0none hp) o) (Rf R.sub p o) λb u e=>by
  by_cases hb:b=p
  .subst hb;show .inr hp
  .rw[tT hb]at e;show .inl e
def RelE.newOwn(R:RelE G F σ ρ H0 H)(hp:H p=J)(o:HO):RelE G F σ ρ H0 (upd H p o):=
 R.grow (ui hp o) (ue.refl _) (λb u e=>by rw[tT (wB (R.sub _ _ e) hp)];show R.sub _ _ e) λb u e=>.inl e
def Apart(σ:St)(ρ:aJ)(p:Addr):Prop:=∀(i:Nat) (s:Sl),ρ[i]?=Z s->s.own=γ->(σ[i]?).join≠Z (.ref p)
def RelE.apart(R:RelE G F σ ρ H0 H)(hp:H p=J):Apart σ ρ p:=λi s e so z=>by let#v[a,u,h1,h2,_]:=(R.sl i s e).at so;rw[z]at h1;ext h1;rw[hp]at h2;ext h2
theorem RelE.freeze(R:RelE G F σ ρ H0 H)(hp:H p=Z o)(h0:H0 p=J)(hb:F.B p=J)(ap:Apart σ ρ p):RelE G F σ ρ (upd H0 p o) H where
 sub:=λb u e=>by
  by_cases hb:b=p
  .subst hb;rw[tU]at e;ext e;show hp
  .rw[tT hb]at e;show R.sub _ _ e
 g0:=R.g0.trans (ui h0 o)
 keep:=R.keep
 fr:=λb u e=>by
  by_cases hb':b=p
  .subst hb';show .inr hb
  .rw[tT hb']at e;show R.fr _ _ e
 am:=R.am
 len:=R.len
 sl:=λi s e=>(R.sl i s e).grow (ui h0 o) (λa u _ _ q=>q) λa u z so q q0=>by rw[tT (λy=>ap i s e so (by rw[z,y]))];show q0
 ap:=R.ap
def LA{σ:St}(hi:i<σ.length):((σ.set i v)[j]?).join=if j=i then v else (σ[j]?).join:=by
 rw[cn];by_cases h:i=j
 .subst h;simp[hi]
 .rw[ak h,ak (λz=>h z.symm)]
theorem RelE.set(R:RelE G F σ ρ H0 H)(hs:IU G F H0 H (Z v) s)(ap:s.own=γ->∀a,v=.ref a->∀(j:Nat) (t:Sl),j≠i->ρ[j]?=Z t->t.own=γ->(σ[j]?).join≠Z (.ref a)):
  RelE G F (σ.set i (Z v)) (ρ.set i s) H0 H where
 sub:=R.sub
 g0:=R.g0
 keep:=R.keep
 fr:=R.fr
 am:=R.am
 len:=by rw[fM,fM,R.len]
 sl:=λj t e=>by
  rw[cn]at e;by_cases h:i=j
  .subst h;rw[ao O]at e;split at e
   .rename_i hi;ext e;rw[LA (by rw[R.len];show hi),ao O];show hs
   .ext e
  .rw[ak h]at e;have hh:=R.sl j t e;rw[cn,ak h];show hh
 ap:=λj k t u a hjk ej ek tj tk vj vk=>by
  have gen:∀{m:Nat} {x:Sl},(ρ.set i s)[m]?=Z x->m≠i->ρ[m]?=Z x/\((σ.set i (Z v))[m]?).join=(σ[m]?).join:=λ{m x} e hm=>by rw[cn,ak (λz=>hm z.symm)]at e;show⟨e,by rw[cn,ak (λz=>hm z.symm)]⟩
  have self:∀{x:Sl},(ρ.set i s)[i]?=Z x->x=s/\((σ.set i (Z v))[i]?).join=Z v:=λ{x} e=>by
   rw[cn,ao O]at e;split at e
   .rename_i hi;ext e;show⟨O,by rw[LA (by rw[R.len];show hi),ao O]⟩
   .ext e
  by_cases hj:j=i
  .subst hj;let#v[rfl,ev]:=self ej;rw[ev]at vj;ext vj;let#v[e2,e3]:=gen ek (λz=>hjk z.symm);rw[e3]at vk;show ap tj a O k u (λz=>hjk z.symm) e2 tk vk
  .let#v[e2,e3]:=gen ej hj;by_cases hk:k=i
   .subst hk;let#v[rfl,ev]:=self ek;rw[ev]at vk;ext vk;rw[e3]at vj;show ap tk a O j t hj e2 tj vj
   .let#v[e4,e5]:=gen ek hk;rw[e3]at vj;rw[e5]at vk;show R.ap j k t u a hjk e2 e4 tj tk vj vk
def RelE.setIm(R:RelE G F σ ρ H0 H)(i:Nat)(h:Rep G H0 d v):RelE G F (σ.set i (Z v)) (ρ.set i (.im d)) H0 H:=R.set ⟨v,O,h⟩ λz=>by ext z
theorem RelE.setLs(R:RelE G F σ ρ H0 H)(i:Nat)(hp:H p=Z (.lst xs))(h0:H0 p=J)(hb:F.B p=J)(ap:Apart σ ρ p)(h:Reps G H0 ds xs):RelE G F (σ.set i (Z (.ref p))) (ρ.set i (.ls ds)) H0 H:=
 R.set ⟨p,xs,O,hp,h0,hb,h⟩ λ_ a e j t _ ej tj=>by ext e;show ap j t ej tj
def RelE.mut(R:RelE G F σ ρ H0 H)(hi:ρ[i]?=Z s)(so:s.own=γ)(ha:(σ[i]?).join=Z (.ref a))(ok:∀H',H' a=Z o->IU G F H0 H' (Z (.ref a)) s')
  (so':s'.own=γ):RelE G F σ (ρ.set i s') H0 (upd H a o):=by
 let#v[a',u,e1,e2,e3,e4]:=(R.sl i s hi).at so;rw[ha]at e1;ext e1;show {
  sub:=λb w e=>by rw[tT (λz=>by rw[z,e3]at e;ext e)];show R.sub _ _ e
  g0:=R.g0
  keep:=λb w e n=>by
   have nb:b≠a:=λz=>by
    subst z;rcases e4 with q|q
    .rw[q]at e;ext e
    .show n q
   rw[tT nb];show R.keep b w e n
  fr:=R.fr
  am:=λb hb=>by
   by_cases z:b=a
   .subst z;show⟨o,tU⟩
   .rw[tT z];show R.am b hb
  len:=by rw[fM];show R.len
  sl:=λj t e=>by
   rw[cn]at e;by_cases h:i=j
   .subst h;rw[ao O]at e;split at e
    .ext e;rw[ha];show ok _ tU
    .ext e
   .rw[ak h]at e;calc(R.sl j t e).grow (ue.refl _) (λb w z to q=>?_) λb w _ _ _ q=>q;rw[tT (λy=>by subst y;show R.ap j i t s b (λy=>h y.symm) e hi to so z ha)];show q
  ap:=λj k t u b hjk ej ek tj tk vj vk=>by
   have gen:∀{m:Nat} {x:Sl},(ρ.set i s')[m]?=Z x->∃y,ρ[m]?=Z y/\(x.own=γ->y.own=γ):=λ{m x} e=>by
    rw[cn]at e;by_cases h:i=m
    .subst h;show⟨s,hi,λ_=>so⟩
    .rw[ak h]at e;show⟨x,e,λq=>q⟩
   let#v[y,ey,oy]:=gen ej;let#v[z,ez,oz]:=gen ek;show R.ap j k y z b hjk ey ez (oy tj) (oz tk) vj vk }
end
abbrev FE:=aJ->Option (D×aJ)
abbrev FT:=aJ->Option (Bool×aJ)
abbrev FA:=aJ->Option (bw×aJ)
def tF(G:Bg)(f:FE):TE:=λσ H Q=>∃F ρ H0 d ρ',RelE G F σ ρ H0 H/\f ρ=Z (d,ρ')/\∀v H0' H',ue H0 H0'->RelE G F σ ρ' H0' H'->Rep G H0' d v->Q v H'
def tFT(G:Bg)(f:FT):TT:=λσ H Q=>∃F ρ H0 d ρ',RelE G F σ ρ H0 H/\f ρ=Z (d,ρ')/\∀H0' H',ue H0 H0'->RelE G F σ ρ' H0' H'->Q d H'
def tFA(G:Bg)(f:FA):TA:=λσ H Q=>∃F ρ H0 ds ρ',RelE G F σ ρ H0 H/\f ρ=Z (ds,ρ')/\∀xs H0' H',ue H0 H0'->RelE G F σ ρ' H0' H'->Reps G H0' ds xs->Q xs H'
def tFN(G:Bg)(f:FA):TE:=λσ H Q=>∃F ρ H0 ds ρ',RelE G F σ ρ H0 H/\f ρ=Z (ds,ρ')/\∀p xs H0' H',ue H0 H0'->RelE G F σ ρ' H0' H'->H' p=Z (.lst xs)->H0' p=J->F.B p=J->Apart σ ρ' p->Reps G H0' ds xs->Q (.ref p) H'
def PE.weak(h:PE X e t)(w:∀σ H Q,t' σ H Q->t σ H Q):PE X e t':=λpins s σ H Q I hq=>h pins s σ H Q I (w _ _ _ hq)
def PT.weak(h:PT X e t)(w:∀σ H Q,t' σ H Q->t σ H Q):PT X e t':=λpins s σ H Q I hq=>h pins s σ H Q I (w _ _ _ hq)
def PW.weak(h:PW X e t)(w:∀σ H Q,t' σ H Q->t σ H Q):PW X e t':=λwh pins s σ H Q I hq=>h wh pins s σ H Q I (w _ _ _ hq)
def PA.weak(h:PA X e t)(w:∀σ H Q,t' σ H Q->t σ H Q):PA X e t':=λpos pins s σ H Q I hq=>h pos pins s σ H Q I (w _ _ _ hq)
noncomputable def cC(d:D):FE:=λρ=>Z (d,ρ)
noncomputable def cV(i:Nat):FE:=λρ=>match ρ[i]? with
 |some (.im d)=>Z (d,ρ)
 |_=>J
noncomputable def c1(g:D->Option D) (f:FE):FE:=λρ=>match f ρ with
 |some (d,ρ')=>match g d with
  |some x=>Z (x,ρ')
  |none=>J
 |none=>J
noncomputable def c2(g:D->D->Option D) (f f':FE):FE:=λρ=>match f ρ with
 |some (x,ρ1)=>match f' ρ1 with
  |some (y,ρ2)=>match g x y with
   |some z=>Z (z,ρ2)
   |none=>J
  |none=>J
 |none=>J
def D6(h:c1 g f ρ=Z (z,ρ')):∃d,f ρ=Z (d,ρ')/\g d=Z z:=by
 delta c1 at h;cases e:f ρ with
 |none=>rw[e]at h;cases h
 |some p=>
  let#v[d,ρ1]:=p;rw[e]at h;cases e2:g d with
  |none=>erw[e2]at h;cases h
  |some x=>erw[e2]at h;ext h;show⟨d,O,e2⟩
def GB(h:c2 g f f' ρ=Z (z,ρ')):∃x y ρ1,f ρ=Z (x,ρ1)/\f' ρ1=Z (y,ρ')/\g x y=Z z:=by
 delta c2 at h;cases e:f ρ with
 |none=>rw[e]at h;cases h
 |some p=>
  let#v[x,ρ1]:=p;erw[e]at h;cases e2:f' ρ1 with
  |none=>erw[e2]at h;cases h
  |some q=>
   let#v[y,ρ2]:=q;erw[e2]at h;cases e3:g x y with
   |none=>erw[e3]at h;cases h
   |some w=>erw[e3]at h;ext h;show⟨x,y,ρ1,O,e2,e3⟩
section
variable{X:Cx}{G:Bg}
def X7{i j pos}:PE X (.Constant (.int i) j pos) (tF G (cC (.int i))):=PE.weak QF λσ H Q h=>by let#v[F,ρ,H0,d,ρ',R,e,k]:=h;ext e;show k _ _ _ (ue.refl _) R (wK i)
def abz{i j pos}:PE X (.Constant (.bool i) j pos) (tF G (cC (.bl i))):=PE.weak aa2 λσ H Q h=>by let#v[F,ρ,H0,d,ρ',R,e,k]:=h;ext e;show k _ _ _ (ue.refl _) R (wZ i)
def X8{i j pos}:PE X (.Constant (.str i) j pos) (tF G (cC (.str i))):=PE.weak Xf λσ H Q h=>by let#v[F,ρ,H0,d,ρ',R,e,k]:=h;ext e;show k _ _ _ (ue.refl _) R (A2 i)
def X9{j pos}:PE X (.Constant .none j pos) (tF G (cC .non)):=PE.weak Xe λσ H Q h=>by let#v[F,ρ,H0,d,ρ',R,e,k]:=h;ext e;show k _ _ _ (ue.refl _) R zP
def UT(h:cV i ρ=Z (d,ρ')):ρ[i]?=Z (.im d)/\ρ'=ρ:=by
 delta cV at h;split at h
 .rename_i e;ext h;show⟨e,O⟩
 .ext h
def yu{α:Type}{o:Option (Option α)}{v:α}(h:o.join=Z v):o=Z (Z v):=by
 cases o with
 |none=>cases h
 |some u=>cases u with
  |none=>cases h
  |some w=>ext h;rfl
def MS(h:PE X e (DU i)):PE X e (tF G (cV i)):=PE.weak h λσ H Q hh=>by
 sleep 9
 let#v[e1,rfl]:=UT e;let#v[v,e2,e3]:=R.sl i _ e1;show⟨v,yu e2,k _ _ _ (ue.refl _) R e3⟩
def UU(h:PE X e (tC v))(r:∀H,Rep G H d v):PE X e (tF G (cC d)):=PE.weak h λσ H Q hh=>by let#v[F,ρ,H0,d',ρ',R,e,k]:=hh;ext e;show k _ _ _ (ue.refl _) R (r _)
def OpD(G:Bg)(r:R2)(g:D->D->Option D):Prop:=∀x y z H0 H v u (Q:VK),g x y=Z z->ue H0 H->Rep G H0 x v->Rep G H0 y u->(∀w,(∀H0',ue H0 H0'->Rep G H0' z w)->Q w H)->r v u H Q
def N7(ho:OpD G r g):∀σ H Q,tF G (c2 g f f') σ H Q->tOp r (tF G f) (tF G f') σ H Q:=λσ H Q hh=>by
 sleep 9
 let#v[x,y,ρ1,e1,e2,e3]:=GB e;calc⟨F,ρ,H0,x,ρ1,R,e1,λv H1 H1' s1 R1 r1=>⟨F,ρ1,H1,y,ρ',R1,e2,λu H2 H2' s2 R2 r2=>?_⟩⟩;show ho x y d H2 H2' v u Q e3 R2.sub (Rep.mono s2 _ _ r1) r2 λw hw=>k w H2 H2' (s1.trans s2) R2 (hw _ (ue.refl _))
def abA(hr:OpR X (cQ op) r)(ho:OpD G r g)(ha:PE X a (tF G f))(hb:PE X b (tF G f')):PE X (.BinOp a op b pos) (tF G (c2 g f f')):=PE.weak (QN hr ha hb) (N7 ho)
def Ya(hr:OpR X (bD op) r)(ho:OpD G r g)(ha:PE X a (tF G f))(hb:PE X b (tF G f'))(hm:fN op b=δ):PE X (.Compare a [op] [b] pos) (tF G (c2 g f f')):=PE.weak (Uw hr ha hb hm) (N7 ho)
def abB(hr:IxR X r)(ho:OpD G r g)(ha:PE X a (tF G f))(hb:PE X b (tF G f'))(hs:N5 b):PE X (.Subscript a b pos) (tF G (c2 g f f')):=PE.weak (abp hr ha hb hs) (N7 ho)
def cT(f:FE):FT:=λρ=>match f ρ with
 |some (.bl b,ρ')=>Z (b,ρ')
 |_=>J
def N8(h:cT f ρ=Z (b,ρ')):f ρ=Z (.bl b,ρ'):=by
 delta cT at h;split at h
 .rename_i e;ext h;show e
 .ext h
def N9:∀σ H Q,tFT G (cT f) σ H Q->QQ (tF G f) σ H Q:=λσ H Q hh=>by
 sleep 9
 calc⟨F,ρ,H0,_,ρ',R,N8 e,λv H0' H' s R' r=>?_⟩;delta Rep at r;show⟨d,r,k _ _ s R'⟩
def UV(hr:OpR X (bD op) r)(ho:OpD G r g)(ha:PE X a (tF G f))(hb:PE X b (tF G f'))(hm:fN op b=δ):
  PT X (.Compare a [op] [b] pos) (tFT G (cT (c2 g f f'))):=PT.weak (Ux hr ha hb hm) λσ H Q hh=>by
 let#v[F,ρ,H0,d,ρ',R,e,k]:=N9 σ H Q hh;show N7 ho σ H _ ⟨F,ρ,H0,d,ρ',R,e,k⟩
def UW(h:PE X e (tF G f))(he:∀whole,isTrue e X.env whole=(do let v<-whole;standAt e.pos;holding [v] (truthy v)):=by intro _;rfl):PT X e (tFT G (cT f)):=PT.weak (Xg h he) λσ H Q hh=>by
 sleep 9
 calc⟨F,ρ,H0,_,ρ',R,N8 e,λv H0' H' s R' r=>?_⟩;delta Rep at r;show⟨d,r,k _ _ s R'⟩
def uE(f:FT):FT:=λρ=>match f ρ with
 |some (b,ρ')=>Z (!b,ρ')
 |none=>J
def vV(f g:FT):FT:=λρ=>match f ρ with
 |some (γ,ρ')=>g ρ'
 |r=>r
def vS(f g:FT):FT:=λρ=>match f ρ with
 |some (δ,ρ')=>g ρ'
 |r=>r
def UX(h:PT X a (tFT G f)):PT X (.UnaryOp .Not a pos) (tFT G (uE f)):=PT.weak (Xk h) λσ H Q hh=>by
 sleep 9
 delta uE at e;cases e1:f ρ with
 |none=>erw[e1]at e;cases e
 |some p=>let#v[b,ρ1]:=p;erw[e1]at e;ext e;show⟨F,ρ,H0,b,_,R,e1,λH0' H' s R'=>k _ _ s R'⟩
def Yc:∀σ H Q,tFT G (vV f g) σ H Q->tAnd (tFT G f) (tFT G g) σ H Q:=λσ H Q hh=>by
 sleep 9
 delta vV at e;cases e1:f ρ with
 |none=>erw[e1]at e;cases e
 |some p=>
  let#v[b,ρ1]:=p;cases b with
  |true=>erw[e1]at e;show⟨F,ρ,H0,γ,ρ1,R,e1,λH0' H' s R'=>Ku ⟨F,ρ1,H0',d,ρ',R',e,λH2 H2' s2 R2=>k _ _ (s.trans s2) R2⟩⟩
  |false=>erw[e1]at e;ext e;show⟨F,ρ,H0,δ,_,R,e1,λH0' H' s R'=>Kt (k _ _ s R')⟩
def abC:∀σ H Q,tFT G (vS f g) σ H Q->tOr (tFT G f) (tFT G g) σ H Q:=λσ H Q hh=>by
 sleep 9
 delta vS at e;cases e1:f ρ with
 |none=>erw[e1]at e;cases e
 |some p=>
  let#v[b,ρ1]:=p;cases b with
  |false=>erw[e1]at e;show⟨F,ρ,H0,δ,ρ1,R,e1,λH0' H' s R'=>Kt ⟨F,ρ1,H0',d,ρ',R',e,λH2 H2' s2 R2=>k _ _ (s.trans s2) R2⟩⟩
  |true=>erw[e1]at e;ext e;show⟨F,ρ,H0,γ,_,R,e1,λH0' H' s R'=>Ku (k _ _ s R')⟩
def Rg(h:PT X a (tFT G f)):PW X (.BoolOp .And [a] pos) (tFT G f):=Uo h
def UY(h:PT X a (tFT G f)):PW X (.BoolOp .Or [a] pos) (tFT G f):=Xh h
def UZ{rest:List Expr}(ha:PT X a (tFT G f))(hb:PW X (.BoolOp .And (b::rest) pos) (tFT G g)):PW X (.BoolOp .And (a::b::rest) pos) (tFT G (vV f g)):=PW.weak (Xj ha hb) Yc
def Rh{rest:List Expr}(ha:PT X a (tFT G f))(hb:PW X (.BoolOp .Or (b::rest) pos) (tFT G g)):PW X (.BoolOp .Or (a::b::rest) pos) (tFT G (vS f g)):=PW.weak (aa4 ha hb) abC
def uH(f g:FE):FE:=λρ=>match f ρ with
 |some (.bl γ,ρ')=>g ρ'
 |some (.bl δ,ρ')=>Z (.bl δ,ρ')
 |_=>J
def cOr(f g:FE):FE:=λρ=>match f ρ with
 |some (.bl δ,ρ')=>g ρ'
 |some (.bl γ,ρ')=>Z (.bl γ,ρ')
 |_=>J
def Gs(f:FE):FE:=λρ=>match f ρ with
 |some (.bl b,ρ')=>Z (.bl !b,ρ')
 |_=>J
def cIf(c:FT)(f g:FE):FE:=λρ=>match c ρ with
 |some (γ,ρ')=>f ρ'
 |some (δ,ρ')=>g ρ'
 |none=>J
def Yd{op}(h:PE X a (tF G f)):PE X (.BoolOp op [a] pos) (tF G f):=Xl h
def LB{f:FE}{ρ:aJ}:(∃ρ1,f ρ=Z (.bl γ,ρ1))\/(∃ρ1,f ρ=Z (.bl δ,ρ1))\/(∀b ρ1,f ρ≠Z (.bl b,ρ1)):=by
 by_cases h1:∃ρ1,f ρ=Z (.bl γ,ρ1)
 .show .inl h1
 by_cases h2:∃ρ1,f ρ=Z (.bl δ,ρ1)
 .show .inr (.inl h2)
 calc .inr (.inr λb ρ1 z=>?_);cases b with
 |true=>show h1 ⟨ρ1,z⟩
 |false=>show h2 ⟨ρ1,z⟩
def PK(h:∀b ρ1,f ρ≠Z (.bl b,ρ1)):uH f g ρ=J:=by
 delta uH;split
 .rename_i e;show ar e (h _ _)
 .rename_i e;show ar e (h _ _)
 .rfl
def Rj(h:∀b ρ1,f ρ≠Z (.bl b,ρ1)):cOr f g ρ=J:=by
 delta cOr;split
 .rename_i e;show ar e (h _ _)
 .rename_i e;show ar e (h _ _)
 .rfl
def Ye{rest:List Expr}(ha:PE X a (tF G f))(hb:PE X (.BoolOp .And (b::rest) pos) (tF G g)):PE X (.BoolOp .And (a::b::rest) pos) (tF G (uH f g)):=PE.weak (Xm ha hb) λσ H Q hh=>by
 sleep 9
 rcases LB (f:=f) (ρ:=ρ)with ⟨ρ1,e1⟩|⟨ρ1,e1⟩|e1
 .have e':g ρ1=Z (d,ρ'):=by delta uH at e;erw[e1]at e;show e
  calc⟨F,ρ,H0,_,ρ1,R,e1,λv H1 H1' s R' r=>?_⟩;delta Rep at r;calc⟨γ,r,?_⟩;show Ku ⟨F,ρ1,H1,d,ρ',R',e',λv H2 H2' s2 R2 r2=>k _ _ _ (s.trans s2) R2 r2⟩
 .have e':Z (D.bl δ,ρ1)=Z (d,ρ'):=by delta uH at e;erw[e1]at e;show e
  ext e';calc⟨F,ρ,H0,_,_,R,e1,λv H1 H1' s R' r=>?_⟩;have r':=r;delta Rep at r';calc⟨δ,r',?_⟩;show Kt (k _ _ _ s R' (wZ δ))
 .rw[PK e1]at e;ext e
def abD{rest:List Expr}(ha:PE X a (tF G f))(hb:PE X (.BoolOp .Or (b::rest) pos) (tF G g)):PE X (.BoolOp .Or (a::b::rest) pos) (tF G (cOr f g)):=PE.weak (aa7 ha hb) λσ H Q hh=>by
 sleep 9
 rcases LB (f:=f) (ρ:=ρ)with ⟨ρ1,e1⟩|⟨ρ1,e1⟩|e1
 .have e':Z (D.bl γ,ρ1)=Z (d,ρ'):=by delta cOr at e;erw[e1]at e;show e
  ext e';calc⟨F,ρ,H0,_,_,R,e1,λv H1 H1' s R' r=>?_⟩;delta Rep at r;calc⟨γ,r,?_⟩;show Ku (k _ _ _ s R' (wZ γ))
 .have e':g ρ1=Z (d,ρ'):=by delta cOr at e;erw[e1]at e;show e
  calc⟨F,ρ,H0,_,ρ1,R,e1,λv H1 H1' s R' r=>?_⟩;delta Rep at r;calc⟨δ,r,?_⟩;show Kt ⟨F,ρ1,H1,d,ρ',R',e',λv H2 H2' s2 R2 r2=>k _ _ _ (s.trans s2) R2 r2⟩
 .rw[Rj e1]at e;ext e
def Yf(ha:PE X a (tF G f)):PE X (.UnaryOp .Not a pos) (tF G (Gs f)):=PE.weak (Xo ha) λσ H Q hh=>by
 sleep 9
 delta Gs at e;split at e
 .rename_i b ρ1 e1
  sleep 6
  show⟨b,r,k _ _ _ s R' (wZ _)⟩
 .ext e
def abE(hc:PT X c (tFT G h))(ha:PE X a (tF G f))(hb:PE X b (tF G g)):PE X (.IfExp c a b pos) (tF G (cIf h f g)):=PE.weak (QG hc ha hb) λσ H Q hh=>by
 sleep 9
 delta cIf at e;cases e1:h ρ with
 |none=>erw[e1]at e;cases e
 |some p=>
  let#v[b,ρ1]:=p;calc⟨F,ρ,H0,b,ρ1,R,e1,λH1 H1' s R'=>?_⟩;cases b with
  |true=>erw[e1]at e;show Ku ⟨F,ρ1,H1,d,ρ',R',e,λv H2 H2' s2 R2 r2=>k _ _ _ (s.trans s2) R2 r2⟩
  |false=>erw[e1]at e;show Kt ⟨F,ρ1,H1,d,ρ',R',e,λv H2 H2' s2 R2 r2=>k _ _ _ (s.trans s2) R2 r2⟩
noncomputable def uk:FA:=λρ=>Z ([],ρ)
noncomputable def aCons(f:FE) (g:FA):FA:=λρ=>match f ρ with
 |some (d,ρ1)=>match g ρ1 with
  |some (ds,ρ2)=>Z (d::ds,ρ2)
  |none=>J
 |none=>J
def MU(h:aCons f g ρ=Z (ds,ρ')):∃d r ρ1,f ρ=Z (d,ρ1)/\g ρ1=Z (r,ρ')/\ds=d::r:=by
 delta aCons at h;cases e:f ρ with
 |none=>rw[e]at h;cases h
 |some p=>
  let#v[x,ρ1]:=p;erw[e]at h;cases e2:g ρ1 with
  |none=>erw[e2]at h;cases h
  |some q=>let#v[y,ρ2]:=q;erw[e2]at h;ext h;show⟨x,y,ρ1,O,e2,O⟩
def A3:PA X [] (tFA G uk):=PA.weak zq λσ H Q hh=>by
 sleep 9
 ext e;show k _ _ _ (ue.refl _) R uy
def zr(ha:PE X e (tF G f))(hr:PA X es (tFA G g))(hs:aG (e::es) X.env=(δ,eval e X.env)::aG es X.env:=by rfl):PA X (e::es) (tFA G (aCons f g)):=PA.weak (wu ha hr hs) λσ H Q hh=>by
 sleep 9
 let#v[x,r,ρ1,e1,e2,rfl]:=MU e;show⟨F,ρ,H0,x,ρ1,R,e1,λv H1 H1' s R' rv=>⟨F,ρ1,H1,r,ρ',R',e2,λxs H2 H2' s2 R2 rs=>k _ _ _ (s.trans s2) R2 (uD (Rep.mono s2 _ _ rv) rs)⟩⟩
def uv(g:FA):FE:=λρ=>match g ρ with
 |some (ds,ρ')=>if ds.length<=1000 then Z (.tup ds,ρ')else J
 |none=>J
def uw(g:FA):FA:=λρ=>match g ρ with
 |some (ds,ρ')=>if ds.length<=1000 then Z (ds,ρ')else J
 |none=>J
def Yg{x1}(h:PA X es (tFA G g)):PE X (.Tuple es x1 pos) (tF G (uv g)):=PE.weak (QV h) λσ H Q hh=>by
 sleep 9
 delta uv at e;cases e1:g ρ with
 |none=>erw[e1]at e;cases e
 |some p=>
  let#v[ds,ρ1]:=p;erw[e1]at e;split at e
  .rename_i hl;ext e;calc⟨F,ρ,H0,_,_,R,e1,λxs H1 H1' s R' rs=>⟨by rw[<-tP rs];show xl hl,λp hp=>?_⟩⟩;show k _ _ _ (s.trans (ui (R'.h0none hp) _)) (R'.newIm hp _) (D5 (SqT.of tU) (Reps.mono (ui (R'.h0none hp) _) _ _ rs))
  .ext e
def U0(h:PA X es (tFA G g)):PE X (.List es pos) (tFN G (uw g)):=PE.weak (QW h) λσ H Q hh=>by
 sleep 9
 delta uw at e;cases e1:g ρ with
 |none=>erw[e1]at e;cases e
 |some p=>
  let#v[ds,ρ1]:=p;erw[e1]at e;split at e
  .rename_i hl;ext e;calc⟨F,ρ,H0,_,_,R,e1,λxs H1 H1' s R' rs=>⟨by rw[<-tP rs];show xl hl,λp hp=>?_⟩⟩;show k _ _ _ _ s (R'.newOwn hp _) tU (R'.h0none hp) (R'.bNone hp) (R'.apart hp) rs
  .ext e
def cL(g:FA):FE:=λρ=>match g ρ with
 |some (ds,ρ')=>Z (.lst ds,ρ')
 |none=>J
def U1(h:cL g ρ=Z (d,ρ')):∃ds,g ρ=Z (ds,ρ')/\d=.lst ds:=by
 delta cL at h;cases e:g ρ with
 |none=>erw[e]at h;cases h
 |some p=>let#v[ds,ρ1]:=p;erw[e]at h;ext h;show⟨ds,O,O⟩
def tN_F:∀σ H Q,tF G (cL g) σ H Q->tFN G g σ H Q:=λσ H Q hh=>by
 sleep 9
 let#v[ds,e1,rfl]:=U1 e;calc⟨F,ρ,H0,ds,ρ',R,e1,λp xs H1 H1' s R' hp h0 hb ap rs=>?_⟩;show k _ _ _ (s.trans (ui h0 _)) (R'.freeze hp h0 hb ap) (CD tU (Reps.mono (ui h0 _) _ _ rs))
def Yh(h:PE X e (tFN G g)):PE X e (tF G (cL g)):=PE.weak h tN_F
end
inductive Out where
 |nx (ρ:aJ)|bk (ρ:aJ)|ct (ρ:aJ)
 |rt (d:D) (ρ:aJ)
 |rn (ds:bw) (ρ:aJ)
abbrev FS:=aJ->Option Out
def Oa(G:Bg)(F:Fr)(H0:Hp)(E:Ends):Out->Prop
 |.nx ρ'=>∀σ' H0' H',ue H0 H0'->RelE G F σ' ρ' H0' H'->E.nx σ' H'
 |.bk ρ'=>∀σ' H0' H',ue H0 H0'->RelE G F σ' ρ' H0' H'->E.bk σ' H'
 |.ct ρ'=>∀σ' H0' H',ue H0 H0'->RelE G F σ' ρ' H0' H'->E.ct σ' H'
 |.rt d ρ'=>∀v σ' H0' H',ue H0 H0'->RelE G F σ' ρ' H0' H'->Rep G H0' d v->E.rt v H'
 |.rn ds ρ'=>∀p xs σ' H0' H',ue H0 H0'->RelE G F σ' ρ' H0' H'->H' p=Z (.lst xs)->H0' p=J->F.B p=J->Apart σ' ρ' p->Reps G H0' ds xs->E.rt (.ref p) H'
def tFS(G:Bg)(f:FS):TS:=λE σ H=>∃F ρ H0 o,RelE G F σ ρ H0 H/\f ρ=Z o/\Oa G F H0 E o/\(∀p,E.rt p=E.rt p)
def Oa.back(h:Oa G F H0 E o)(s:ue H0 H1):Oa G F H1 E o:=by
 cases o with
 |nx ρ=>show λσ' H0' H' s' R=>h σ' H0' H' (s.trans s') R
 |bk ρ=>show λσ' H0' H' s' R=>h σ' H0' H' (s.trans s') R
 |ct ρ=>show λσ' H0' H' s' R=>h σ' H0' H' (s.trans s') R
 |rt d ρ=>show λv σ' H0' H' s' R=>h v σ' H0' H' (s.trans s') R
 |rn ds ρ=>show λp xs σ' H0' H' s' R=>h p xs σ' H0' H' (s.trans s') R
def PS.weak(h:PS X e t)(w:∀E σ H,t' E σ H->t E σ H):PS X e t':=λpins s σ H D I hq=>h pins s σ H D I (w _ _ _ hq)
def PSs.weak(h:PSs X e t)(w:∀E σ H,t' E σ H->t E σ H):PSs X e t':=λpins s σ H D I hq=>h pins s σ H D I (w _ _ _ hq)
def tN:FS:=λρ=>Z (.nx ρ)
noncomputable def tw(f g:FS):FS:=λρ=>match f ρ with
 |some (.nx ρ')=>g ρ'
 |r=>r
section
variable{X:Cx}{G:Bg}
def Yi(h:tFS G tN E σ H):E.nx σ H:=by let#v[F,ρ,H0,o,R,e,k,_]:=h;ext e;show k _ _ _ (ue.refl _) R
def U2:PSs X [] (tFS G tN):=PSs.weak Up λE σ H h=>Yi h
def Ro{st:Stmt}{rest:List Stmt}(h1:PS X st (tFS G f))(h2:PSs X rest (tFS G g)):PSs X (st::rest) (tFS G (tw f g)):=PSs.weak (GW h1 h2) λE σ H h=>by
 let#v[F,ρ,H0,o,R,e,k,k2]:=h;delta tw at e;cases e1:f ρ with
 |none=>erw[e1]at e;cases e
 |some o1=>
  cases o1 with
  |nx ρ1=>erw[e1]at e;show⟨F,ρ,H0,_,R,e1,λσ' H0' H' s R'=>⟨F,ρ1,H0',o,R',e,k.back s,k2⟩,k2⟩
  |bk ρ1=>erw[e1]at e;ext e;show⟨F,ρ,H0,_,R,e1,k,k2⟩
  |ct ρ1=>erw[e1]at e;ext e;show⟨F,ρ,H0,_,R,e1,k,k2⟩
  |rt d ρ1=>erw[e1]at e;ext e;show⟨F,ρ,H0,_,R,e1,k,k2⟩
  |rn d ρ1=>erw[e1]at e;ext e;show⟨F,ρ,H0,_,R,e1,k,k2⟩
def U3{st:Stmt}(h1:PS X st (tFS G f)):PSs X [st] (tFS G f):=Ki h1
noncomputable def tG(f:FE):FS:=λρ=>match f ρ with
 |some (d,ρ')=>Z (.rt d ρ')
 |none=>J
noncomputable def vz(f:FA):FS:=λρ=>match f ρ with
 |some (d,ρ')=>Z (.rn d ρ')
 |none=>J
def ur{α:Type}{f:aJ->Option (α×aJ)}{ρ:aJ}:f ρ=J\/∃d ρ',f ρ=Z (d,ρ'):=by
 cases e:f ρ with
 |none=>show .inl O
 |some p=>show .inr ⟨p.1,p.2,O⟩
def U4(h:PE X e (tF G f)):PS X (.Return (Z e) pos) (tFS G (tG f)):=PS.weak (ME h) λE σ H hh=>by
 let#v[F,ρ,H0,o,R,e,k,k2]:=hh;delta tG at e;rcases ur (f:=f) (ρ:=ρ)with e1|⟨d,ρ',e1⟩<;>erw[e1]at e
 .ext e
 .ext e;show⟨F,ρ,H0,d,ρ',R,e1,λv H0' H' s R' r=>k _ _ _ _ s R' r⟩
def Rp(h:PE X e (tFN G f)):PS X (.Return (Z e) pos) (tFS G (vz f)):=PS.weak (ME h) λE σ H hh=>by
 let#v[F,ρ,H0,o,R,e,k,k2]:=hh;delta vz at e;rcases ur (f:=f) (ρ:=ρ)with e1|⟨d,ρ',e1⟩<;>erw[e1]at e
 .ext e
 .ext e;show⟨F,ρ,H0,d,ρ',R,e1,λp xs H0' H' s R' h1 h2 h3 h4 h5=>k _ _ _ _ _ s R' h1 h2 h3 h4 h5⟩
noncomputable def uq(f:FE):FS:=λρ=>match f ρ with
 |some (_,ρ')=>Z (.nx ρ')
 |none=>J
def Rq{pos:Pos}(h:PE X e (tF G f))(hs:dB e J pos.line X.env=pure δ:=by rfl):PS X (.Expr e pos) (tFS G (uq f)):=PS.weak (NX h hs) λE σ H hh=>by
 let#v[F,ρ,H0,o,R,e,k,k2]:=hh;delta uq at e;rcases ur (f:=f) (ρ:=ρ)with e1|⟨d,ρ',e1⟩<;>erw[e1]at e
 .ext e
 .ext e;show⟨F,ρ,H0,d,ρ',R,e1,λv H0' H' s R' r=>k _ _ _ s R'⟩
noncomputable def sIf(c:FT) (f g:FS):FS:=λρ=>match c ρ with
 |some (γ,ρ')=>f ρ'
 |some (δ,ρ')=>g ρ'
 |none=>J
def Yj(hc:PT X c (tFT G h))(ha:PSs X a (tFS G f))(hb:PSs X b (tFS G g)):PS X (.If c a b pos) (tFS G (sIf h f g)):=PS.weak (aba hc ha hb) λE σ H hh=>by
 let#v[F,ρ,H0,o,R,e,k,k2]:=hh;delta sIf at e;rcases ur (f:=h) (ρ:=ρ)with e1|⟨d,ρ',e1⟩
 .erw[e1]at e;ext e
 .calc⟨F,ρ,H0,d,ρ',R,e1,λH0' H' s R'=>?_⟩;cases d with
  |true=>erw[e1]at e;show Ku ⟨F,ρ',H0',o,R',e,k.back s,k2⟩
  |false=>erw[e1]at e;show Kt ⟨F,ρ',H0',o,R',e,k.back s,k2⟩
abbrev FG:=D->aJ->Option aJ
def tFG(G:Bg)(n:Nat)(g:FG):TG:=λv σ H Q=>∃F ρ H0 d ρ',RelE G F σ ρ H0 H/\Rep G H0 d v/\g d ρ=Z ρ'/\∀σ',σ'.drop n=σ.drop n->RelE G F σ' ρ' H0 H->Q σ' H
def Rr(G:Bg)(n:Nat)(g:bw->aJ->Option aJ):TGs:=λvs σ H Q=>∃F ρ H0 ds ρ',RelE G F σ ρ H0 H/\Reps G H0 ds vs/\g ds ρ=Z ρ'/\∀σ',σ'.drop n=σ.drop n->RelE G F σ' ρ' H0 H->Q σ' H
def PG.weak(h:PG X e t)(w:∀v σ H Q,t' v σ H Q->t v σ H Q):PG X e t':=λpins s σ H x u Q I r hq=>h pins s σ H x u Q I r (w _ _ _ _ hq)
def PGs.weak(h:PGs X e t)(w:∀v σ H Q,t' v σ H Q->t v σ H Q):PGs X e t':=λpins s σ H x u Q I r hq=>h pins s σ H x u Q I r (w _ _ _ _ hq)
def gN(i:Nat):FG:=λd ρ=>Z (ρ.set i (.im d))
def LC{α:Type}{l:List α}{i n:Nat}{x:α}(h:i<n):(l.set i x).drop n=l.drop n:=by apply kC;intro j;rw[eI,eI,cn,ak ()]
def Rt(n:Nat)(h:PG X tg (zN i))(hi:i<n):PG X tg (tFG G n (gN i)):=PG.weak h λv σ H Q hh=>by let#v[F,ρ,H0,d,ρ',R,r,e,k]:=hh;ext e;show k _ (LC hi) (R.setIm i r)
def LD:bw->aJ->Option aJ:=λds ρ=>match ds with
 |[]=>Z ρ
 |_=>J
def A4(g:FG)(gs:bw->aJ->Option aJ):bw->aJ->Option aJ:=λds ρ=>match ds with
 |d::r=>match g d ρ with
  |some ρ'=>gs r ρ'
  |none=>J
 |[]=>J
def U5(h:PGs X [] gNil):PGs X [] (Rr G n LD):=PGs.weak h λv σ H Q hh=>by
 let#v[F,ρ,H0,ds,ρ',R,r,e,k]:=hh;cases ds with
 |nil=>ext e;delta Reps at r;show⟨r,k _ O R⟩
 |cons d ds=>ext e
def Ru(h:PGs X (e::es) (Wt (tFG G n g) (Rr G n gs))):PGs X (e::es) (Rr G n (A4 g gs)):=PGs.weak h λv σ H Q hh=>by
 let#v[F,ρ,H0,ds,ρ',R,r,e,k]:=hh;cases ds with
 |nil=>cases e
 |cons d ds=>
  delta Reps at r;let#v[v1,r1,rfl,q1,q2]:=r;delta A4 at e;cases e1:g d ρ with
  |none=>erw[e1]at e;cases e
  |some ρ1=>erw[e1]at e;show⟨v1,r1,O,F,ρ,H0,d,ρ1,R,q1,e1,λσ' s R'=>⟨F,ρ1,H0,ds,ρ',R',q2,e,λσ'' s' R''=>k _ (s'.trans s) R''⟩⟩
def gT(gs:bw->aJ->Option aJ)(n:Nat):FG:=λd ρ=>match d with
 |.tup ds=>if ds.length=n then gs ds ρ else J
 |_=>J
def U6(h:PG X (.Tuple es k pos) (Xp G.K m (Rr G n gs))):PG X (.Tuple es k pos) (tFG G n (gT gs m)):=PG.weak h λv σ H Q hh=>by
 let#v[F,ρ,H0,d,ρ',R,r,e,k]:=hh;cases d with
 |tup ds=>
  delta gT at e;simp only at e;split at e
  .rename_i hl;delta Rep at r;let#v[a,xs,rfl,h1,h2]:=r;show⟨a,xs,O,SqT.mono R.sub h1,by rw[<-tP h2];show hl,F,ρ,H0,ds,ρ',R,h2,e,k⟩
  .cases e
 |_=>ext e
def MV(f:FE)(g:FG):FS:=λρ=>match f ρ with
 |some (d,ρ')=>match g d ρ' with
  |some ρ2=>Z (.nx ρ2)
  |none=>J
 |none=>J
def U7{st:Stmt}(h:PS X st (DW (tF G f) (tFG G n g))):PS X st (tFS G (MV f g)):=PS.weak h λE σ H hh=>by
 let#v[F,ρ,H0,o,R,e,k,k2]:=hh;delta MV at e;rcases ur (f:=f) (ρ:=ρ)with e1|⟨d,ρ',e1⟩<;>erw[e1]at e
 .ext e
 .cases e2:g d ρ' with
  |none=>erw[e2]at e;cases e
  |some ρ2=>erw[e2]at e;ext e;show⟨F,ρ,H0,d,ρ',R,e1,λv H0' H' s R' r=>⟨F,ρ',H0',d,ρ2,R',r,e2,λσ' _ R2=>k _ _ _ s R2⟩⟩
def tV(i:Nat)(f:FE):FS:=λρ=>match f ρ with
 |some (d,ρ')=>Z (.nx (ρ'.set i (.im d)))
 |none=>J
def Ob{st:Stmt}(h:PS X st (DW (tF G f) (zN i))):PS X st (tFS G (tV i f)):=PS.weak h λE σ H hh=>by
 let#v[F,ρ,H0,o,R,e,k,k2]:=hh;delta tV at e;rcases ur (f:=f) (ρ:=ρ)with e1|⟨d,ρ',e1⟩<;>erw[e1]at e
 .ext e
 .ext e;show⟨F,ρ,H0,d,ρ',R,e1,λv H0' H' s R' r=>k _ _ _ s (R'.setIm i r)⟩
def x8(i:Nat)(f:FA):FS:=λρ=>match f ρ with
 |some (d,ρ')=>Z (.nx (ρ'.set i (.ls d)))
 |none=>J
def LF{st:Stmt}(h:PS X st (DW (tFN G f) (zN i))):PS X st (tFS G (x8 i f)):=PS.weak h λE σ H hh=>by
 let#v[F,ρ,H0,o,R,e,k,k2]:=hh;delta x8 at e;rcases ur (f:=f) (ρ:=ρ)with e1|⟨d,ρ',e1⟩<;>erw[e1]at e
 .ext e
 .ext e;show⟨F,ρ,H0,d,ρ',R,e1,λp xs H0' H' s R' h1 h2 h3 h4 h5=>k _ _ _ s (R'.setLs i h1 h2 h3 h4 h5)⟩
def stE(n:Nat)(ds:bw):aJ:=ds.map Sl.im++jm (n - ds.length) .un
def fnD(np n:Nat)(f:FS):bw->Option D:=λds=>if ds.length=np then match f (stE n ds)with
 |some (.rt d _)=>Z d
 |some (.rn ds _)=>Z (.lst ds)
 |some (.nx _)=>Z .non
 |_=>J
 else J
def fnN(np n:Nat)(f:FS):bw->Option bw:=λds=>if ds.length=np then match f (stE n ds)with
 |some (.rn ds _)=>Z ds
 |_=>J
 else J
def spF(G:Bg)(g:bw->Option D):Sp:=λvs H Q _=>∃H0 ds d,ue H0 H/\Reps G H0 ds vs/\g ds=Z d/\
 ∀v H0' H',ue H0 H0'->ue H0' H'->ue H H'->(∀b o,H0' b=Z o->H0 b=Z o\/H b=J)->Rep G H0' d v->Q v H'
def spN(G:Bg)(g:bw->Option bw):Sp:=λvs H Q _=>∃H0 ds d,ue H0 H/\Reps G H0 ds vs/\g ds=Z d/\
 ∀p xs H0' H',ue H0 H0'->ue H0' H'->ue H H'->(∀b o,H0' b=Z o->H0 b=Z o\/H b=J)->H p=J->H' p=Z (.lst xs)->H0' p=J->Reps G H0' d xs->Q (.ref p) H'
def Kw{n:Nat}{ds:bw}{i:Nat}{s:Sl}(h:(stE n ds)[i]?=Z s):s=.un\/∃d,ds[i]?=Z d/\s=.im d:=by
 delta stE at h;by_cases hi:i<ds.length
 .rw[fz (by exists hi),bC,bg hi]at h;ext h;show .inr ⟨_,bg hi,O⟩
 .rw[fw (by exists hi),iV]at h;split at h
  .ext h;show .inl O
  .ext h
def E1{N:aH}{vs:bN}{i:Nat}{v:V}(h:vs[i]?=Z v):((L2.start N vs)[i]?).join=Z v:=by delta L2.start;have hi:=(ck.mp h).1;rw[fz (by exists hi),bC,h];rfl
def Jt{N:aH}(s:ue H0 H)(r:Reps G H0 ds vs)(hl:vs.length<=N.length):RelE G ⟨H0,H,[]⟩ (L2.start N vs) (stE N.length ds) H0 H where
 sub:=s
 g0:=ue.refl _
 keep:=λb o e _=>e
 fr:=λb o e=>.inl e
 am:=λa h=>by ext h
 len:=by delta L2.start stE;rw[aM,aM,aq,aq,c6,c6,tP r]
 sl:=λi t e=>by
  rcases Kw e with rfl|⟨d,e1,rfl⟩
  .trivial
  .let#v[v,e2,e3]:=xJ r e1;show⟨v,E1 e2,e3⟩
 ap:=λi j t u a _ e _ ht=>by rcases Kw e with rfl|⟨d,_,rfl⟩<;>ext ht
def LG(h:fnD np n f ds=Z d):ds.length=np/\((∃ρ,f (stE n ds)=Z (.rt d ρ))\/(∃xs ρ,f (stE n ds)=Z (.rn xs ρ)/\d=.lst xs)\/∃ρ,f (stE n ds)=Z (.nx ρ)/\d=.non):=by
 delta fnD at h;split at h
 .rename_i hl;calc⟨hl,?_⟩;split at h
  .rename_i e;ext h;show .inl ⟨_,e⟩
  .rename_i e;ext h;show .inr (.inl ⟨_,_,e,O⟩)
  .rename_i e;ext h;show .inr (.inr ⟨_,e,O⟩)
  .ext h
 .ext h
def LH(h:fnN np n f ds=Z xs):ds.length=np/\∃ρ,f (stE n ds)=Z (.rn xs ρ):=by
 delta fnN at h;split at h
 .rename_i hl;calc⟨hl,?_⟩;split at h
  .rename_i e;ext h;show⟨_,e⟩
  .ext h
 .ext h
end
def U8{N:aH}(hN:np<=N.length)(h:spF G (fnD np N.length f) vs H Q E):tFS G f { nx:=λ_ H'=>Q .non H',rt:=Q } (L2.start N vs) H:=by
 let#v[H0,ds,d,s,r,e,k]:=h;let#v[hl,e']:=LG e;clear e;have R:=Jt (N:=N) s r (by rw[<-tP r,hl];show hN);have fin:∀{σ':St} {ρ':aJ} {H0' H':Hp},RelE G ⟨H0,H,[]⟩ σ' ρ' H0' H'->ue H H'/\ue H0' H'/\∀b o,H0' b=Z o->H0 b=Z o\/H b=J:=λR'=>⟨λb o e=>R'.keep b o e (by simp),R'.sub,R'.fr⟩;rcases e' with ⟨ρ,e⟩|⟨xs,ρ,e,rfl⟩|⟨ρ,e,rfl⟩
 .calc⟨_,_,H0,_,R,e,λv σ' H0' H' s' R' rv=>?_,λ_=>O⟩;let#v[h1,h2,h3]:=fin R';show k v H0' H' s' h2 h1 h3 rv
 .calc⟨_,_,H0,_,R,e,λp ys σ' H0' H' s' R' hp h0 hb ap rs=>?_,λ_=>O⟩;have R2:=R'.freeze hp h0 hb ap;let#v[h1,h2,h3]:=fin R2;show k _ _ H' (s'.trans (ui h0 _)) h2 h1 h3 (CD tU (Reps.mono (ui h0 _) _ _ rs))
 .calc⟨_,_,H0,_,R,e,λσ' H0' H' s' R'=>?_,λ_=>O⟩;let#v[h1,h2,h3]:=fin R';show k _ H0' H' s' h2 h1 h3 zP
def U9{N:aH}(hN:np<=N.length)(h:spN G (fnN np N.length f) vs H Q E):tFS G f { nx:=λ_ H'=>Q .non H',rt:=Q } (L2.start N vs) H:=by let#v[H0,ds,d,s,r,e,k]:=h;let#v[hl,ρ,e]:=LH e;have R:=Jt (N:=N) s r (by rw[<-tP r,hl];show hN);calc⟨_,_,H0,_,R,e,λp ys σ' H0' H' s' R' hp h0 hb ap rs=>?_,λ_=>O⟩;show k p ys H0' H' s' R'.sub (λb o e=>R'.keep b o e (by simp)) R'.fr hb hp h0 rs
def abG(hg:∀ds d,g ds=Z d->ds.length=np):∀vs H Q E,spF G g vs H Q E->vs.length=np:=λvs H Q E h=>by let#v[H0,ds,d,_,r,e,_]:=h;rw[<-tP r];show hg _ _ e
def abH(hg:∀ds d,g ds=Z d->ds.length=np):∀vs H Q E,spN G g vs H Q E->vs.length=np:=λvs H Q E h=>by let#v[H0,ds,d,_,r,e,_]:=h;rw[<-tP r];show hg _ _ e
def Va:∀ds d,fnD np n f ds=Z d->ds.length=np:=λ_ _ h=>(LG h).1
def Vc:∀ds d,fnN np n f ds=Z d->ds.length=np:=λ_ _ h=>(LH h).1
def E2{α:Type}(g:bw->Option α)(a:FA):aJ->Option (α×aJ):=λρ=>match a ρ with
 |some (ds,ρ')=>match g ds with
  |some d=>Z (d,ρ')
  |none=>J
 |none=>J
abbrev tq(g:bw->Option D)(a:FA):FE:=E2 g a
abbrev uN(g:bw->Option bw)(a:FA):FA:=E2 g a
def Dp{α:Type}{g:bw->Option α}{a:FA}{ρ ρ':aJ}{d:α}(h:E2 g a ρ=Z (d,ρ')):∃ds,a ρ=Z (ds,ρ')/\g ds=Z d:=by
 delta E2 at h;rcases ur (f:=a) (ρ:=ρ)with e1|⟨ds,ρ1,e1⟩<;>erw[e1]at h
 .ext h
 .cases e2:g ds with
  |none=>erw[e2]at h;cases h
  |some x=>erw[e2]at h;ext h;show⟨ds,e1,e2⟩
section
variable{X:Cx}{G:Bg}
def Vd(hd:∀H,Reps G H dds dvs):∀σ H Q,tF G (tq (λds=>g (ds++dds)) a) σ H Q->G1 (spF G g) dvs E (tFA G a) σ H Q:=λσ H Q hh=>by
 sleep 9
 let#v[ds,e1,e2]:=Dp e;calc⟨F,ρ,H0,ds,ρ',R,e1,λxs H1 H1' s R' rs=>⟨H1,ds++dds,d,R'.sub,vU rs (hd _),e2,λv H2 H2' s1 s2 s3 fr rv=>?_⟩⟩;show k v H2 H2' (s.trans s1) (R'.grow s3 s1 s2 fr) rv
def Ve(hd:∀H,Reps G H dds dvs):∀σ H Q,tFN G (uN (λds=>g (ds++dds)) a) σ H Q->G1 (spN G g) dvs E (tFA G a) σ H Q:=λσ H Q hh=>by
 sleep 9
 let#v[ds,e1,e2]:=Dp e;calc⟨F,ρ,H0,ds,ρ',R,e1,λxs H1 H1' s R' rs=>⟨H1,ds++dds,d,R'.sub,vU rs (hd _),e2,λp ys H2 H2' s1 s2 s3 fr hn hp h0 rv=>?_⟩⟩;show k p ys H2 H2' (s.trans s1) (R'.grow s3 s1 s2 fr) hp h0 (R'.bNone hn) (R'.apart hn) rv
end
section
variable{X:Cx}{G:Bg}
def Vf(hd:∀H,Reps G H dds dvs)(h:PE X e (G1 (spF G g) dvs E (tFA G a))):PE X e (tF G (tq (λds=>g (ds++dds)) a)):=PE.weak h (Vd hd)
def Rv(hd:∀H,Reps G H dds dvs)(h:PE X e (G1 (spN G g) dvs E (tFA G a))):PE X e (tFN G (uN (λds=>g (ds++dds)) a)):=PE.weak h (Ve hd)
def PL(h:PE X e (G1 (spN G g) [] E IP)):PE X e (tFN G (uN g uk)):=PE.weak h λσ H Q hh=>by
 sleep 9
 let#v[ds,e1,e2]:=Dp e;ext e1;show⟨H0,[],d,R.sub,uy,e2,λp ys H2 H2' s1 s2 s3 fr hn hp h0 rv=>k p ys H2 H2' s1 (R.grow s3 s1 s2 fr) hp h0 (R.bNone hn) (R.apart hn) rv⟩
def PM:aH->bw->Str->Option D
 |n::ns,d::ds,f=>if n=f then Z d else PM ns ds f
 |_,_,_=>J
theorem Ju:∀{ns:aH} {ds:bw} {xs:bN} {f:Str} {d:D},Reps G H ds xs->PM ns ds f=Z d->∃v,(ns.zip xs).lookup f=Z v/\Rep G H d v
 |[],ds,xs,f,d,r,e=>by simp[PM]at e
 |n::ns,[],xs,f,d,r,e=>by simp[PM]at e
 |n::ns,d'::ds,xs,f,d,r,e=>by
  delta Reps at r;let#v[v,q,rfl,h1,h2]:=r;delta PM at e;by_cases hn:n=f
  .rw[ao hn]at e;ext e;subst hn;show⟨v,by simp[du],h1⟩
  .rw[ak hn]at e;let#v[w,e1,e2]:=Ju h2 e;calc⟨w,?_,e2⟩;have hb:(f==n)=δ:=beq_eq_false_iff_ne.mpr λz=>hn z.symm;erw[eJ,du,hb];show e1
def tI(ok:Nat->Bool)(f:Str):D->Option D
 |.obj c ns ds=>if ok c=γ then PM ns ds f else J
 |_=>J
def Rw(he:PE X e (tF G ff))(hc:∀c,ok c=γ->Cls X.K (G.ca c)/\zp X.K (G.ca c) f)(hb:eU e f X.env (eval e X.env)=eval e X.env:=by rfl):PE X (.Attribute e f pos) (tF G (c1 (tI ok f) ff)):=PE.weak (XM he hb) λσ H Q hh=>by
 sleep 9
 let#v[x,e1,e2]:=D6 e;cases x with
 |obj c ns ds=>
  delta tI at e2;simp only at e2;split at e2
  .rename_i hk;calc⟨F,ρ,H0,_,ρ',R,e1,λv H1 H1' s R' r=>?_⟩;delta Rep at r;let#v[a,dx,xs,rfl,h1,h2,h3]:=r;let#v[w,l1,l2]:=Ju h3 e2;show⟨a,_,dx,_,w,O,R'.sub _ _ h1,(hc c hk).1,(hc c hk).2,l1,k _ _ _ s R' l2⟩
  .cases e2
 |_=>ext e2
def MOk(X:Cx)(C:Addr)(m:Str)(sp:Sp)(dvs:bN)(E:XK):Prop:=∃(k:Nat) (f:Addr) (fd:cv) (ps:aH) (ds:List ae),Cls X.K C/\Meth X.K C m f/\x9 X.prog X.w X.K X.mg X.base CX0 k f fd ps sp/\v5 k X.A/\Binds X.K fd ps ds/\Vals dvs ds/\Passes CX0 X E
def tK(g:Nat->Option (bw->Option D))(m:Str)(f:FE)(a:FA):FE:=λρ=>match f ρ with
 |some (.obj c ns ds,ρ1)=>match g c with
  |some h=>if ns.contains m=γ then J else match a ρ1 with
   |some (es,ρ2)=>match h (.obj c ns ds::es)with
    |some d=>Z (d,ρ2)
    |none=>J
   |none=>J
  |none=>J
 |_=>J
def He(h:tK g m f a ρ=Z (d,ρ')):
  ∃c ns ds ρ1 hh es,f ρ=Z (.obj c ns ds,ρ1)/\g c=Z hh/\ns.contains m=δ/\a ρ1=Z (es,ρ')/\hh (.obj c ns ds::es)=Z d:=by
 delta tK at h;split at h
 .rename_i c ns ds ρ1 e1;cases e2:g c with
  |none=>erw[e2]at h;cases h
  |some hh=>
   erw[e2]at h;cases e3:ns.contains m with
   |true=>erw[e3,if_true]at h;cases h
   |false=>
    erw[e3,fC,if_false]at h;rcases ur (f:=a) (ρ:=ρ1)with e4|⟨es,ρ2,e4⟩<;>erw[e4]at h
    .ext h
    .cases e5:hh (.obj c ns ds::es)with
     |none=>erw[e5]at h;cases h
     |some x=>erw[e5]at h;ext h;show⟨c,ns,ds,ρ1,hh,es,e1,e2,e3,e4,e5⟩
 .ext h
theorem Dt:∀{ns:aH} {xs:bN},ns.contains m=δ->(ns.zip xs).lookup m=J
 |[],xs,h=>rfl
 |n::ns,[],h=>rfl
 |n::ns,x::xs,h=>by rw[nY,nE]at h;erw[eJ,du,h.1];show Dt h.2
def Rx(T:Addr->Sp->Prop)(hT:∀C sp,T C sp->MOk X C m sp dvs E)(he:PE X o ta)(ha:PA X (e::es) t)
  (hst:aG (e::es) X.env=(δ,eval e X.env)::aG es X.env:=by rfl) (hpl:(bJ pos (aG es X.env)).any (·.1)=δ:=by rfl)
  (ht:eval (.Call (.Attribute o m apos) (e::es) [] pos) X.env=(do
   let ov<-eval o X.env
   standAt apos.atName
   let (f,first)<-holding [ov] (getMethod ov m pl)
   callWith pos f first (bJ pos (aG (e::es) X.env)) (backToKw pos (dS [] X.env))):=by rfl):
  PE X (.Call (.Attribute o m apos) (e::es) [] pos) (λσ H Q=>ta σ H λx H1=>∃a C dx fs sp,x=.ref a/\H1 a=Z (.ins C dx fs)/\T C sp/\fs.lookup m=J/\t σ H1 λvs H2=>sp (x::(vs++dvs)) H2 Q E):=by
 sleep 11
 calc oY (pl:=pl) (thn (he pins s σ H _ I h) λu s1 zz=>?_) ht;let#v[x,H1,I1,rx,a,C,dx,fs,sp,ex,ea,ht,l,q]:=zz;let#v[k,f,fd,ps,ds,c,hm,F,hr,hb,hd,hx]:=hT C sp ht;subst ex;obtain rfl:u=Value.ref a:=rx;calc G0 I1 ea c hm l ?_;calc lM (first:=[.ref a]) (h₀:=X.base) I.ok.mod.kin hm.kp (thn (ha pos pins s1 σ H1 _ I1 q) λus s2 ⟨vs,H2,I2,r,q2⟩=>⟨I2.kIn,?_⟩) hst hpl;show Kj (us:=.ref a::us) (vs:=.ref a::vs) F hr hb hd hx I2 (.cons O r) q2
def PN(T:Addr->Sp->Prop)(hT:∀C sp,T C sp->MOk X C m sp dvs E)(he:PE X o ta)
  (ht:eval (.Call (.Attribute o m apos) [] [] pos) X.env=(do
   let ov<-eval o X.env
   standAt apos.atName
   let (f,first)<-holding [ov] (getMethod ov m pl)
   callWith pos f first (bJ pos (aG [] X.env)) (backToKw pos (dS [] X.env))):=by rfl):
  PE X (.Call (.Attribute o m apos) [] [] pos) (λσ H Q=>ta σ H λx H1=>∃a C dx fs sp,x=.ref a/\H1 a=Z (.ins C dx fs)/\T C sp/\fs.lookup m=J/\sp (x::dvs) H1 Q E):=by
 sleep 11
 calc oY (pl:=pl) (thn (he pins s σ H _ I h) λu s1 zz=>?_) ht;let#v[x,H1,I1,rx,a,C,dx,fs,sp,ex,ea,ht,l,q]:=zz;let#v[k,f,fd,ps,ds,c,hm,F,hr,hb,hd,hx]:=hT C sp ht;subst ex;obtain rfl:u=Value.ref a:=rx;calc G0 I1 ea c hm l ?_;show lj (first:=[.ref a]) I1.kIn hm.kp (Kj (us:=[.ref a]) (vs:=[.ref a]) F hr hb hd hx I1 (.cons O .nil) q)
def MT(G:Bg)(g:Nat->Option (bw->Option D)):Addr->Sp->Prop:=λC sp=>∃c h,g c=Z h/\C=G.ca c/\sp=spF G h
def Vg(h:PE X (.Call (.Attribute o m apos) (e::es) [] pos) (λσ H Q=>tF G f σ H λx H1=>∃a' C dx fs sp,x=.ref a'/\H1 a'=Z (.ins C dx fs)/\MT G g C sp/\fs.lookup m=J/\tFA G a σ H1 λvs H2=>sp (x::(vs++[])) H2 Q E)):
  PE X (.Call (.Attribute o m apos) (e::es) [] pos) (tF G (tK g m f a)):=PE.weak h λσ H Q hh=>by
 sleep 9
 let#v[c,ns,ds,ρ1,hh,es',e1,e2,e3,e4,e5]:=He e;calc⟨F,ρ,H0,_,ρ1,R,e1,λv H1 H1' s R' r=>?_⟩;have r0:=r;delta Rep at r;let#v[a',dx,xs,rfl,h1,h2,h3]:=r;calc⟨a',_,dx,_,_,O,R'.sub _ _ h1,⟨c,hh,e2,O,O⟩,Dt e3,F,ρ1,H1,es',ρ',R',e4,λys H2 H2' s2 R2 rs=>?_⟩;change spF G hh (V.ref a'::(ys++[])) H2' Q E;rw[bQ];show⟨H2,_,d,R2.sub,uD (Rep.mono s2 _ _ r0) rs,e5,λv H3 H3' t1 t2 t3 fr rv=>k v H3 H3' (s.trans (s2.trans t1)) (R2.grow t3 t1 t2 fr) rv⟩
def Ry(h:PE X (.Call (.Attribute o m apos) [] [] pos) (λσ H Q=>tF G f σ H λx H1=>∃a' C dx fs sp,x=.ref a'/\H1 a'=Z (.ins C dx fs)/\MT G g C sp/\fs.lookup m=J/\sp (x::[]) H1 Q E)):
  PE X (.Call (.Attribute o m apos) [] [] pos) (tF G (tK g m f uk)):=PE.weak h λσ H Q hh=>by
 sleep 9
 let#v[c,ns,ds,ρ1,hh,es',e1,e2,e3,e4,e5]:=He e;ext e4;calc⟨F,ρ,H0,_,_,R,e1,λv H1 H1' s R' r=>?_⟩;have r0:=r;delta Rep at r;let#v[a',dx,xs,rfl,h1,h2,h3]:=r;calc⟨a',_,dx,_,_,O,R'.sub _ _ h1,⟨c,hh,e2,O,O⟩,Dt e3,?_⟩;show⟨H1,_,d,R'.sub,uD r0 uy,e5,λv H3 H3' t1 t2 t3 fr rv=>k v H3 H3' (s.trans t1) (R'.grow t3 t1 t2 fr) rv⟩
def spI(G:Bg)(c:Nat)(g:bw->Option (aH×bw)):Sp:=λvs H Q _=>∃(p dx:Addr) (us:bN) (H0:Hp) (ds:bw) (ns:aH) (es:bw),vs=.ref p::us/\H p=Z (.ins (G.ca c) dx [])/\H0 p=J/\ue H0 H/\Reps G H0 ds us/\g ds=Z (ns,es)/\
 ∀ys dx' H0' H',ue H0 H0'->ue H0' H'->(∀b o,H b=Z o->b≠p->H' b=Z o)->(∀b o,H0' b=Z o->H0 b=Z o\/H b=J)->H0' p=J->H' p=Z (.ins (G.ca c) dx' (ns.zip ys))->ns.length=ys.length->Reps G H0' es ys->Q .non H'
def uj(c:Nat)(g:bw->Option (aH×bw))(a:FA):FE:=λρ=>match a ρ with
 |some (ds,ρ')=>match g ds with
  |some (ns,es)=>Z (.obj c ns es,ρ')
  |none=>J
 |none=>J
theorem Vh(hd:∀H,Reps G H dds dvs)(h:PE X e (Wv (G.ca c) (spI G c g) dvs E (tFA G a))):PE X e (tF G (uj c (λds=>g (ds++dds)) a)):=PE.weak h λσ H Q hh=>by
 sleep 9
 delta uj at e;rcases ur (f:=a) (ρ:=ρ)with e1|⟨ds,ρ1,e1⟩<;>erw[e1]at e
 .ext e
 .cases e2:g (ds++dds)with
  |none=>erw[e2]at e;cases e
  |some q=>
   let#v[ns,es]:=q;erw[e2]at e;ext e;calc⟨F,ρ,H0,ds,ρ',R,e1,λxs H1 H1' s R' rs x dx hx hdx ne=>?_⟩;have hx2:(upd H1' dx (.own x)) x=J:=by rw[tT (λz=>ne z.symm)];show hx
   have sx:ue H1' (upd (upd H1' dx (.own x)) x (.ins (G.ca c) dx [])):=(ui hdx _).trans (ui hx2 _);calc⟨x,dx,_,H1,ds++dds,ns,es,O,tU,R'.h0none hx,R'.sub.trans sx,vU rs (hd _),e2,λys dx' H2 H2' t1 t2 t3 fr h0 hp hl ry=>⟨O,?_⟩⟩;have t4:ue H1' H2':=λb o e=>t3 b o (sx b o e) (wB e hx);have fr1:∀b o,H2 b=Z o->H1 b=Z o\/H1' b=J:=λb o e=>by
    rcases fr b o e with q|q
    .show .inl q
    .cases z:H1' b with
     |none=>show .inr O
     |some u=>rw[sx b u z]at q;ext q
   have R2:=R'.grow t4 t1 t2 fr1;have hb:F.B x=J:=R'.bNone hx;have R3:=R2.freeze hp h0 hb (λi t ei to z=>R'.apart hx i t ei to z);calc k _ _ _ (s.trans (t1.trans (ui h0 _))) R3 ?_;delta Rep;show⟨x,dx',ys,O,tU,hl,Reps.mono (ui h0 _) _ _ ry⟩
def uC(c0:Nat)(i:Nat)(f:Str)(ff:FE):FS:=λρ=>match ff ρ with
 |some (d,ρ1)=>match ρ1[i]? with
  |some (.ob c ns ds)=>if c=c0 then if ns.contains f=γ then J else if ds.length=ns.length then if ns.length<900 then Z (.nx (ρ1.set i (.ob c (ns++[f]) (ds++[d]))))else J else J else J
  |_=>J
 |none=>J
theorem LI:∀{ns:aH} {xs:bN},ns.contains f=δ->ns.length=xs.length->Av f v (ns.zip xs)=(ns++[f]).zip (xs++[v])
 |[],[],h,l=>rfl
 |[],x::xs,h,l=>by cases l
 |n::ns,[],h,l=>by cases l
 |n::ns,x::xs,h,l=>by
  rw[nY,nE]at h;have hn:¬n=f:=λz=>by rw[z]at h;simp at h
  have ih:=LI (f:=f) (v:=v) (ns:=ns) (xs:=xs) h.2 (by exists l);change Av f v ((n,x)::ns.zip xs)=_;rw[show Av f v ((n,x)::ns.zip xs)=(if n=f then (n,v)::ns.zip xs else (n,x)::Av f v (ns.zip xs)) from O,ak hn,ih];rfl
def Vi{st:Stmt}(h:PS X st (sFld X.K (DU i) (tF G ff) f))(hc:Cls X.K (G.ca c0)/\zp X.K (G.ca c0) f):PS X st (tFS G (uC c0 i f ff)):=PS.weak h λE σ H hh=>by
 let#v[F,ρ,H0,o,R,e,k,k2]:=hh;delta uC at e;rcases ur (f:=ff) (ρ:=ρ)with e1|⟨d,ρ1,e1⟩<;>erw[e1]at e
 .ext e
 .split at e
  .rename_i c ns ds e2;split at e
   .rename_i hcc;subst hcc;split at e
    .ext e
    rename_i hnc;split at e
    .rename_i hl;split at e
     .rename_i h9;ext e;calc⟨F,ρ,H0,d,ρ1,R,e1,λv H1 H1' s R' r=>?_⟩;let#v[a,dx,xs,e3,e4,e5,e6,e7,e8]:=R'.sl i _ e2;calc⟨_,yu e3,a,_,dx,_,O,e4,hc.1,hc.2,by rw[ir];omega,?_⟩;have hnf:ns.contains f=δ:=by exists hnc
      rw[LI hnf e7];calc k _ _ _ s (R'.mut e2 O e3 (λH' hH=>?_) O);show⟨a,dx,xs++[v],O,hH,e5,e6,by rw[aM,aM,e7];rfl,vU e8 (uD r uy)⟩
     .ext e
    .ext e
   .ext e
  .ext e
def stI(c n:Nat)(ds:bw):aJ:=.ob c [] []::stE (n - 1) ds
def fnI(c np n:Nat)(f:FS):bw->Option (aH×bw):=λds=>if ds.length=np then match f (stI c n ds)with
 |some (.nx ρ)=>match (ρ:aJ)[0]? with
  |some (Sl.ob c' ns es)=>if c'=c then if ns.length=es.length then Z (ns,es)else J else J
  |_=>J
 |_=>J
 else J
def Hf(h:fnI c np n f ds=Z q):ds.length=np/\∃ρ,f (stI c n ds)=Z (.nx ρ)/\ρ[0]?=Z (.ob c q.1 q.2)/\q.1.length=q.2.length:=by
 delta fnI at h;split at h
 .rename_i hl;calc⟨hl,?_⟩;split at h
  .rename_i ρ e;split at h
   .rename_i c' ns es e2;split at h
    .rename_i hc;split at h
     .rename_i h3;subst hc;ext h;show⟨ρ,e,e2,h3⟩
     .ext h
    .ext h
   .ext h
  .ext h
 .ext h
def Oc{N:aH}(hN:np+1<=N.length)(h:spI G c (fnI c np N.length f) vs H Q E):tFS G f { nx:=λ_ H'=>Q .non H',rt:=Q } (L2.start N vs) H:=by
 let#v[p,dx,us,H0,ds,ns,es,rfl,hp,h0,s,r,e,k]:=h;let#v[hl,ρ,e1,e2,e3]:=Hf e;have hul:us.length=np:=by rw[<-tP r];show hl
 have gets:∀{i:Nat} {t:Sl},(stI c N.length ds)[i]?=Z t->(i=0/\t=.ob c [] [])\/t=.un\/∃(j:Nat) (d:D),i=j+1/\ds[j]?=Z d/\t=.im d:=λ{i t} e=>by
  cases i with
  |zero=>ext e;show .inl ⟨O,O⟩
  |succ j=>
   have e':(stE (N.length - 1) ds)[j]?=Z t:=e;rcases Kw e' with rfl|⟨d,e1,rfl⟩
   .show .inr (.inl O)
   .show .inr (.inr ⟨j,d,O,e1,O⟩)
 have R:RelE G ⟨H0,H,[p]⟩ (L2.start N (.ref p::us)) (stI c N.length ds) H0 H:={
  sub:=s
  g0:=ue.refl _
  keep:=λb o e _=>e
  fr:=λb o e=>.inl e
  am:=λa ha=>by
   have ea:a=p:=by exists ha
   subst ea;show⟨_,hp⟩
  len:=by delta L2.start stI stE;erw[aM,aq,c6,aT];have:=tP r;omega
  sl:=λi t e=>by
   rcases gets e with ⟨rfl,rfl⟩|rfl|⟨j,d,rfl,e1,rfl⟩
   .show⟨p,dx,[],E1 O,hp,h0,by simp,O,uy⟩
   .trivial
   .let#v[v,e2,e3]:=xJ r e1;show⟨v,E1 (by exists e2),e3⟩
  ap:=λi j t u a hij ei ej ht hu=>by
   rcases gets ei with ⟨rfl,rfl⟩|rfl|⟨_,_,_,_,rfl⟩
   .rcases gets ej with ⟨rfl,rfl⟩|rfl|⟨_,_,_,_,rfl⟩
    .show ar O hij
    .ext hu
    .ext hu
   .ext ht
   .cases ht }
 calc⟨_,_,H0,_,R,e1,λσ' H0' H' s' R'=>?_,λ_=>O⟩;let#v[a,dx',ys,q1,q2,q3,q4,q5,q6]:=R'.sl 0 _ e2;have ea:a=p:=by exists q4
 subst ea;show k ys dx' H0' H' s' R'.sub (λb o e n=>R'.keep b o e (by exists n)) R'.fr q3 q2 q5 q6
end
def Sl.L:Sl->Option bw
 |.ls ds=>Z ds
 |.pm ds=>Z ds
 |_=>J
def Sl.putL:Sl->bw->Sl
 |.pm _,ds=>.pm ds
 |_,ds=>.ls ds
def Sl.L_own{s:Sl}(h:s.L=Z ds):s.own=γ:=by ext s<;>first|rfl|ext h
def Sl.putL_L{s:Sl}:(s.putL ds).L=Z ds:=by ext s<;>rfl
section
variable{G:Bg}{F:Fr}{σ:St}{ρ:aJ}{H0 H:Hp}
theorem IU.lst{o:Option V}{s:Sl}{ds:bw}(h:IU G F H0 H o s)(e:s.L=Z ds):∃a xs,o=Z (.ref a)/\H a=Z (.lst xs)/\H0 a=J/\Reps G H0 ds xs:=by
 cases s with
 |ls ds'=>ext e;let#v[a,xs,h1,h2,h3,h4,h5]:=h;show⟨a,xs,h1,h2,h3,h5⟩
 |pm ds'=>ext e;let#v[a,xs,h1,h2,h3,h4,h5]:=h;show⟨a,xs,h1,h2,h3,h5⟩
 |_=>ext e
def RelE.mutL(R:RelE G F σ ρ H0 H)(hi:ρ[i]?=Z s)(hs:s.L=Z ds)(ha:(σ[i]?).join=Z (.ref a))(r:Reps G H0 ds' xs'):
  RelE G F σ (ρ.set i (s.putL ds')) H0 (upd H a (.lst xs')):=by
 have ok:=R.sl i s hi;rw[ha]at ok;calc R.mut hi (Sl.L_own hs) ha (λH' hH=>?_) (Sl.L_own Sl.putL_L);cases s with
 |ls ds0=>let#v[b,xs,h1,h2,h3,h4,h5]:=ok;ext h1;show⟨a,xs',O,hH,h3,h4,r⟩
 |pm ds0=>let#v[b,xs,h1,h2,h3,h4,h5]:=ok;ext h1;show⟨a,xs',O,hH,h3,h4,r⟩
 |_=>ext hs
end
def xK(ρ:aJ)(i:Nat):Option bw:=match ρ[i]? with
 |some s=>s.L
 |none=>J
def y9(h:xK ρ i=Z ds):∃s,ρ[i]?=Z s/\s.L=Z ds:=by
 delta xK at h;cases e:ρ[i]? with
 |none=>rw[e]at h;cases h
 |some s=>rw[e]at h;show⟨s,O,h⟩
def putAt(ρ:aJ)(i:Nat)(ds:bw):aJ:=match ρ[i]? with
 |some s=>ρ.set i (s.putL ds)
 |none=>ρ
def zt(i:Nat)(f:FE):FE:=λρ=>match xK ρ i with
 |some _=>match f ρ with
  |some (d,ρ1)=>match xK ρ1 i with
   |some ds=>if ds.length<1000 then Z (.non,putAt ρ1 i (ds++[d]))else J
   |none=>J
  |none=>J
 |none=>J
section
variable{X:Cx}{G:Bg}
def Ay(R:RelE G F σ ρ H0 H)(h:xK ρ i=Z ds):∃a xs,σ[i]?=Z (Z (.ref a))/\H a=Z (.lst xs)/\Reps G H0 ds xs/\
  (∀ds' xs',Reps G H0 ds' xs'->RelE G F σ (putAt ρ i ds') H0 (upd H a (.lst xs'))):=by
 let#v[s,e1,e2]:=y9 h;let#v[a,xs,e3,e4,e5,e6]:=(R.sl i s e1).lst e2;calc⟨a,xs,yu e3,e4,e6,λds' xs' r=>?_⟩;delta putAt;rw[e1];show R.mutL e1 e2 e3 r
def PQ(h:PE X e (tBM G.K "list" Kq (DU i) (tFA G (aCons f uk)))):PE X e (tF G (zt i f)):=PE.weak h λσ H Q hh=>by
 sleep 9
 delta zt at e;cases e0:xK ρ i with
 |none=>erw[e0]at e;cases e
 |some ds0=>
  erw[e0]at e;rcases ur (f:=f) (ρ:=ρ)with e1|⟨x,ρ1,e1⟩<;>erw[e1]at e
  .ext e
  .cases e2:xK ρ1 i with
   |none=>erw[e2]at e;cases e
   |some ds=>
    erw[e2]at e;split at e
    .rename_i hl;ext e;let#v[a,xs,s1,s2,s3,_]:=Ay R e0;refine⟨.ref a,s1,.inl ⟨O,xs,SqL.of s2⟩,F,ρ,H0,[x],ρ1,R,by delta aCons;rw[e1];rfl,λys H1 H1' s R' rs=>?_⟩
     sleep 4
     let#v[a',xs',t1,t2,t3,t4]:=Ay R' e2;rw[s1]at t1;ext t1;show⟨a,xs',v,O,O,t2,by rw[<-tP t3];show CC (),k _ _ _ s (t4 _ _ (vU t3 (uD rv uy))) zP⟩
    .ext e
def Hg(i:Nat)(f:FA):FE:=λρ=>match xK ρ i with
 |some _=>match f ρ with
  |some (es,ρ1)=>match xK ρ1 i with
   |some ds=>if ds.length+es.length<=1000 then Z (.non,putAt ρ1 i (ds++es))else J
   |none=>J
  |none=>J
 |none=>J
def PR(h:PE X e (tBM G.K "list" N6 (DU i) (DY (tFN G f) IP))):PE X e (tF G (Hg i f)):=PE.weak h λσ H Q hh=>by
 sleep 9
 delta Hg at e;cases e0:xK ρ i with
 |none=>erw[e0]at e;cases e
 |some ds0=>
  erw[e0]at e;rcases ur (f:=f) (ρ:=ρ)with e1|⟨x,ρ1,e1⟩<;>erw[e1]at e
  .ext e
  .cases e2:xK ρ1 i with
   |none=>erw[e2]at e;cases e
   |some ds=>
    erw[e2]at e;split at e
    .rename_i hl;ext e;let#v[a,xs,s1,s2,s3,_]:=Ay R e0;calc⟨.ref a,s1,.inl ⟨O,xs,SqL.of s2⟩,F,ρ,H0,x,ρ1,R,e1,λp ys H1 H1' s R' hp h0 hb ap rs=>?_⟩;let#v[a',xs',t1,t2,t3,t4]:=Ay R' e2;rw[s1]at t1;ext t1;calc⟨a,p,xs',ys,O,O,t2,hp,?_,k _ _ _ s (t4 _ _ (vU t3 rs)) zP⟩;rw[<-tP t3,<- tP rs];show xl hl
    .ext e
def acX(i:Nat):FE:=λρ=>match xK ρ i with
 |some (d::ds)=>Z (d,putAt ρ i ds)
 |_=>J
def Hh(r:Reps G H0 ds xs)(h:atI ds i=Z d):∃v,atI xs i=Z v/\Rep G H0 d v:=by
 delta atI at h ⊢;rw[<-tP r];cases e:ixN ds.length i with
 |none=>rw[e]at h;cases h
 |some j=>rw[e]at h;show xJ r h
def cFz(i:Nat):FE:=λρ=>match ρ[i]? with
 |some (.ls ds)=>Z (.lst ds,ρ.set i (.im (.lst ds)))
 |some (.dk ks ds)=>Z (.dic ks ds,ρ.set i (.im (.dic ks ds)))
 |some (.im d)=>Z (d,ρ)
 |_=>J
theorem RelE.toIm(R:RelE G F σ ρ H0 H)(hi:ρ[i]?=Z s)(hs:(σ[i]?).join=Z (.ref p))(so:s.own=γ)(hp:H p=Z o)(h0:H0 p=J)(hb:F.B p=J)(r:Rep G (upd H0 p o) d (.ref p)):
  RelE G F σ (ρ.set i (.im d)) (upd H0 p o) H where
 sub:=λb u e=>by
  by_cases hb:b=p
  .subst hb;rw[tU]at e;ext e;show hp
  .rw[tT hb]at e;show R.sub _ _ e
 g0:=R.g0.trans (ui h0 o)
 keep:=R.keep
 fr:=λb u e=>by
  by_cases hb':b=p
  .subst hb';show .inr hb
  .rw[tT hb']at e;show R.fr _ _ e
 am:=R.am
 len:=by rw[fM];show R.len
 sl:=λj t e=>by
  rw[cn]at e;by_cases h:i=j
  .subst h;rw[ao O]at e;split at e
   .ext e;show⟨_,hs,r⟩
   .ext e
  .rw[ak h]at e;calc(R.sl j t e).grow (ui h0 o) (λa u _ _ q=>q) λa u z to q q0=>?_;rw[tT (λy=>by subst y;show R.ap j i t s a (λy=>h y.symm) e hi to so z hs)];show q0
 ap:=λj k t u b hjk ej ek tj tk vj vk=>by
  have gen:∀{m:Nat} {x:Sl},(ρ.set i (.im d))[m]?=Z x->x.own=γ->ρ[m]?=Z x:=λ{m x} e xo=>by
   rw[cn]at e;by_cases h:i=m
   .subst h;rw[ao O]at e;split at e
    .ext e;ext xo
    .ext e
   .rw[ak h]at e;show e
  show R.ap j k t u b hjk (gen ej tj) (gen ek tk) tj tk vj vk
theorem RelE.toImD(R:RelE G F σ ρ H0 H)(hi:ρ[i]?=Z s)(hs:(σ[i]?).join=Z (.ref p))(so:s.own=γ)(h0:H0 p=J)(hb:F.B p=J)(r:Rep G (upd H0 p o) d (.ref p)):
  RelE G F σ (ρ.set i (.im d)) (upd H0 p o) (upd H p o) where
 sub:=λb u e=>by
  by_cases hb:b=p
  .subst hb;rw[tU]at e ⊢;show e
  .rw[tT hb]at e ⊢;show R.sub _ _ e
 g0:=R.g0.trans (ui h0 o)
 keep:=λb u e n=>by rw[tT (λz=>by subst z;rw[hb]at e;ext e)];show R.keep b u e n
 fr:=λb u e=>by
  by_cases hb':b=p
  .subst hb';show .inr hb
  .rw[tT hb']at e;show R.fr _ _ e
 am:=λb hm=>by
  by_cases hb':b=p
  .subst hb';show⟨o,tU⟩
  .rw[tT hb'];show R.am b hm
 len:=by rw[fM];show R.len
 sl:=λj t e=>by
  rw[cn]at e;by_cases h:i=j
  .subst h;rw[ao O]at e;split at e
   .ext e;show⟨_,hs,r⟩
   .ext e
  .rw[ak h]at e;refine(R.sl j t e).grow (ui h0 o) (λa u z to q=>?_) λa u z to q q0=>?_
   .rw[tT (λy=>by subst y;show R.ap j i t s a (λy=>h y.symm) e hi to so z hs)];show q
   .rw[tT (λy=>by subst y;show R.ap j i t s a (λy=>h y.symm) e hi to so z hs)];show q0
 ap:=λj k t u b hjk ej ek tj tk vj vk=>by
  have gen:∀{m:Nat} {x:Sl},(ρ.set i (.im d))[m]?=Z x->x.own=γ->ρ[m]?=Z x:=λ{m x} e xo=>by
   rw[cn]at e;by_cases h:i=m
   .subst h;rw[ao O]at e;split at e
    .ext e;ext xo
    .ext e
   .rw[ak h]at e;show e
  show R.ap j k t u b hjk (gen ej tj) (gen ek tk) tj tk vj vk
def abI(h:PE X e (DU i)):PE X e (tF G (cFz i)):=PE.weak (PE.ghost h) λσ H Q hh=>by
 sleep 9
 delta cFz at e;split at e
 .rename_i ds e0;ext e;let#v[a,xs,h1,h2,h3,h4,h5]:=R.sl i _ e0;have rr:Rep G (upd H0 a (.lst xs)) (.lst ds) (.ref a):=CD tU (Reps.mono (ui h3 _) _ _ h5);show⟨_,yu h1,.inl (k _ _ _ (ui h3 _) (R.toIm e0 h1 O h2 h3 h4 rr) rr)⟩
 .rename_i ks ds e0;ext e;let#v[a,xs,h1,h2,h3,h4,h5,h6]:=R.sl i _ e0;calc⟨_,yu h1,.inr ⟨a,_,h2,λo=>?_⟩⟩;have rr:Rep G (upd H0 a (.frz o (.dK (ks.zip xs)))) (.dic ks ds) (.ref a):=by delta Rep;show⟨a,o,xs,O,tU,h5,Reps.mono (ui h3 _) _ _ h6⟩
  show k _ _ _ (ui h3 _) (R.toImD e0 h1 O h3 h4 rr) rr
 .rename_i d' e0;ext e;let#v[v,e2,e3]:=R.sl i _ e0;show⟨v,yu e2,.inl (k _ _ _ (ue.refl _) R e3)⟩
 .ext e
def Hk(i:Nat):FA:=λρ=>match ρ[i]? with
 |some (.ls ds)=>Z (ds,ρ.set i .un)
 |_=>J
def Vj(h:PE X e (DU i)):PE X e (tFN G (Hk i)):=PE.weak h λσ H Q hh=>by
 sleep 9
 delta Hk at e;split at e
 .rename_i ds e0;ext e;let#v[a,xs,h1,h2,h3,h4,h5]:=R.sl i _ e0;have gen:∀{m:Nat} {x:Sl},(ρ.set i .un)[m]?=Z x->x.own=γ->m≠i/\ρ[m]?=Z x:=λ{m x} e xo=>by
   rw[cn]at e;by_cases h:i=m
   .subst h;rw[ao O]at e;split at e
    .ext e;ext xo
    .ext e
   .rw[ak h]at e;show⟨λz=>h z.symm,e⟩
  have R':RelE G F σ (ρ.set i .un) H0 H:={
   sub:=R.sub,g0:=R.g0,keep:=R.keep,fr:=R.fr,am:=R.am
   len:=by rw[fM];show R.len
   sl:=λj t e=>by
    rw[cn]at e;by_cases h:i=j
    .subst h;rw[ao O]at e;split at e
     .ext e;trivial
     .ext e
    .rw[ak h]at e;show R.sl j t e
   ap:=λj k t u b hjk ej ek tj tk vj vk=>R.ap j k t u b hjk (gen ej tj).2 (gen ek tk).2 tj tk vj vk }
  calc⟨_,yu h1,k a xs _ _ (ue.refl _) R' h2 h3 h4 (λj t ej to z=>?_) h5⟩;let#v[nj,ej']:=gen ej to;show R.ap j i t _ a nj ej' e0 to O z h1
 .ext e
end
def stM(n:Nat)(es ds:bw):aJ:=.pm es::stE (n - 1) ds
def WE(ρ:aJ):Option bw:=match ρ with
 |.pm es::_=>Z es
 |_=>J
def fnM(np n:Nat)(f:FS):bw->bw->Option (D×bw):=λes ds=>if ds.length=np then match f (stM n es ds)with
 |some (.rt d ρ)=>match WE ρ with
  |some es'=>Z (d,es')
  |none=>J
 |some (.rn xs ρ)=>match WE ρ with
  |some es'=>Z (.lst xs,es')
  |none=>J
 |_=>J
 else J
section
variable{X:Cx}{G:Bg}
def cMut(g:bw->bw->Option (D×bw))(i:Nat)(a:FA):FE:=λρ=>match xK ρ i with
 |some _=>match a ρ with
  |some (ds,ρ1)=>match xK ρ1 i with
   |some es=>match g es ds with
    |some (d,es')=>Z (d,putAt ρ1 i es')
    |none=>J
   |none=>J
  |none=>J
 |none=>J
def Walk(G:Bg)(At:It)(ds:bw)(H0:Hp):Prop:=∀(i:Nat) (H1 H1':Hp),ue H0 H1->ue H1 H1'->
 (∀d,ds[i]?=Z d->At.go i H1'/\∀x H2',At.yld i H1' x H2'->∃H2,ue H1 H2/\ue H2 H2'/\ue H1' H2'/\(∀b o,H2 b=Z o->H1 b=Z o\/H1' b=J)/\Rep G H2 d x)/\(i=ds.length->At.stop i H1')
def tFI(G:Bg)(f:FA):TI:=λσ H R=>∃F ρ H0 ds ρ',RelE G F σ ρ H0 H/\f ρ=Z (ds,ρ')/\∀At H0' H',ue H0 H0'->RelE G F σ ρ' H0' H'->Walk G At ds H0'->R At H'
def PI.weak(h:PI X tg e t)(w:∀σ H R,t' σ H R->t σ H R):PI X tg e t':=λpins s σ H R I hq=>h pins s σ H R I (w _ _ _ hq)
def Hl(h:SqL G.K H0 a xs)(r:Reps G H0 ds xs):Walk G (Itl G.K a) ds H0:=λi H1 H1' s s'=>by have h1:SqL G.K H1' a xs:=(s.trans s').seq h;calc⟨λd e=>?_,λhl=>⟨xs,h1,by rw[<-tP r,hl];show aS _⟩⟩;let#v[v,e1,e2]:=xJ r e;calc⟨⟨xs,v,h1,e1⟩,λx H2' y=>?_⟩;let#v[e3,e4]:=y;have e5:=e4 xs h1;rw[e1]at e5;ext e5;subst e3;show⟨H1,ue.refl _,s',ue.refl _,λb o e=>.inl e,Rep.mono s _ _ e2⟩
def RA(h:SqT G.K H0 a xs)(r:Reps G H0 ds xs):Walk G (Itt G.K a) ds H0:=λi H1 H1' s s'=>by have h1:SqT G.K H1' a xs:=SqT.mono (s.trans s') h;calc⟨λd e=>?_,λhl=>⟨xs,h1,by rw[<-tP r,hl];show aS _⟩⟩;let#v[v,e1,e2]:=xJ r e;calc⟨⟨xs,v,h1,e1⟩,λx H2' y=>?_⟩;let#v[e3,e4]:=y;have e5:=e4 xs h1;rw[e1]at e5;ext e5;subst e3;show⟨H1,ue.refl _,s',ue.refl _,λb o e=>.inl e,Rep.mono s _ _ e2⟩
def iL(f:FE):FA:=λρ=>match f ρ with
 |some (.lst ds,ρ')=>Z (ds,ρ')
 |some (.fzl ds,ρ')=>Z (ds,ρ')
 |_=>J
def iT(f:FE):FA:=λρ=>match f ρ with
 |some (.tup ds,ρ')=>Z (ds,ρ')
 |_=>J
def LJ(h:PI X tg e (QK G.K (tF G f))):PI X tg e (tFI G (iL f)):=PI.weak h λσ H R hh=>by
 let#v[F,ρ,H0,ds,ρ',R,e,k]:=hh;delta iL at e;split at e
 .rename_i ds' ρ1 e1
  sleep 6
  let#v[a,xs,rfl,r1,r2]:=r;show⟨a,O,⟨xs,R'.sub.seq (SqL.of r1)⟩,k _ _ _ s R' (Hl (SqL.of r1) r2)⟩
 .rename_i ds' ρ1 e1
  sleep 6
  let#v[a,xs,rfl,r1,r2]:=r;show⟨a,O,⟨xs,R'.sub.seq r1⟩,k _ _ _ s R' (Hl r1 r2)⟩
 .ext e
def Vk(h:PI X tg e (Xt G.K (tF G f))):PI X tg e (tFI G (iT f)):=PI.weak h λσ H R hh=>by
 let#v[F,ρ,H0,ds,ρ',R,e,k]:=hh;delta iT at e;split at e
 .rename_i ds' ρ1 e1
  sleep 6
  let#v[a,xs,rfl,r1,r2]:=r;show⟨a,O,⟨xs,SqT.mono R'.sub r1⟩,k _ _ _ s R' (RA r1 r2)⟩
 .ext e
def CT(lo:Int)(n:Nat):bw:=(bu n).map λ(i:Nat)=>D.int (lo+(i:Int))
def RB{lo:Int}:Walk G (Itr lo n) (CT lo n) H0:=λi H1 H1' s s'=>by
 calc⟨λd e=>?_,λhl=>by change n<=i;rw[hl];simp[CT]⟩;delta CT at e;rw[bC]at e;by_cases hi:i<n
 .rw[nS hi]at e;ext e;calc⟨hi,λx H2' y=>?_⟩;let#v[e3,rfl]:=y;subst e3;show⟨H1,ue.refl _,s',ue.refl _,λb o e=>.inl e,wK _⟩
 .rw[gf (by exists hi)]at e;ext e
def iR1(f:FE):FA:=λρ=>match f ρ with
 |some (.int n,ρ')=>if -1000000<=n/\n<=1000000 then Z (CT 0 n.toNat,ρ')else J
 |_=>J
def MW(h:PI X tg e (Wu (tFA G (aCons f uk)))):PI X tg e (tFI G (iR1 f)):=PI.weak h λσ H R hh=>by
 let#v[F,ρ,H0,ds,ρ',R,e,k]:=hh;delta iR1 at e;split at e
 .rename_i n ρ1 e1;split at e
  .rename_i hn;ext e;calc⟨F,ρ,H0,[.int n],_,R,by delta aCons;rw[e1];rfl,λxs H1 H1' s R' rs=>?_⟩;delta Reps at rs;let#v[v,r0,rfl,rv,rn]:=rs;delta Reps at rn;delta Rep at rv;subst rn rv;show⟨n,O,by omega,by omega,k _ _ _ s R' RB⟩
  .ext e
 .ext e
def forL(g:FG)(b:FS):bw->FS
 |[],ρ=>Z (.nx ρ)
 |d::r,ρ=>match g d ρ with
  |none=>J
  |some ρ1=>match b ρ1 with
   |some (.nx ρ2)=>forL g b r ρ2
   |some (.ct ρ2)=>forL g b r ρ2
   |some (.bk ρ2)=>Z (.nx ρ2)
   |some (.rt d ρ2)=>Z (.rt d ρ2)
   |some (.rn d ρ2)=>Z (.rn d ρ2)
   |none=>J
def wC(s:FA)(g:FG)(b:FS):FS:=λρ=>match s ρ with
 |some (ds,ρ')=>forL g b ds ρ'
 |none=>J
def Vl{st:Stmt}(h:PS X st (Xv (tFI G s) (tFG G n g) (tFS G b))):PS X st (tFS G (wC s g b)):=PS.weak h λE σ H hh=>by
 let#v[F,ρ,H0,o,R,e,k,k2]:=hh;delta wC at e;rcases ur (f:=s) (ρ:=ρ)with e1|⟨ds,ρ1,e1⟩<;>erw[e1]at e
 .ext e
 .calc⟨F,ρ,H0,ds,ρ1,R,e1,λAt H1 H1' s1 R1 wk=>?_⟩;calc⟨λi m σ H=>m=ds.length - i/\i<=ds.length/\∃ρi Hi,ue H1 Hi/\RelE G F σ ρi Hi H/\forL g b (ds.drop i) ρi=Z o,⟨_,O,cc _,ρ1,H1,ue.refl _,R1,e⟩,?_⟩;rintro i m σi Hi' ⟨rfl,hi,ρi,Hi,si,Ri,ei⟩;by_cases hlt:i<ds.length
  .have ed:ds.drop i=ds[i]::ds.drop (i+1):=j3 hlt;rw[ed]at ei;delta forL at ei;let#v[go,yl]:=(wk i Hi Hi' si Ri.sub).1 ds[i] (bg hlt);calc .inr ⟨go,λσ' H'=>∃ρi Hi,ue H1 Hi/\RelE G F σ' ρi Hi H'/\forL g b (ds.drop (i+1)) ρi=Z o,λσ' H' q=>⟨ds.length - (i+1),by omega,O,hlt,q⟩,λx H' y=>?_⟩;let#v[H2,t1,t2,t3,t4,t5]:=yl x H' y;have R2:=Ri.grow t3 t1 t2 t4;cases e2:g ds[i] ρi with
   |none=>erw[e2]at ei;cases ei
   |some ρ2=>
    erw[e2]at ei;calc⟨F,ρi,H2,_,ρ2,R2,t5,e2,λσ3 _ R3=>?_⟩;have kk:=k.back (s1.trans (si.trans t1));cases e3:b ρ2 with
    |none=>erw[e3]at ei;cases ei
    |some q=>
     calc⟨F,ρ2,H2,q,R3,e3,?_,λ_=>O⟩;cases q with
     |nx ρ3=>erw[e3]at ei;show λσ' H0' H' s' R'=>⟨ρ3,H0',si.trans (t1.trans s'),R',ei⟩
     |ct ρ3=>erw[e3]at ei;show λσ' H0' H' s' R'=>⟨ρ3,H0',si.trans (t1.trans s'),R',ei⟩
     |bk ρ3=>erw[e3]at ei;ext ei;show kk
     |rt d ρ3=>erw[e3]at ei;ext ei;show kk
     |rn d ρ3=>erw[e3]at ei;ext ei;show kk
  .have ez:ds.drop i=[]:=m8 ();rw[ez]at ei;delta forL at ei;ext ei;show .inl ⟨(wk i Hi Hi' si Ri.sub).2 (),k _ _ _ (s1.trans si) Ri⟩
def whL(c:FT)(b:FS):Nat->FS
 |0,_=>J
 |n+1,ρ=>match c ρ with
  |some (δ,ρ1)=>Z (.nx ρ1)
  |some (γ,ρ1)=>match b ρ1 with
   |some (.nx ρ2)=>whL c b n ρ2
   |some (.ct ρ2)=>whL c b n ρ2
   |some (.bk ρ2)=>Z (.nx ρ2)
   |some (.rt d ρ2)=>Z (.rt d ρ2)
   |some (.rn d ρ2)=>Z (.rn d ρ2)
   |none=>J
  |none=>J
def PU{st:Stmt}(n:Nat)(h:PS X st (QI (tFT G c) (tFS G b))):PS X st (tFS G (whL c b n)):=PS.weak h λE σ H hh=>by
 let#v[F,ρ,H0,o,R,e,k,k2]:=hh;calc⟨λm σ H=>∃ρi Hi,ue H0 Hi/\RelE G F σ ρi Hi H/\whL c b m ρi=Z o,⟨n,ρ,H0,ue.refl _,R,e⟩,?_⟩;rintro m σi Hi' ⟨ρi,Hi,si,Ri,ei⟩;cases m with
 |zero=>cases ei
 |succ m=>
  delta whL at ei;rcases ur (f:=c) (ρ:=ρi)with e1|⟨t,ρ1,e1⟩
  .erw[e1]at ei;ext ei
  .calc⟨F,ρi,Hi,t,ρ1,Ri,e1,λH1 H1' s1 R1=>?_⟩;cases t with
   |false=>erw[e1]at ei;ext ei;show Kt (k _ _ _ (si.trans s1) R1)
   |true=>
    erw[e1]at ei;calc Ku ⟨λσ' H'=>∃ρi Hi,ue H0 Hi/\RelE G F σ' ρi Hi H'/\whL c b m ρi=Z o,λσ' H' q=>⟨m,dq m,q⟩,?_⟩;have kk:=k.back (si.trans s1);cases e3:b ρ1 with
    |none=>erw[e3]at ei;cases ei
    |some q=>
     calc⟨F,ρ1,H1,q,R1,e3,?_,λ_=>O⟩;cases q with
     |nx ρ3=>erw[e3]at ei;show λσ' H0' H' s' R'=>⟨ρ3,H0',si.trans (s1.trans s'),R',ei⟩
     |ct ρ3=>erw[e3]at ei;show λσ' H0' H' s' R'=>⟨ρ3,H0',si.trans (s1.trans s'),R',ei⟩
     |bk ρ3=>erw[e3]at ei;ext ei;show kk
     |rt d ρ3=>erw[e3]at ei;ext ei;show kk
     |rn d ρ3=>erw[e3]at ei;ext ei;show kk
end
def Sl.cap:Sl->Sl
 |.im d=>.im d
 |.ls ds=>.pm ds
 |.pm ds=>.pm ds
 |_=>.un
def D7(k:Nat)(cap:List Nat)(ρ:aJ):aJ:=jm k .un++cap.map λj=>((ρ[j]?).getD .un).cap
def xM:List Nat->aJ->aJ->Option aJ
 |[],_,ρ=>Z ρ
 |j::cap,t::ts,ρ=>match xK ρ j with
  |some _=>match t with
   |.pm ds=>xM cap ts (putAt ρ j ds)
   |_=>J
  |none=>xM cap ts ρ
 |_::_,[],_=>J
def BQ(k:Nat)(cap:List Nat)(g:FG)(ft:FT)(fe:FE):bw->aJ->Option (bw×aJ)
 |[],ρ=>Z ([],ρ)
 |d::r,ρ=>match g d (D7 k cap ρ)with
  |none=>J
  |some ρ1=>match ft ρ1 with
   |some (γ,ρ2)=>match fe ρ2 with
    |some (x,ρ3)=>match xM cap (ρ3.drop k) ρ with
     |some ρ'=>match BQ k cap g ft fe r ρ' with
      |some (xs,ρ'')=>Z (x::xs,ρ'')
      |none=>J
     |none=>J
    |none=>J
   |some (δ,ρ2)=>match xM cap (ρ2.drop k) ρ with
    |some ρ'=>BQ k cap g ft fe r ρ'
    |none=>J
   |none=>J
def tR(k:Nat)(cap:List Nat)(s:FA)(g:FG)(ft:FT)(fe:FE):FA:=λρ=>match s ρ with
 |some (ds,ρ')=>if ds.length<=1000 then BQ k cap g ft fe ds ρ' else J
 |none=>J
def uQ:FT:=λρ=>Z (γ,ρ)
theorem A5:∀{cap:List Nat} {ts ρ ρ':aJ},xM cap ts ρ=Z ρ'->ρ'.length=ρ.length/\
  (∀(j:Nat) (s':Sl),ρ'[j]?=Z s'->∃s,ρ[j]?=Z s/\((s'=s/\(s.L≠J->j∉cap))\/∃(m:Nat) (ds ds0:bw),cap[m]?=Z j/\ts[m]?=Z (Sl.pm ds)/\s.L=Z ds0/\s'=s.putL ds))
 |[],ts,ρ,ρ',h=>by ext h;show⟨O,λj s' e=>⟨s',e,.inl ⟨O,λ_ z=>by ext z⟩⟩⟩
 |j0::cap,[],ρ,ρ',h=>by cases h
 |j0::cap,t::ts,ρ,ρ',h=>by
  delta xM at h;cases e0:xK ρ j0 with
  |none=>
   erw[e0]at h;let#v[h1,h2]:=A5 h;calc⟨h1,λj s' e=>?_⟩;let#v[s,e1,q]:=h2 j s' e;calc⟨s,e1,?_⟩;rcases q with ⟨rfl,q⟩|⟨m,ds,ds0,q1,q2,q3,q4⟩
   .calc .inl ⟨O,λz y=>?_⟩;rcases aQ.mp y with y|y
    .subst y;delta xK at e0;rw[e1]at e0;show z e0
    .show q z y
   .show .inr ⟨m+1,ds,ds0,q1,q2,q3,q4⟩
  |some ds1=>
   erw[e0]at h;cases t with
   |pm ds=>
    simp only at h;let#v[s0,e1,e2]:=y9 e0;delta putAt at h;rw[e1]at h;simp only at h;let#v[h1,h2]:=A5 h;calc⟨by rw[h1,fM],λj s' e=>?_⟩;let#v[s,e3,q]:=h2 j s' e;by_cases hj:j0=j
    .subst hj;rw[cn,ao O]at e3;split at e3
     .ext e3;calc⟨s0,e1,.inr ?_⟩;rcases q with ⟨rfl,q⟩|⟨m,ds',ds0,q1,q2,q3,q4⟩
      .show⟨0,ds,ds1,O,O,e2,O⟩
      .calc⟨m+1,ds',ds1,q1,q2,e2,?_⟩;rw[q4];ext s0<;>rfl
     .ext e3
    .rw[cn,ak hj]at e3;calc⟨s,e3,?_⟩;rcases q with ⟨rfl,q⟩|⟨m,ds',ds0,q1,q2,q3,q4⟩
     .calc .inl ⟨O,λz y=>?_⟩;rcases aQ.mp y with y|y
      .show hj y.symm
      .show q z y
     .show .inr ⟨m+1,ds',ds0,q1,q2,q3,q4⟩
   |_=>ext h
def IV(cap:List Nat)(σ:St)(ρ:aJ):List Addr:=cap.filterMap λj=>match xK ρ j,(σ[j]?).join with
 |some _,Z (.ref a)=>Z a
 |_,_=>J
def BR:a∈IV cap σ ρ ↔ ∃j∈cap,(∃ds,xK ρ j=Z ds)/\(σ[j]?).join=Z (.ref a):=by
 delta IV;rw[ie];constructor
 .rintro⟨j,hj,e⟩;calc⟨j,hj,?_⟩;split at e
  .rename_i ds a' e1 e2;ext e;show⟨⟨ds,e1⟩,e2⟩
  .ext e
 .rintro⟨j,hj,⟨ds,e1⟩,e2⟩;calc⟨j,hj,?_⟩;rw[e1,e2]
section
variable{X:Cx}{G:Bg}{F:Fr}{σ:St}{ρ:aJ}{H0 H:Hp}
def Hm(h:(D7 k cap ρ)[i]?=Z s):s=.un\/∃m j,i=k+m/\cap[m]?=Z j/\s=((ρ[j]?).getD .un).cap:=by
 delta D7 at h;by_cases hi:i<k
 .rw[fz (by exists hi),iV,ao hi]at h;ext h;show .inl O
 .rw[fw (by exists oQ hi),c6,bC]at h;cases e:cap[i - k]? with
  |none=>rw[e]at h;cases h
  |some j=>rw[e]at h;ext h;show .inr ⟨i - k,j,by omega,e,O⟩
def D8(h:cap[m]?=Z j):((xI k cap σ)[k+m]?).join=(σ[j]?).join:=by delta xI;rw[fw (by simp),c6,show k+m - k=m by omega,bC,h];rfl
theorem RelE.cap(R:RelE G F σ ρ H0 H)(k:Nat)(cap:List Nat)(nd:cap.Nodup):RelE G ⟨H0,H,IV cap σ ρ⟩ (xI k cap σ) (D7 k cap ρ) H0 H where
 sub:=R.sub
 g0:=ue.refl _
 keep:=λb o e _=>e
 fr:=λb o e=>.inl e
 am:=λa ha=>by let#v[j,hj,#v[ds,e1],e2]:=BR.mp ha;let#v[s,e3,e4]:=y9 e1;let#v[a',xs,h1,h2,_]:=(R.sl j s e3).lst e4;rw[e2]at h1;ext h1;show⟨_,h2⟩
 len:=by delta xI D7;rw[aM,aM,c6,c6,aq,aq]
 sl:=λi s e=>by
  rcases Hm e with rfl|⟨m,j,rfl,e1,rfl⟩
  .trivial
  .rw[D8 e1];cases e2:ρ[j]? with
   |none=>trivial
   |some s=>
    have ok:=R.sl j s e2;have mem:∀{a:Addr} {ds:bw},s.L=Z ds->(σ[j]?).join=Z (.ref a)->a∈IV cap σ ρ:=λh1 h2=>BR.mpr ⟨j,cG e1,⟨_,by delta xK;rw[e2];show h1⟩,h2⟩;cases s with
    |un=>trivial
    |im d=>show ok
    |ls ds=>let#v[a,xs,h1,h2,h3,h4,h5]:=ok;show⟨a,xs,h1,h2,h3,mem O h1,h5⟩
    |pm ds=>let#v[a,xs,h1,h2,h3,h4,h5]:=ok;show⟨a,xs,h1,h2,h3,mem O h1,h5⟩
    |dk ks ds=>trivial
    |ob c ns ds=>trivial
 ap:=λi i' s t a hii e e' so to v v'=>by
  rcases Hm e with rfl|⟨m,j,rfl,e1,rfl⟩
  .ext so
  rcases Hm e' with rfl|⟨m',j',rfl,e1',rfl⟩
  .ext to
  rw[D8 e1]at v;rw[D8 e1']at v';have own:∀{j:Nat},(((ρ[j]?).getD Sl.un).cap).own=γ->∃s,ρ[j]?=Z s/\s.own=γ:=λ{j} h=>by
   cases z:ρ[j]? with
   |none=>rw[z]at h;cases h
   |some s=>rw[z]at h;calc⟨s,O,?_⟩;ext s<;>first|rfl|ext h
  let#v[s,z,zo]:=own so;let#v[s',z',zo']:=own to;by_cases hj:j=j'
  .subst hj;have:m=m':=(List.getElem?_inj (ck.mp e1).1 nd).mp (e1.trans e1'.symm);show hii (by rw[this])
  .show R.ap j j' s s' a hj z z' zo zo' v v'
theorem RelE.uncap(R:RelE G F σ ρ H0 H){k:Nat}{cap:List Nat}{σ4:St}{ρ4 ρ':aJ}{H1 H1':Hp}(R4:RelE G ⟨H0,H,IV cap σ ρ⟩ σ4 ρ4 H1 H1')(hd:σ4.drop k=(xI k cap σ).drop k)(hu:xM cap (ρ4.drop k) ρ=Z ρ'):RelE G F σ ρ' H1 H1':=by
 let#v[hl,hc]:=A5 hu;have at4:∀{m j:Nat},cap[m]?=Z j->(σ4[k+m]?).join=(σ[j]?).join:=λ{m j} e=>by
  have q:(σ4.drop k)[m]?=((xI k cap σ).drop k)[m]?:=by rw[hd]
  rw[eI,eI]at q;rw[q];show D8 e
 have nA:∀{j:Nat} {s:Sl} {a:Addr},ρ[j]?=Z s->s.own=γ->(σ[j]?).join=Z (.ref a)->(s.L≠J->j∉cap)->a∉IV cap σ ρ:=λ{j s a} e so z hn ha=>by
  let#v[i,hi,#v[ds,e1],e2]:=BR.mp ha;let#v[t,e3,e4]:=y9 e1;by_cases hij:i=j
  .subst hij;rw[e]at e3;ext e3;show hn (by rw[e4];simp) hi
  .show R.ap i j t s a hij e3 e (Sl.L_own e4) so e2 z
 have hA:∀a∈IV cap σ ρ,F.B a=J\/a∈F.A:=λa ha=>by let#v[i,hi,#v[ds,e1],e2]:=BR.mp ha;let#v[t,e3,e4]:=y9 e1;let#v[a',u,h1,h2,h3,h4]:=(R.sl i t e3).at (Sl.L_own e4);rw[e2]at h1;ext h1;show h4
 have own':∀{j:Nat} {s':Sl},ρ'[j]?=Z s'->s'.own=γ->∃s,ρ[j]?=Z s/\s.own=γ:=λ{j s'} e so=>by
  let#v[s,e1,q]:=hc j s' e;rcases q with ⟨rfl,q⟩|⟨m,ds,ds0,q1,q2,q3,q4⟩
  .show⟨s',e1,so⟩
  .show⟨s,e1,Sl.L_own q3⟩
 show {
  sub:=R4.sub
  g0:=R.g0.trans R4.g0
  keep:=λb o e n=>by
   calc R4.keep b o (R.keep b o e n) λha=>?_;rcases hA b ha with q|q
   .rw[q]at e;ext e
   .show n q
  fr:=λb o e=>by
   rcases R4.fr b o e with q|q
   .show R.fr b o q
   .show .inr (R.bNone q)
  am:=λa ha=>by
   let#v[o,q]:=R.am a ha;by_cases z:a∈IV cap σ ρ
   .show R4.am a z
   .show⟨o,R4.keep a o q z⟩
  len:=by rw[hl];show R.len
  sl:=λj s' e=>by
   let#v[s,e1,q]:=hc j s' e;rcases q with ⟨rfl,q⟩|⟨m,ds,ds0,q1,q2,q3,q4⟩
   .calc(R.sl j s' e1).grow R4.g0 (λa u z so y=>R4.keep a u y (nA e1 so z q)) λa u z so y y0=>?_;cases w:H1 a with
    |none=>rfl
    |some o=>
     rcases R4.fr a o w with x|x
     .have x':H0 a=Z o:=x;rw[x']at y0;ext y0
     .have x':H a=J:=x;rw[x']at y;ext y
   .rw[eI]at q2;let#v[a,xs,h1,h2,h3,h4,h5]:=R4.sl _ _ q2;rw[at4 q1]at h1;have ok:=R.sl j s e1;subst q4;cases s with
    |ls ds1=>let#v[a',xs',g1,g2,g3,g4,g5]:=ok;rw[h1]at g1;ext g1;show⟨a,xs,h1,h2,h3,g4,h5⟩
    |pm ds1=>let#v[a',xs',g1,g2,g3,g4,g5]:=ok;rw[h1]at g1;ext g1;show⟨a,xs,h1,h2,h3,g4,h5⟩
    |_=>ext q3
  ap:=λi j s t a hij ei ej so to v v'=>by
   let#v[s0,z,zo]:=own' ei so;let#v[t0,y,yo]:=own' ej to;show R.ap i j s0 t0 a hij z y zo yo v v' }
def BS{k:Nat}(h:Apart σ ρ p)(hu:xM cap ts ρ=Z ρ'):Apart σ ρ' p:=λi s' e so=>by
 let#v[s,e1,q]:=(A5 hu).2 i s' e;rcases q with ⟨rfl,q⟩|⟨m,ds,ds0,q1,q2,q3,q4⟩
 .show h i s' e1 so
 .show h i s e1 (Sl.L_own q3)
inductive CI(G:Bg) (F:Fr) (σ:St) (H1:Hp) (p:Addr) (k:Nat) (cap:List Nat) (g:FG) (ft:FT) (fe:FE) (ds es:bw) (ρ':aJ) (i m:Nat) (acc:bN) (H2:Hp):Prop
 |mk (ρi:aJ) (Hi:Hp) (dn rest:bw):m=ds.length - i->i<=ds.length->ue H1 Hi->RelE G F σ ρi Hi H2->H2 p=Z (.lst acc)->Hi p=J->Apart σ ρi p->Reps G Hi dn acc->dn.length<=i->BQ k cap g ft fe (ds.drop i) ρi=Z (rest,ρ')->es=dn++rest->CI G F σ H1 p k cap g ft fe ds es ρ' i m acc H2
def Kz{cap:List Nat}(nd:cap.Nodup):∀σ H Q,tFN G (tR k cap s g ft fe) σ H Q->Fw (tFI G s) (tFG G k g) (tFT G ft) (tF G fe) k cap σ H Q:=λσ H Q hh=>by
 let#v[F,ρ,H0,es,ρ',R,e,kk]:=hh;delta tR at e;rcases ur (f:=s) (ρ:=ρ)with e1|⟨ds,ρ1,e1⟩<;>erw[e1]at e
 .ext e
 .split at e
  .rename_i hlen;calc⟨F,ρ,H0,ds,ρ1,R,e1,λAt H1 H1' s1 R1 wk p hp=>?_⟩;refine⟨CI G F σ H1 p k cap g ft fe ds es ρ',
    ⟨_,ρ1,H1,[],es,O,cc _,ue.refl _,R1.newOwn hp _,tU,R1.h0none hp,R1.apart hp,uy,aS _,e,O⟩,?_⟩
   rintro i m acc H2 ⟨ρi,Hi,dn,rest,rfl,hi,si,Ri,hp2,hp0,apt,rs,hdn,ei,rfl⟩;by_cases hlt:i<ds.length
   .have ed:ds.drop i=ds[i]::ds.drop (i+1):=j3 hlt;rw[ed]at ei;delta BQ at ei;let#v[go,yl]:=(wk i Hi H2 si Ri.sub).1 ds[i] (bg hlt);calc .inr ⟨go,λx H3 y=>?_⟩;let#v[Hj,t1,t2,t3,t4,t5]:=yl x H3 y;have R2:=Ri.grow t3 t1 t2 t4;have hp3:H3 p=Z (.lst acc):=t3 _ _ hp2;have hpj:Hj p=J:=by
     cases w:Hj p with
     |none=>rfl
     |some o=>
      rcases t4 p o w with z|z
      .rw[hp0]at z;ext z
      .rw[hp2]at z;ext z
    have RC:=R2.cap k cap nd;have npA:p∉IV cap σ ρi:=λz=>by let#v[j,_,#v[ds',q1],q2]:=BR.mp z;let#v[t,q3,q4]:=y9 q1;show apt j t q3 (Sl.L_own q4) q2
    cases e2:g ds[i] (D7 k cap ρi)with
    |none=>erw[e2]at ei;cases ei
    |some ρ2=>
     erw[e2]at ei;calc⟨_,_,Hj,ds[i],ρ2,RC,t5,e2,λσ4 hd4 R4=>⟨hd4,?_⟩⟩;rcases ur (f:=ft) (ρ:=ρ2)with e3|⟨b,ρ3,e3⟩
     .erw[e3]at ei;ext ei
     .calc⟨_,ρ2,Hj,b,ρ3,R4,e3,λH5 H5' s5 R5=>?_⟩;have keepP:∀{σ':St} {ρ'':aJ} {Ha Ha':Hp},RelE G ⟨Hj,H3,IV cap σ ρi⟩ σ' ρ'' Ha Ha'->Ha' p=Z (.lst acc)/\Ha p=J:=λRz=>by
       calc⟨Rz.keep p _ hp3 npA,?_⟩;calc Option.eq_none_iff_forall_ne_some.mpr λo w2=>?_;rcases Rz.fr p o w2 with z|z
       .have z':Hj p=Z o:=z;rw[hpj]at z';ext z'
       .have z':H3 p=J:=z;rw[hp3]at z';ext z'
      cases b with
      |false=>
       erw[e3]at ei;calc Kt ?_;cases e4:xM cap (ρ3.drop k) ρi with
       |none=>erw[e4]at ei;cases ei
       |some ρn=>erw[e4]at ei;let#v[w1,w2]:=keepP R5;show⟨ds.length - (i+1),by omega,ρn,H5,dn,rest,O,hlt,si.trans (t1.trans s5),R2.uncap R5 hd4 e4,w1,w2,BS (k:=k) apt e4,Reps.mono (t1.trans s5) _ _ rs,by omega,ei,O⟩
      |true=>
       erw[e3]at ei;calc Ku ?_;rcases ur (f:=fe) (ρ:=ρ3)with e5|⟨x5,ρ5,e5⟩
       .erw[e5]at ei;ext ei
       .erw[e5]at ei;calc⟨_,ρ3,H5,x5,ρ5,R5,e5,λv H6 H6' s6 R6 rv=>?_⟩;let#v[w1,w2]:=keepP R6;cases e4:xM cap (ρ5.drop k) ρi with
        |none=>erw[e4]at ei;cases ei
        |some ρn=>
         erw[e4]at ei;cases e6:BQ k cap g ft fe (ds.drop (i+1)) ρn with
         |none=>erw[e6]at ei;cases ei
         |some q=>
          let#v[rest',ρz]:=q;erw[e6]at ei;ext ei;have Rn:=R2.uncap R6 hd4 e4;have lacc:acc.length=dn.length:=(tP rs).symm;calc⟨acc,w1,CC (),ds.length - (i+1),by omega,ρn,H6,dn++[x5],rest',O,hlt,si.trans (t1.trans (s5.trans s6)),?_,tU,w2,BS (k:=k) apt e4,vU (Reps.mono (t1.trans (s5.trans s6)) _ _ rs) (uD rv uy),by rw[aM,cW];omega,e6,by rw[cp];rfl⟩;show {
           sub:=λb o e=>by rw[tT (λz=>by rw[z,w2]at e;ext e)];show Rn.sub b o e
           g0:=Rn.g0
           keep:=λb o e n=>by rw[tT (λz=>by subst z;rw[R1.bNone hp]at e;ext e)];show Rn.keep b o e n
           fr:=Rn.fr
           am:=λb hb=>by
            by_cases z:b=p
            .subst z;show⟨_,tU⟩
            .rw[tT z];show Rn.am b hb
           len:=Rn.len
           sl:=λj t ej=>(Rn.sl j t ej).grow (ue.refl _) (λb u z to q=>by rw[tT (λy=>BS (k:=k) apt e4 j t ej to (by rw[z,y]))];show q) λb u _ _ _ q=>q
           ap:=Rn.ap }
   .have ez:ds.drop i=[]:=m8 ();rw[ez]at ei;delta BQ at ei;ext ei;rw[bQ]at kk;show .inl ⟨(wk i Hi H2 si Ri.sub).2 (),kk p acc Hi H2 (s1.trans si) Ri hp2 hp0 (R1.bNone hp) apt rs⟩
  .ext e
def RD{cap:List Nat}(nd:cap.Nodup)(h:PE X e (Fw (tFI G s) (tFG G k g) (tFT G ft) (tF G fe) k cap)):PE X e (tFN G (tR k cap s g ft fe)):=PE.weak h (Kz nd)
def RE:PIf X [] (tFT G uQ):=λpins s σ H Q I h=>by let#v[F,ρ,H0,b,ρ',R,e,k]:=h;ext e;show UO pins s σ H Q I (k _ _ (ue.refl _) R)
end
def wD:D->Bool
 |.non=>γ|.bl _=>γ|.int _=>γ|.str _=>γ|_=>δ
def vD:D->V
 |.non=>.non|.bl b=>.bl b|.int i=>.int i|.str x=>.str x|_=>.non
section
variable{X:Cx}{G:Bg}{H:Hp}
def yw(h:Rep G H d v)(f:wD d=γ):v=vD d:=by ext d<;>first|(delta Rep at h;show h)|ext f
def D9(f:wD d=γ):∀H,Rep G H d (vD d):=λH=>by ext d<;>first|(delta Rep;rfl)|ext f
theorem E3:∀{ds:bw} {xs:bN},Reps G H ds xs->ds.all wD=γ->xs=ds.map vD
 |[],xs,h,f=>by delta Reps at h;show h
 |d::ds,xs,h,f=>by delta Reps at h;let#v[v,r,rfl,h1,h2]:=h;rw[fO,aW]at f;rw[aN,yw h1 f.1,E3 h2 f.2]
def LK(f:wD d=γ):CU (vD d)=γ:=by ext d<;>first|rfl|ext f
theorem Jv:∀{ds:bw},ds.all wD=γ->(ds.map vD).all CU=γ
 |[],_=>rfl
 |d::ds,f=>by rw[fO,aW]at f;rw[aN,fO,LK f.1,Jv f.2];rfl
def OpR.or(h:OpR X f r)(h':OpR X f r'):OpR X f (λx y H Q=>r x y H Q\/r' x y H Q):=λpins s σ H x y v u Q I rx ry q=>q.elim (h pins s σ H x y v u Q I rx ry) (h' pins s σ H x y v u Q I rx ry)
def OpD.or(h:OpD G r g)(h':OpD G r' g'):OpD G (λx y H Q=>r x y H Q\/r' x y H Q) (λx y=>match g x y with|some z=>Z z|none=>g' x y):=λx y z H0 H v u Q e s rx ry k=>by
 cases e1:g x y with
 |some w=>erw[e1]at e;ext e;show .inl (h x y _ H0 H v u Q e1 s rx ry k)
 |none=>erw[e1]at e;show .inr (h' x y z H0 H v u Q e s rx ry k)
def dI(C:Int->Int->Bool)(g:Int->Int->D):D->D->Option D
 |.int a,.int b=>if C a b=γ then Z (g a b)else J
 |_,_=>J
def LL(hC:∀a b,C a b=γ->C' a b)(hf:∀a b,wD (g a b)=γ/\vD (g a b)=g' a b):OpD G (rI C' g') (dI C g):=λx y z H0 H v u Q e s rx ry k=>by
 delta dI at e;split at e
 .rename_i a b;split at e
  .rename_i hc;ext e;delta Rep at rx ry;show⟨a,b,rx,ry,hC _ _ hc,by rw[<-(hf a b).2];show k _ λH0' _=>D9 (hf a b).1 H0'⟩
  .ext e
 .ext e
def Du(hf:∀a b,wD (g a b)=γ/\vD (g a b)=g' a b):OpD G (rI0 g') (dI (λ_ _=>γ) g):=λx y z H0 H v u Q e s rx ry k=>by
 delta dI at e;split at e
 .rename_i a b;split at e
  .ext e;delta Rep at rx ry;show⟨a,b,rx,ry,by rw[<-(hf a b).2];show k _ λH0' _=>D9 (hf a b).1 H0'⟩
  .ext e
 .ext e
def vm:=dI (λ_ _=>γ) λa b=>.int (a+b)
def Od:=dI (λ_ _=>γ) λa b=>.int (a - b)
def A6(a:Int):Bool:=decide (-(2 ^ 64)<a)&&decide (a<2 ^ 64)
def vM:=dI (λa b=>A6 a||A6 b) λa b=>.int (a * b)
def uf:=dI (λ_ b=>decide (0<b)) λa b=>.int (a % b)
def uV:=dI (λ_ b=>decide (0<b)&&decide (b<1073741824)) λa b=>.int (a / b)
def Oe:=dI (λa b=>decide (0<=b)&&decide (b<=1000000)&&decide (a.natAbs<2 ^ 64)) λa b=>.int (a ^ b.toNat)
def MX:=dI (λ_ _=>γ) λa b=>.bl (decide (a<b))
def yx:=dI (λ_ _=>γ) λa b=>.bl (decide (a<=b))
def IW:=dI (λ_ _=>γ) λa b=>.bl (decide (b<a))
def Vm:=dI (λ_ _=>γ) λa b=>.bl (decide (b<=a))
def Yk:OpD G (rI0 λi j=>.int (i+j)) vm:=Du λ_ _=>⟨O,O⟩
def Yl:OpD G (rI0 λi j=>.int (i - j)) Od:=Du λ_ _=>⟨O,O⟩
def Ym:OpD G (rI Ut λi j=>.int (i * j)) vM:=LL (λa b h=>by
 delta A6 at h;erw[jk,aW,b8]at h;show h) λ_ _=>⟨O,O⟩
def Yn:OpD G (rI (λ_ j=>0<j) λi j=>.int (i % j)) uf:=LL (λa b h=>by exists h) λ_ _=>⟨O,O⟩
def Yo:OpD G (rI Xy λi j=>.int (i / j)) uV:=LL (λa b h=>by delta Xy;exists h) λ_ _=>⟨O,O⟩
def Yp:OpD G (rI CPow λi j=>.int (i ^ j.toNat)) Oe:=LL (λa b h=>by
 erw[aW,b8]at h;show⟨h.1.1,h.1.2,h.2⟩) λ_ _=>⟨O,O⟩
def abJ:OpD G (rI0 λi j=>.bl (decide (i<j))) MX:=Du λ_ _=>⟨O,O⟩
def abK:OpD G (rI0 λi j=>.bl (decide (i<=j))) yx:=Du λ_ _=>⟨O,O⟩
def abL:OpD G (rI0 λi j=>.bl (decide (j<i))) IW:=Du λ_ _=>⟨O,O⟩
def abM:OpD G (rI0 λi j=>.bl (decide (j<=i))) Vm:=Du λ_ _=>⟨O,O⟩
def acY:D->D->Option D
 |.str a,.str b=>if a.length+b.length<=100000 then Z (.str (a++b))else J
 |_,_=>J
def LM(h:n<=100000):n<=aL:=bM h (by rw[bR];decide)
def RF:D->D->Option D
 |.str a,.str b=>Z (.bl (!decide (b.cps.toList<a.cps.toList)))
 |_,_=>J
def Yq:OpD G (λx y H Q=>∃i j,x=.str i/\y=.str j/\Q (.bl (!decide (j.cps.toList<i.cps.toList))) H) RF:=λx y z H0 H v u Q e s rx ry k=>by
 delta RF at e;split at e
 .rename_i a b;ext e;delta Rep at rx ry;show⟨a,b,rx,ry,k _ λ_ _=>wZ _⟩
 .ext e
def xN:D->D->Option D
 |.non,.non=>Z (.bl γ)
 |_,.non=>Z (.bl δ)
 |_,_=>J
def vX:D->D->Option D
 |.non,.non=>Z (.bl δ)
 |_,.non=>Z (.bl γ)
 |_,_=>J
def Of(h:Rep G H d v):decide (v=.non)=(match d with|.non=>γ|_=>δ):=by
 ext d<;>delta Rep at h
 .subst h;rfl
 .subst h;rfl
 .subst h;rfl
 .subst h;rfl
 .let#v[a,xs,rfl,_]:=h;rfl
 .let#v[a,xs,rfl,_]:=h;rfl
 .let#v[a,xs,rfl,_]:=h;rfl
 .let#v[a,dx,xs,rfl,_]:=h;rfl
 .let#v[a,ob,xs,rfl,_]:=h;rfl
def Yr:OpD G (λx y H Q=>y=.non/\Q (.bl (decide (x=.non))) H) xN:=λx y z H0 H v u Q e s rx ry k=>by
 have e0:=Of rx;ext y<;>first|(ext x<;>ext e)|skip
 all_goals (delta Rep at ry;calc⟨ry,?_⟩;rw[e0];show k _ λ_ _=>wZ _)
def Vn:OpD G (λx y H Q=>y=.non/\Q (.bl (!decide (x=.non))) H) vX:=λx y z H0 H v u Q e s rx ry k=>by
 have e0:=Of rx;ext y<;>first|(ext x<;>ext e)|skip
 all_goals (delta Rep at ry;calc⟨ry,?_⟩;rw[e0];show k _ λ_ _=>wZ _)
def acF:D->D->Option D
 |.bl a,.bl b=>Z (.bl (a != b))
 |_,_=>J
mutual
def toD:D->Option L3.Dq
 |.non=>Z .non
 |.bl b=>Z (.bl b)
 |.int i=>Z (.int i)
 |.str x=>Z (.str x)
 |.tup ds=>match BU ds with
  |some l=>Z (.tup l)
  |none=>J
 |.lst ds=>match BU ds with
  |some l=>Z (.lst l)
  |none=>J
 |.fzl _=>J
 |.obj _ _ _=>J
 |.dic _ _=>J
def BU:bw->Option (List L3.Dq)
 |[]=>Z []
 |d::ds=>match toD d with
  |some x=>match BU ds with
   |some l=>Z (x::l)
   |none=>J
  |none=>J
end
mutual
theorem KA:∀(d:D) (v:V) (x:L3.Dq),Rep G H d v->toD d=Z x->L3.Rep G.K H x v
 |.non,v,x,h,e=>by delta toD at e;ext e;delta Rep at h;delta L3.Rep;show h
 |.bl b,v,x,h,e=>by delta toD at e;ext e;delta Rep at h;delta L3.Rep;show h
 |.int b,v,x,h,e=>by delta toD at e;ext e;delta Rep at h;delta L3.Rep;show h
 |.str b,v,x,h,e=>by delta toD at e;ext e;delta Rep at h;delta L3.Rep;show h
 |.tup ds,v,x,h,e=>by
  delta toD at e;cases e1:BU ds with
  |none=>erw[e1]at e;cases e
  |some l=>erw[e1]at e;ext e;delta Rep at h;let#v[a,xs,rfl,h1,h2]:=h;delta L3.Rep;show⟨a,xs,O,h1,Hn ds xs l h2 e1⟩
 |.lst ds,v,x,h,e=>by
  delta toD at e;cases e1:BU ds with
  |none=>erw[e1]at e;cases e
  |some l=>erw[e1]at e;ext e;delta Rep at h;let#v[a,xs,rfl,h1,h2]:=h;delta L3.Rep;show⟨a,xs,O,SqL.of h1,Hn ds xs l h2 e1⟩
 |.fzl _,v,x,h,e=>by delta toD at e;cases e
 |.obj _ _ _,v,x,h,e=>by delta toD at e;cases e
 |.dic _ _,v,x,h,e=>by delta toD at e;ext e
theorem Hn:∀(ds:bw) (xs:bN) (l:List L3.Dq),Reps G H ds xs->BU ds=Z l->L3.Reps G.K H l xs
 |[],xs,l,h,e=>by delta BU at e;ext e;delta Reps at h;delta L3.Reps;show h
 |d::ds,xs,l,h,e=>by
  delta BU at e;cases e1:toD d with
  |none=>erw[e1]at e;cases e
  |some x=>
   erw[e1]at e;cases e2:BU ds with
   |none=>erw[e2]at e;cases e
   |some l'=>erw[e2]at e;ext e;delta Reps at h;let#v[v,r,rfl,h1,h2]:=h;delta L3.Reps;show⟨v,r,O,KA d v x h1 e1,Hn ds r l' h2 e2⟩
end
def KB(neg:Bool):D->D->Option D:=λx y=>match wD x&&wD y&&QO (vD x) (vD y)with
 |true=>Z (.bl (if neg then !decide (vD x=vD y)else decide (vD x=vD y)))
 |false=>J
def RG(neg:Bool):D->D->Option D:=λx y=>match toD x,toD y with
 |some a,Z b=>if Rb a b&&decide (dpt a<=20)&&decide (dpt b<=20)then Z (.bl (if neg then !eqD a b else eqD a b))else J
 |_,_=>J
def dEq(neg:Bool):D->D->Option D:=λx y=>match KB neg x y with
 |some z=>Z z
 |none=>RG neg x y
def Ys:OpD G rEq (KB δ):=λx y z H0 H v u Q e s rx ry k=>by
 delta KB at e;cases e1:wD x&&wD y&&QO (vD x) (vD y)with
 |false=>erw[e1]at e;cases e
 |true=>erw[e1]at e;ext e;erw[aW]at e1;rw[yw rx e1.1.1,yw ry e1.1.2];show⟨e1.2,k _ λ_ _=>wZ _⟩
def Yt:OpD G rNe (KB γ):=λx y z H0 H v u Q e s rx ry k=>by
 delta KB at e;cases e1:wD x&&wD y&&QO (vD x) (vD y)with
 |false=>erw[e1]at e;cases e
 |true=>erw[e1]at e;ext e;erw[aW]at e1;rw[yw rx e1.1.1,yw ry e1.1.2];show⟨e1.2,k _ λ_ _=>wZ _⟩
def RH:OpD G (MR G.K neg) (RG neg):=λx y z H0 H v u Q e s rx ry k=>by
 delta RG at e;cases e1:toD x with
 |none=>erw[e1]at e;cases e
 |some a=>
  cases e2:toD y with
  |none=>erw[e1,e2]at e;cases e
  |some b=>
   erw[e1,e2]at e;split at e
   .rename_i hc;ext e;erw[aW,b8]at hc;show⟨a,b,KA x v a (Rep.mono s _ _ rx) e1,KA y u b (Rep.mono s _ _ ry) e2,hc.1.1,hc.1.2,hc.2,k _ λ_ _=>wZ _⟩
   .ext e
def Yu(hu:X.A.units+64<cLine)(hK:X.K=G.K:=by rfl):OpR X (bD .Eq) (λx y H Q=>rEq x y H Q\/MR G.K δ x y H Q):=by rw[<-hK];show OpR.or abe (X5 hu)
def Yv(hu:X.A.units+64<cLine)(hK:X.K=G.K:=by rfl):OpR X (bD .NotEq) (λx y H Q=>rNe x y H Q\/MR G.K γ x y H Q):=by rw[<-hK];show OpR.or abf (X6 hu)
def abN:OpD G (λx y H Q=>rEq x y H Q\/MR G.K δ x y H Q) (dEq δ):=OpD.or Ys RH
def abO:OpD G (λx y H Q=>rNe x y H Q\/MR G.K γ x y H Q) (dEq γ):=OpD.or Yt RH
def RI:D->Option bw
 |.tup ds=>Z ds
 |.lst ds=>Z ds
 |.fzl ds=>Z ds
 |_=>J
def Og(h:Rep G H d v)(e:RI d=Z ds):∃p xs,v=.ref p/\(SqL G.K H p xs\/SqT G.K H p xs)/\Reps G H ds xs:=by
 cases d with
 |tup l=>ext e;delta Rep at h;let#v[a,xs,rfl,h1,h2]:=h;show⟨a,xs,O,.inr h1,h2⟩
 |lst l=>ext e;delta Rep at h;let#v[a,xs,rfl,h1,h2]:=h;show⟨a,xs,O,.inl (SqL.of h1),h2⟩
 |fzl l=>ext e;delta Rep at h;let#v[a,xs,rfl,h1,h2]:=h;show⟨a,xs,O,.inl h1,h2⟩
 |_=>ext e
def dIn(neg:Bool):D->D->Option D:=λx y=>match RI y with
 |some ds=>if wD x&&ds.all wD then Z (.bl (if neg then !inV (vD x) (ds.map vD)else inV (vD x) (ds.map vD)))else J
 |none=>J
def Oh{K:av}(s:ue H H')(h:SqL K H p xs\/SqT K H p xs):SqL K H' p xs\/SqT K H' p xs:=h.imp s.seq (SqT.mono s)
def WG:OpD G (rIn G.K neg) (dIn neg):=λx y z H0 H v u Q e s rx ry k=>by
 delta dIn at e;cases e1:RI y with
 |none=>erw[e1]at e;cases e
 |some ds=>
  erw[e1]at e;split at e
  .rename_i hc;ext e;erw[aW]at hc;let#v[p,xs,rfl,h1,h2]:=Og ry e1;refine⟨p,xs,O,Oh s h1,?_,?_,?_⟩
   .rw[yw rx hc.1];show LK hc.1
   .rw[E3 h2 hc.2];show Jv hc.2
   .rw[yw rx hc.1,E3 h2 hc.2];show k _ λ_ _=>wZ _
  .ext e
def Yy(hK:X.K=G.K:=by rfl):OpR X (bD .In) (rIn G.K δ):=by rw[<-hK];show Pw
def PV(hK:X.K=G.K:=by rfl):OpR X (bD .NotIn) (rIn G.K γ):=by rw[<-hK];show Km
def dIx:D->D->Option D
 |.tup ds,.int i=>atI ds i
 |.lst ds,.int i=>atI ds i
 |.fzl ds,.int i=>atI ds i
 |.str x,.int i=>if x.length<=100000 then (atI x.cps.toList i).map λc=>.str ⟨#[c]⟩else J
 |_,_=>J
def abP:OpD G (rIx G.K) dIx:=λx y z H0 H v u Q e s rx ry k=>by
 cases y with
 |int i=>
  delta Rep at ry;subst ry;cases x with
  |tup ds=>delta Rep at rx;let#v[a,xs,rfl,h1,h2]:=rx;let#v[w,w1,w2]:=Hh h2 (show atI ds i=Z z from e);show .inr (.inl ⟨a,xs,i,w,O,O,SqT.mono s h1,w1,k _ λH0' s'=>Rep.mono s' _ _ w2⟩)
  |lst ds=>delta Rep at rx;let#v[a,xs,rfl,h1,h2]:=rx;let#v[w,w1,w2]:=Hh h2 (show atI ds i=Z z from e);show .inl ⟨a,xs,i,w,O,O,s.seq (SqL.of h1),w1,k _ λH0' s'=>Rep.mono s' _ _ w2⟩
  |fzl ds=>delta Rep at rx;let#v[a,xs,rfl,h1,h2]:=rx;let#v[w,w1,w2]:=Hh h2 (show atI ds i=Z z from e);show .inl ⟨a,xs,i,w,O,O,s.seq h1,w1,k _ λH0' s'=>Rep.mono s' _ _ w2⟩
  |str t=>
   delta Rep at rx;subst rx;delta dIx at e;simp only at e;split at e
   .rename_i hl;cases e1:atI t.cps.toList i with
    |none=>rw[e1]at e;cases e
    |some c=>rw[e1]at e;ext e;show .inr (.inr ⟨t,i,c,O,O,LM hl,e1,k _ λ_ _=>A2 _⟩)
   .cases e
  |_=>cases e
 |_=>ext x<;>ext e
def ix_X(hK:X.K=G.K:=by rfl):IxR X (rIx G.K):=by rw[<-hK];show XR
def LN(G:Bg)(r:bN->Hp->VK->Prop)(g:D->Option D):Prop:=∀x z H0 H v (Q:VK),g x=Z z->ue H0 H->Rep G H0 x v->(∀w,(∀H0',ue H0 H0'->Rep G H0' z w)->Q w H)->r [v] H Q
def abQ(hr:LN G r g)(h:PE X e (tCB r (tFA G (aCons f uk)))):PE X e (tF G (c1 g f)):=PE.weak h λσ H Q hh=>by
 sleep 9
 let#v[x,e1,e2]:=D6 e;refine⟨F,ρ,H0,[x],ρ',R,by delta aCons;rw[e1];rfl,λys H1 H1' s R' rs=>?_⟩
 sleep 4
 show hr x d H1 H1' v Q e2 R'.sub rv λw hw=>k _ _ _ s R' (hw _ (ue.refl _))
def vT.or(h:vT X f r)(h':vT X f r'):vT X f (λx H Q=>r x H Q\/r' x H Q):=λpins s σ H xs us Q I rv q=>q.elim (h pins s σ H xs us Q I rv) (h' pins s σ H xs us Q I rv)
def vv:D->Option D
 |.tup ds=>Z (.int ds.length)
 |.lst ds=>Z (.int ds.length)
 |.fzl ds=>Z (.int ds.length)
 |.str x=>if x.length<=100000 then Z (.int x.length)else J
 |.dic ks ds=>Z (.int ks.length)
 |_=>J
def PX:vT X (.builtin "len") (λxs H Q=>∃a kvs,xs=[V.ref a]/\Rd H a (.dK kvs)/\Q (.int kvs.length) H):=by intro pins s σ H xs us Q I r h;let#v[a,kvs,rfl,ha,q]:=h;let#v[u,rfl,ru]:=vals1 r;ext ru;show abw I ha λt s' I'=>⟨.int kvs.length,H,I',⟨t,O⟩,q⟩
def WH(K:av):bN->Hp->VK->Prop:=λxs H Q=>(∃p ys,xs=[.ref p]/\(SqL K H p ys\/SqT K H p ys)/\Q (.int ys.length) H)\/((∃z,xs=[.str z]/\z.length<=aL/\Q (.int z.length) H)\/(∃a kvs,xs=[V.ref a]/\Rd H a (.dK kvs)/\Q (.int kvs.length) H))
def PY(hK:X.K=G.K:=by rfl):vT X (.builtin "len") (WH G.K):=by rw[<-hK];show vT.or Kn (vT.or Ko PX)
def Yz:LN G (WH G.K) vv:=λx z H0 H v Q e s rx k=>by
 cases x with
 |tup ds=>ext e;delta Rep at rx;let#v[a,xs,rfl,h1,h2]:=rx;calc .inl ⟨a,xs,O,.inr (SqT.mono s h1),?_⟩;rw[<-tP h2];show k _ λ_ _=>wK _
 |lst ds=>ext e;delta Rep at rx;let#v[a,xs,rfl,h1,h2]:=rx;calc .inl ⟨a,xs,O,.inl (s.seq (SqL.of h1)),?_⟩;rw[<-tP h2];show k _ λ_ _=>wK _
 |fzl ds=>ext e;delta Rep at rx;let#v[a,xs,rfl,h1,h2]:=rx;calc .inl ⟨a,xs,O,.inl (s.seq h1),?_⟩;rw[<-tP h2];show k _ λ_ _=>wK _
 |str t=>
  delta vv at e;simp only at e;split at e
  .rename_i hl;ext e;delta Rep at rx;show .inr (.inl ⟨t,by rw[rx],LM hl,k _ λ_ _=>wK _⟩)
  .cases e
 |dic ks ds=>ext e;delta Rep at rx;let#v[a,o,xs,rfl,h1,h2,h3]:=rx;calc .inr (.inr ⟨a,_,O,.inr ⟨o,s _ _ h1⟩,?_⟩);rw[ir,<- h2,ix];show k _ λ_ _=>wK _
 |_=>ext e
def IY:bw->Option (List Bool)
 |[]=>Z []
 |.bl b::r=>(IY r).map (b::·)
 |_=>J
theorem Ho:∀{ds:bw} {xs:bN} {bs:List Bool},Reps G H ds xs->IY ds=Z bs->xs=bs.map V.bl
 |[],xs,bs,h,e=>by ext e;delta Reps at h;show h
 |.bl b::r,xs,bs,h,e=>by
  delta Reps at h;let#v[v,q,rfl,h1,h2]:=h;delta IY at e;cases e1:IY r with
  |none=>rw[e1]at e;cases e
  |some l=>rw[e1]at e;ext e;delta Rep at h1;subst h1;rw[Ho h2 e1];rfl
 |.non::r,xs,bs,h,e=>by cases e
 |.int _::r,xs,bs,h,e=>by cases e
 |.str _::r,xs,bs,h,e=>by cases e
 |.tup _::r,xs,bs,h,e=>by cases e
 |.lst _::r,xs,bs,h,e=>by cases e
 |.fzl _::r,xs,bs,h,e=>by cases e
 |.obj _ _ _::r,xs,bs,h,e=>by cases e
 |.dic _ _::r,xs,bs,h,e=>by ext e
def yy:D->Option D
 |.lst ds=>(IY ds).map λbs=>.bl (bs.all id)
 |_=>J
def YA:LN G (λxs H Q=>∃(p:Addr) (bs:List Bool),xs=[.ref p]/\SqL G.K H p (bs.map V.bl)/\Q (.bl (bs.all id)) H) yy:=λx z H0 H v Q e s rx k=>by
 cases x with
 |lst ds=>
  delta yy at e;simp only at e;cases e1:IY ds with
  |none=>rw[e1]at e;cases e
  |some bs=>rw[e1]at e;ext e;delta Rep at rx;let#v[a,xs,rfl,h1,h2]:=rx;rw[Ho h2 e1]at h1;show⟨a,bs,O,s.seq (SqL.of h1),k _ λ_ _=>wZ _⟩
 |_=>ext e
def PZ(hc:X.calm=γ)(hK:X.K=G.K:=by rfl):vT X (.builtin "all") (λxs H Q=>∃(p:Addr) (bs:List Bool),xs=[.ref p]/\SqL G.K H p (bs.map V.bl)/\Q (.bl (bs.all id)) H):=by rw[<-hK];show Q9 hc
inductive Ty where
 |b (n:String)|c (k:Nat)
def Ty.val(G:Bg):Ty->ae
 |.b n=>.type n
 |.c k=>.ref (G.ca k)
def Ty.v(G:Bg):Ty->V
 |.b n=>.ty n
 |.c k=>.ref (G.ca k)
def tyD:D->Ty
 |.non=>.b "NoneType" |.bl _=>.b "bool" |.int _=>.b "int" |.str _=>.b "str" |.tup _=>.b "tuple" |.lst _=>.b "list" |.fzl _=>.b "list" |.dic _ _=>.b "dict" |.obj c _ _=>.c c
structure LO(K:av)(C:Addr):Prop where
 cl:Cls K C
 ha:cR K (.ref C) "__class__" = Z (Z (.builtin "object.__class__"))
 hn:p8 K (.builtin "object.__class__") "__get__" = Z (Z (.builtin "getset_descriptor.__get__"))
 htk:W.takesIn K (.builtin "object.__class__")=Z γ
 hm:W.mroIn K C (.type "object")=Z γ
def RJ(I:Inv X pins σ H s)(hK:X.K=G.K)(hd:Rep G H d v)(rv:RelV v u)(hc:∀k ns ds,d=.obj k ns ds->LO X.K (G.ca k))
  (e:dh X.K ((tyD d).val G) c=Z b) (h:∀tk,Q (.bool b) { s with toks:=tk }):ah (model X.prog X.w) A (call (.builtin "isinstance") [u,c]) Q E s:=by
 cases d with
 |non=>delta Rep at hd;subst hd;show y8 I rv .non e h
 |bl x=>delta Rep at hd;subst hd;show y8 I rv (.bl x) e h
 |int x=>delta Rep at hd;subst hd;show y8 I rv (.int x) e h
 |str x=>delta Rep at hd;subst hd;show y8 I rv (.str x) e h
 |tup ds=>delta Rep at hd;let#v[a,xs,rfl,h1,h2]:=hd;ext rv;rw[<-hK]at h1;let#v[its,_,p,_]:=I.tuple h1;let#v[o,q1,q2,_]:=p;show cP lG I.kIn ⟨o,q1,q2⟩ e (λz=>nomatch z) h
 |lst ds=>delta Rep at hd;let#v[a,xs,rfl,h1,h2]:=hd;show y8 I rv (.lst h1) e h
 |fzl ds=>delta Rep at hd;let#v[a,xs,rfl,h1,h2]:=hd;ext rv;rw[<-hK]at h1;let#v[its,_,p,_]:=I.list h1;let#v[o,n,q1,q2,_]:=p;show cP iA I.kIn ⟨o,q1,q2⟩ e (λz=>nomatch z) h
 |dic ks ds=>delta Rep at hd;let#v[a,o,xs,rfl,h1,h2,h3]:=hd;ext rv;let#v[q0,_,_,vs,_,ob,es,ep,q1,q2,_]:=(show ObjOk X.prog X.w H s.heap a (.frz o (.dK (ks.zip xs))) from I.hok a _ h1);show cP js I.kIn ⟨ob,q1,q2.1⟩ e (λz=>nomatch z) h
 |obj k ns ds=>have ci:=hc k ns ds O;delta Rep at hd;let#v[a,dx,xs,rfl,h1,h2,h3]:=hd;show y8 I rv (.ins h1 ci.cl ci.ha ci.hn ci.htk ci.hm) e h
def uF(t:Ty->Option Bool):D->Option D:=λd=>(t (tyD d)).map .bl
def Jw(c:Ty){t:Ty->Option Bool}(ht:∀y b,t y=Z b->dh X.K (y.val G) (c.val G)=Z b)(hc:∀k b,t (.c k)=Z b->LO X.K (G.ca k))(hK:X.K=G.K:=by rfl):
  vT X (.builtin "isinstance") (λxs H Q=>∃d x b,xs=[x,c.v G]/\Rep G H d x/\t (tyD d)=Z b/\Q (.bl b) H):=by
 intro pins s σ H xs us Q I r h;let#v[d,x,b,rfl,hd,e,q]:=h;let#v[u,w',rfl,ru,rw']:=vals2 r;have ew:w'=c.val G:=by ext c<;>show rw'
 subst ew;show RJ I hK hd ru (λk ns ds z=>by subst z;show hc k b e) (ht _ _ e) λtk=>⟨.bl b,H,I.tok _,O,q⟩
def Oi{c:Ty}(h:PE X e (tCB (λxs H Q=>∃d x b,xs=[x,c.v G]/\Rep G H d x/\t (tyD d)=Z b/\Q (.bl b) H) (DY (tF G f) (DY (tC (c.v G)) IP)))):PE X e (tF G (c1 (uF t) f)):=PE.weak h λσ H Q hh=>by
 sleep 9
 let#v[x,e1,e2]:=D6 e;delta uF at e2;cases e3:t (tyD x)with
 |none=>rw[e3]at e2;cases e2
 |some b=>rw[e3]at e2;ext e2;show⟨F,ρ,H0,x,ρ',R,e1,λv H1 H1' s R' r=>⟨x,v,b,O,Rep.mono R'.sub _ _ r,e3,k _ _ _ s R' (wZ b)⟩⟩
def xn(f g:FE):FA:=λρ=>match f ρ with
 |some (.lst xs,ρ1)=>match g ρ1 with
  |some (.lst ys,ρ2)=>if xs.length+ys.length<=1000 then Z (xs++ys,ρ2)else J
  |_=>J
 |_=>J
def Vo(ha:PE X a (tF G f))(hb:PE X b (tF G g)):PE X (.BinOp a .Add b pos) (tFN G (xn f g)):=PE.weak (QN XT ha hb) λσ H Q hh=>by
 sleep 9
 delta xn at e;split at e
 .rename_i xs ρ1 e1;split at e
  .rename_i ys ρ2 e2;split at e
   .rename_i hl;ext e;calc⟨F,ρ,H0,_,ρ1,R,e1,λv H1 H1' s R' r=>⟨F,ρ1,H1,_,_,R',e2,λu H2 H2' s2 R2 r2=>?_⟩⟩;have r':=Rep.mono s2 _ _ r;delta Rep at r' r2;let#v[a1,xs1,rfl,h1,h2]:=r';let#v[a2,xs2,rfl,h3,h4]:=r2;calc⟨a1,a2,xs1,xs2,O,O,R2.sub _ _ h1,R2.sub _ _ h3,by rw[<-tP h2,<- tP h4];show xl hl,λp hp=>?_⟩;show k p _ _ _ (s.trans s2) (R2.newOwn hp _) tU (R2.h0none hp) (R2.bNone hp) (R2.apart hp) (vU h2 h4)
   .ext e
  .ext e
 .ext e
def zQ(f:FE):FA:=λρ=>match f ρ with
 |some (d,ρ1)=>match RI d with
  |some ds=>Z (ds,ρ1)
  |none=>J
 |none=>J
def RK(h:PE X e (tCB (λxs H Q=>∃p ys,xs=[.ref p]/\(SqL G.K H p ys\/SqT G.K H p ys)/\∀l,H l=J->Q (.ref l) (upd H l (.lst ys))) (tFA G (aCons f uk)))):PE X e (tFN G (zQ f)):=PE.weak h λσ H Q hh=>by
 let#v[F,ρ,H0,ds,ρ',R,e,k]:=hh;delta zQ at e;rcases ur (f:=f) (ρ:=ρ)with e1|⟨d,ρ1,e1⟩<;>erw[e1]at e
 .ext e
 .cases e2:RI d with
  |none=>erw[e2]at e;cases e
  |some ds'=>
   erw[e2]at e;ext e;refine⟨F,ρ,H0,[d],_,R,by delta aCons;rw[e1];rfl,λys H1 H1' s R' rs=>?_⟩
   sleep 4
   let#v[p,xs,rfl,h1,h2]:=Og rv e2;show⟨p,xs,O,Oh R'.sub h1,λl hl=>k l _ _ _ s (R'.newOwn hl _) tU (R'.h0none hl) (R'.bNone hl) (R'.apart hl) h2⟩
def MY(hK:X.K=G.K:=by rfl):vT X (.type "list") (λxs H Q=>∃p ys,xs=[.ref p]/\(SqL G.K H p ys\/SqT G.K H p ys)/\∀l,H l=J->Q (.ref l) (upd H l (.lst ys))):=by rw[<-hK];show Kp
def Ea(f:FE):FE:=λρ=>match f ρ with
 |some (.lst ds,ρ1)=>Z (.tup ds,ρ1)
 |some (.tup ds,ρ1)=>Z (.tup ds,ρ1)
 |_=>J
def RM(h:PE X e (tCB (λxs H Q=>∃p ys,xs=[.ref p]/\((SqL G.K H p ys/\∀l,H l=J->Q (.ref l) (upd H l (.tup ys)))\/(SqT G.K H p ys/\Q (.ref p) H))) (tFA G (aCons f uk)))):PE X e (tF G (Ea f)):=PE.weak h λσ H Q hh=>by
 let#v[F,ρ,H0,ds,ρ',R,e,k]:=hh;delta Ea at e;split at e
 .rename_i xs ρ1 e1;ext e;refine⟨F,ρ,H0,[_],_,R,by delta aCons;rw[e1];rfl,λys H1 H1' s R' rs=>?_⟩
  sleep 4
  delta Rep at rv;let#v[p,zs,rfl,h1,h2]:=rv;calc⟨p,zs,O,.inl ⟨SqL.of (R'.sub _ _ h1),λl hl=>?_⟩⟩;show k _ _ _ (s.trans (ui (R'.h0none hl) _)) (R'.newIm hl _) (D5 (SqT.of tU) (Reps.mono (ui (R'.h0none hl) _) _ _ h2))
 .rename_i xs ρ1 e1;ext e;refine⟨F,ρ,H0,[_],_,R,by delta aCons;rw[e1];rfl,λys H1 H1' s R' rs=>?_⟩
  sleep 4
  have rv0:=rv;delta Rep at rv;let#v[p,zs,rfl,h1,h2]:=rv;show⟨p,zs,O,.inr ⟨SqT.mono R'.sub h1,k _ _ _ s R' rv0⟩⟩
 .ext e
def P1(hK:X.K=G.K:=by rfl):vT X (.type "tuple") (λxs H Q=>∃p ys,xs=[.ref p]/\((SqL G.K H p ys/\∀l,H l=J->Q (.ref l) (upd H l (.tup ys)))\/(SqT G.K H p ys/\Q (.ref p) H))):=by rw[<-hK];show IR
def cutD(xs:bw)(lo hi:Option Int):bw:=(xs.drop (HT.sIx xs.length 0 lo)).take (HT.sIx xs.length xs.length hi - HT.sIx xs.length 0 lo)
def LP{lo:Option Int}(r:Reps G H0 ds xs):Reps G H0 (cutD ds lo hi) (Pt xs lo hi):=by delta cutD Pt;rw[<-tP r];show Js _ (Jr _ r)
def cSl(f:FE)(lo hi:Option Int):FA:=λρ=>match f ρ with
 |some (.lst ds,ρ1)=>Z (cutD ds lo hi,ρ1)
 |some (.fzl ds,ρ1)=>Z (cutD ds lo hi,ρ1)
 |_=>J
def tO(o:Option Int):TO:=λ_ H Q=>Q o H
def P2{lo:Option Int}(h:PE X e (tSl (Pu G.K) (tF G f) (tO lo) (tO hi))):PE X e (tFN G (cSl f lo hi)):=PE.weak h λσ H Q hh=>by
 let#v[F,ρ,H0,ds,ρ',R,e,k]:=hh;have gen:∀{a:Addr} {xs:bN} {ds':bw} {H1 H1':Hp},ue H0 H1->RelE G F σ ρ' H1 H1'->SqL G.K H1 a xs->Reps G H1 ds' xs->ds=cutD ds' lo hi->Pu G.K (.ref a) lo hi H1' Q:=λ{a xs ds' H1 H1'} s R' h1 h2 e=>by subst e;show⟨a,xs,O,R'.sub.seq h1,λp hp=>k p _ _ _ s (R'.newOwn hp _) tU (R'.h0none hp) (R'.bNone hp) (R'.apart hp) (LP h2)⟩
 delta cSl at e;split at e
 .rename_i xs ρ1 e1
  sleep 6
  let#v[a,ys,rfl,h1,h2]:=r;show gen s R' (SqL.of h1) h2 O
 .rename_i xs ρ1 e1
  sleep 6
  let#v[a,ys,rfl,h1,h2]:=r;show gen s R' h1 h2 O
 .ext e
def RN{j pos}:PO X (Z (.Constant (.int n) j pos)) (tO (Z n)):=λpins s σ H Q I h=>N4 QF pins s σ H Q I ⟨n,O,h⟩
def sl_X(hK:X.K=G.K:=by rfl):SlR X (Pu G.K):=by rw[<-hK];show UI
end
def Sl.bor:Sl->Sl
 |.un=>.un
 |.im d=>.im d
 |.ls ds=>.im (.lst ds)
 |.pm ds=>.im (.lst ds)
 |.dk _ _=>.un
 |.ob c ns ds=>.im (.obj c ns ds)
section
variable{X:Cx}{G:Bg}
theorem RelE.bor(R:RelE G F σ ρ H0 H):RelE G ⟨H,H,[]⟩ σ (ρ.map Sl.bor) H H where
 sub:=ue.refl _
 g0:=ue.refl _
 keep:=λb o e _=>e
 fr:=λb o e=>.inl e
 am:=λa h=>by ext h
 len:=by rw[aq];show R.len
 sl:=λi s e=>by
  rw[bC]at e;cases e1:ρ[i]? with
  |none=>rw[e1]at e;cases e
  |some t=>
   rw[e1]at e;ext e;have ok:=R.sl i t e1;cases t with
   |un=>trivial
   |im d=>let#v[v,h1,h2]:=ok;show⟨v,h1,Rep.mono R.sub _ _ h2⟩
   |ls ds=>let#v[a,xs,h1,h2,h3,h4,h5]:=ok;show⟨_,h1,CD h2 (Reps.mono R.sub _ _ h5)⟩
   |pm ds=>let#v[a,xs,h1,h2,h3,h4,h5]:=ok;show⟨_,h1,CD h2 (Reps.mono R.sub _ _ h5)⟩
   |dk ks ds=>trivial
   |ob c ns ds=>let#v[a,dx,xs,h1,h2,h3,h4,h5,h6]:=ok;show⟨_,h1,by delta Rep;show⟨a,dx,xs,O,h2,h5,Reps.mono R.sub _ _ h6⟩⟩
 ap:=λi j s t a _ e _ so=>by
  rw[bC]at e;cases e1:ρ[i]? with
  |none=>rw[e1]at e;cases e
  |some t=>rw[e1]at e;ext e;ext t<;>ext so
def RelE.unbor(R:RelE G F σ ρ H0 H)(R':RelE G ⟨H,H,[]⟩ σ' ρ' H1 H1'):RelE G F σ ρ H0 H1':=
 R.grow (λb o e=>R'.keep b o e (by simp)) (ue.refl _) (λb o e=>R'.keep b o (R.sub _ _ e) (by simp)) λb o e=>.inl e
def MZ(f:FE):FE:=λρ=>match f (ρ.map Sl.bor)with
 |some (d,_)=>if wD d=γ then Z (d,ρ)else J
 |none=>J
def YB(h:PE X e (tF G f)):PE X e (tF G (MZ f)):=PE.weak h λσ H Q hh=>by
 sleep 9
 delta MZ at e;rcases ur (f:=f) (ρ:=ρ.map Sl.bor)with e1|⟨x,ρ1,e1⟩<;>erw[e1]at e
 .ext e
 .split at e
  .rename_i hf;ext e;calc⟨_,_,H,d,ρ1,R.bor,e1,λv H1 H1' s R' r=>?_⟩;rw[yw r hf];show k _ _ _ (ue.refl _) (R.unbor R') (D9 hf _)
  .ext e
def w5(g g':D->D->Option D)(fa fb fc:FE):FE:=λρ=>match fa ρ with
 |some (x,ρ1)=>match fb ρ1 with
  |some (y,ρ2)=>match g x y with
   |some (.bl γ)=>match fc ρ2 with
    |some (z,ρ3)=>match g' y z with
     |some w=>Z (w,ρ3)
     |none=>J
    |none=>J
   |some (.bl δ)=>Z (.bl δ,ρ2)
   |_=>J
  |none=>J
 |none=>J
def LQ(ho:OpD G r g)(ho':OpD G r' g'):∀σ H Q,tF G (w5 g g' fa fb fc) σ H Q->MI r r' (tF G fa) (tF G fb) (tF G fc) σ H Q:=λσ H Q hh=>by
 sleep 9
 delta w5 at e;rcases ur (f:=fa) (ρ:=ρ)with e1|⟨x,ρ1,e1⟩<;>erw[e1]at e
 .ext e
 rcases ur (f:=fb) (ρ:=ρ1)with e2|⟨y,ρ2,e2⟩<;>erw[e2]at e
 .ext e
 calc⟨F,ρ,H0,x,ρ1,R,e1,λv H1 H1' s1 R1 r1=>⟨F,ρ1,H1,y,ρ2,R1,e2,λu H2 H2' s2 R2 r2=>?_⟩⟩;split at e
 .rename_i e3;calc ho x y _ H2 H2' v u _ e3 R2.sub (Rep.mono s2 _ _ r1) r2 λw hw=>?_;have hw':=hw H2 (ue.refl _);delta Rep at hw';calc⟨γ,hw',Ku ?_⟩;rcases ur (f:=fc) (ρ:=ρ2)with e4|⟨z,ρ3,e4⟩<;>erw[e4]at e
  .ext e
  cases e5:g' y z with
  |none=>erw[e5]at e;cases e
  |some q=>erw[e5]at e;ext e;calc⟨F,ρ2,H2,z,_,R2,e4,λt H3 H3' s3 R3 r3=>?_⟩;show ho' y z _ H3 H3' u t Q e5 R3.sub (Rep.mono s3 _ _ r2) r3 λw hw=>k w H3 H3' (s1.trans (s2.trans s3)) R3 (hw _ (ue.refl _))
 .rename_i e3;ext e;calc ho x y _ H2 H2' v u _ e3 R2.sub (Rep.mono s2 _ _ r1) r2 λw hw=>?_;have hw':=hw H2 (ue.refl _);delta Rep at hw';show⟨δ,hw',Kt (k _ _ _ (s1.trans s2) R2 (wZ δ))⟩
 .ext e
def RO(hr:OpR X (bD op) r)(hr':OpR X (bD op') r')(ho:OpD G r g)(ho':OpD G r' g')(ha:PE X a (tF G fa))(hb:PE X b (tF G fb))(hc:PE X c (tF G fc))
  (hm:lastMarks [op,op'] [b,c]=δ:=by with_unfolding_all rfl):PE X (.Compare a [op,op'] [b,c] pos) (tF G (w5 g g' fa fb fc)):=PE.weak (QR hr hr' ha hb hc hm) (LQ ho ho')
def P3(hr:OpR X (bD op) r)(hr':OpR X (bD op') r')(ho:OpD G r g)(ho':OpD G r' g')(ha:PE X a (tF G fa))(hb:PE X b (tF G fb))(hc:PE X c (tF G fc))
  (hm:lastMarks [op,op'] [b,c]=δ:=by with_unfolding_all rfl):PT X (.Compare a [op,op'] [b,c] pos) (tFT G (cT (w5 g g' fa fb fc))):=PT.weak (QS hr hr' ha hb hc hm) λσ H Q hh=>by
 let#v[F,ρ,H0,d,ρ',R,e,k]:=N9 σ H Q hh;show LQ ho ho' σ H _ ⟨F,ρ,H0,d,ρ',R,e,k⟩
end
def Eb(P:aO)(w:aF)(K:av)(mg:Str->Option ae)(base:Heap)(k:Nat)(x:Str)(ps:aH)(sp:Sp):Prop:=
 ∃(f:Addr) (fd:cv),mg x=Z (.ref f)/\dU K (.ref f)=γ/\Binds K fd ps []/\x9 P w K mg base CX0 k f fd ps sp
def KC(G:Bg)(P:aO)(w:aF)(mg:Str->Option ae)(base:Heap)(k:Nat)(x:Str)(c:Nat)(ps:aH)(dvs:bN)(g:bw->Option (aH×bw)):Prop:=
 ∃(f:Addr) (fd:cv) (ds:List ae),Mk G.K (G.ca c) f/\mg x=Z (.ref (G.ca c))/\Binds G.K fd ps ds/\Vals dvs ds/\x9 P w G.K mg base CX0 k f fd ps (spI G c g)
def A7(G:Bg)(P:aO)(w:aF)(mg:Str->Option ae)(base:Heap)(k:Nat)(m:Str)(c:Nat)(h:bw->Option D):Prop:=
 ∃(f:Addr) (fd:cv) (ps:aH),Cls G.K (G.ca c)/\Meth G.K (G.ca c) m f/\Binds G.K fd ps []/\x9 P w G.K mg base CX0 k f fd ps (spF G h)
section
variable{X:Cx}{G:Bg}{k:Nat}{x m:Str}{p pos apos:Pos}{e o:Expr}{es:List Expr}{a:FA}{ps:aH}
def Fy{α:Type}(g:bw->α):(λds=>g (ds++[]))=g:=funext λds=>by rw[bQ]
def YC(D:Eb X.prog X.w X.K X.mg X.base k x ps (spF G g))(hr:v5 k X.A)(ha:PA X (e::es) (tFA G a))(hg:Gl X x:=by rfl)(hdb:(x==("__debug__" : Str))=δ:=by decide)(he:aG (e::es) X.env=(δ,eval e X.env)::aG es X.env:=by rfl)(hpl:(bJ pos (aG es X.env)).any (·.1)=δ:=by rfl):
  PE X (.Call (.Name x p) (e::es) [] pos) (tF G (tq g a)):=by
 let#v[f,fd,h1,h2,h3,h4]:=D;have q:=Vf (dvs:=[]) (dds:=[]) (λ_=>uy) (N3 (p:=p) (pos:=pos) h4 hr hg h1 h2 h3 .nil Lr ha hdb he hpl);rw[Fy]at q;show q
def Vp(D:Eb X.prog X.w X.K X.mg X.base k x ps (spN G g))(hr:v5 k X.A)(ha:PA X (e::es) (tFA G a))(hg:Gl X x:=by rfl)(hdb:(x==("__debug__" : Str))=δ:=by decide)(he:aG (e::es) X.env=(δ,eval e X.env)::aG es X.env:=by rfl)(hpl:(bJ pos (aG es X.env)).any (·.1)=δ:=by rfl):
  PE X (.Call (.Name x p) (e::es) [] pos) (tFN G (uN g a)):=by
 let#v[f,fd,h1,h2,h3,h4]:=D;have q:=Rv (dvs:=[]) (dds:=[]) (λ_=>uy) (N3 (p:=p) (pos:=pos) h4 hr hg h1 h2 h3 .nil Lr ha hdb he hpl);rw[Fy]at q;show q
def RP(D:Eb X.prog X.w X.K X.mg X.base k x ps (spN G g))(hr:v5 k X.A)(hg:Gl X x:=by rfl)(hdb:(x==("__debug__" : Str))=δ:=by decide):PE X (.Call (.Name x p) [] [] pos) (tFN G (uN g uk)):=by let#v[f,fd,h1,h2,h3,h4]:=D;show PL (QX h4 hr hg h1 h2 h3 .nil Lr hdb)
def Vq(M:KC G X.prog X.w X.mg X.base k x c ps dvs g)(hd:∀H,Reps G H dds dvs)(hr:v5 (k+1) X.A)(ha:PA X (e::es) (tFA G a))(hK:X.K=G.K:=by rfl)(hg:Gl X x:=by rfl)(hdb:(x==("__debug__" : Str))=δ:=by decide)
  (he:aG (e::es) X.env=(δ,eval e X.env)::aG es X.env:=by rfl) (hpl:(bJ pos (aG es X.env)).any (·.1)=δ:=by rfl):
  PE X (.Call (.Name x p) (e::es) [] pos) (tF G (uj c (λds=>g (ds++dds)) a)):=by
 let#v[f,fd,ds,h1,h2,h3,h4,h5]:=M;rw[<-hK]at h1 h3 h5;show Vh hd (UA (p:=p) (pos:=pos) h1 h5 hr hg h2 h3 h4 Lr ha hdb he hpl)
def WI(M:∀c h,g c=Z h->A7 G X.prog X.w X.mg X.base k m c h)(hr:v5 k X.A)(hK:X.K=G.K):∀C sp,MT G g C sp->MOk X C m sp [] E0:=λC sp h=>by let#v[c,h,e,rfl,rfl]:=h;let#v[f,fd,ps,q1,q2,q3,q4]:=M c h e;rw[<-hK]at q1 q2 q3 q4;show⟨k,f,fd,ps,[],q1,q2,q4,hr,q3,.nil,Lr⟩
def P4(M:∀c h,g c=Z h->A7 G X.prog X.w X.mg X.base k m c h)(hr:v5 k X.A)(ho:PE X o (tF G f))(ha:PA X (e::es) (tFA G a))(hK:X.K=G.K:=by rfl)
  (hst:aG (e::es) X.env=(δ,eval e X.env)::aG es X.env:=by rfl) (hpl:(bJ pos (aG es X.env)).any (·.1)=δ:=by rfl)
  (ht:eval (.Call (.Attribute o m apos) (e::es) [] pos) X.env=(do
   let ov<-eval o X.env
   standAt apos.atName
   let (f,first)<-holding [ov] (getMethod ov m pl)
   callWith pos f first (bJ pos (aG (e::es) X.env)) (backToKw pos (dS [] X.env))):=by rfl):
  PE X (.Call (.Attribute o m apos) (e::es) [] pos) (tF G (tK g m f a)):=Vg (E:=E0) (Rx (dvs:=[]) (MT G g) (WI M hr hK) ho ha hst hpl ht)
def M0(M:∀c h,g c=Z h->A7 G X.prog X.w X.mg X.base k m c h)(hr:v5 k X.A)(ho:PE X o (tF G f))(hK:X.K=G.K:=by rfl)
  (ht:eval (.Call (.Attribute o m apos) [] [] pos) X.env=(do
   let ov<-eval o X.env
   standAt apos.atName
   let (f,first)<-holding [ov] (getMethod ov m pl)
   callWith pos f first (bJ pos (aG [] X.env)) (backToKw pos (dS [] X.env))):=by rfl):
  PE X (.Call (.Attribute o m apos) [] [] pos) (tF G (tK g m f uk)):=Ry (E:=E0) (PN (dvs:=[]) (MT G g) (WI M hr hK) ho ht)
end
section
variable{P:aO}{w:aF}{K:av}{mg:Str->Option ae}{base:Heap}{x qual:Str}{st:Stmt}{f T:Addr}{fd:cv}{N ps:aH}{k:Nat}{G:Bg}
abbrev FB(P:aO)(w:aF)(K:av)(mg:Str->Option ae)(base:Heap)(N:aH)(qual:Str)(st:Stmt)(f:Addr)(cdv:ae)(A:aP)(outer:List Env)(s:af)(H:Hp)(E:XK):Cx:=(Lk CX0 P w K mg base N qual (uh st) f cdv A outer s H E).nox
theorem Oj(hg:g=fnD np n b)(hp:ps.length=np)(hN:N.length=n)(F:Fun K x qual st f fd)(S:wx N ps (uh st))(body:∀(cdv:ae) (A:aP) (outer:List Env) (s:af) (H:Hp) (E:XK),v5 k (A.deeper (envOfC qual (uh st) (~~~s) f cdv))->PSs (FB P w K mg base N qual st f cdv A outer s H E) (uG st) (tFS G b)):
  x9 P w K mg base CX0 (k+1) f fd ps (spF G g):=by
 subst hg hp hN;show F.ok S (abG Va) λcdv A outer s H vs Q E hr h=>⟨_,body cdv A outer s H E hr,U8 (by have:=bL eZ S.pre;rw[cO]at this;omega) h⟩
theorem abS(hg:g=fnN np n b)(hp:ps.length=np)(hN:N.length=n)(F:Fun K x qual st f fd)(S:wx N ps (uh st))(body:∀(cdv:ae) (A:aP) (outer:List Env) (s:af) (H:Hp) (E:XK),v5 k (A.deeper (envOfC qual (uh st) (~~~s) f cdv))->PSs (FB P w K mg base N qual st f cdv A outer s H E) (uG st) (tFS G b)):
  x9 P w K mg base CX0 (k+1) f fd ps (spN G g):=by
 subst hg hp hN;show F.ok S (abH Vc) λcdv A outer s H vs Q E hr h=>⟨_,body cdv A outer s H E hr,U9 (by have:=bL eZ S.pre;rw[cO]at this;omega) h⟩
def WJ(hg:∀ds q,g ds=Z q->ds.length=np):∀vs H Q E,spI G c g vs H Q E->vs.length=np+1:=λvs H Q E h=>by let#v[p,dx,us,H0,ds,ns,es,rfl,_,_,_,r,e,_]:=h;rw[aT,<- tP r,hg _ _ e]
theorem abT{ps:aH}(hg:g=fnI c np n b)(hp:ps.length=np)(hN:N.length=n)(F:Fun K x qual st f fd)(S:wx N (p::ps) (uh st))(body:∀(cdv:ae) (A:aP) (outer:List Env) (s:af) (H:Hp) (E:XK),v5 k (A.deeper (envOfC qual (uh st) (~~~s) f cdv))->PSs (FB P w K mg base N qual st f cdv A outer s H E) (uG st) (tFS G b)):
  x9 P w K mg base CX0 (k+1) f fd (p::ps) (spI G c g):=by
 subst hg hp hN;show F.ok S (WJ λds q h=>(Hf h).1) λcdv A outer s H vs Q E hr h=>⟨_,body cdv A outer s H E hr,Oc (by have:=bL eZ S.pre;rw[cO,aT]at this;omega) h⟩
theorem YD{ps:aH}(hg:g=fnI c np n b)(hp:ps.length=np)(hN:N.length=n)(F:PJ K x qual st f fd T)(S:wx N (p::ps) (uh st))(body:∀(cdv:ae) (A:aP) (outer:List Env) (s:af) (H:Hp) (E:XK),v5 k (A.deeper (envOfC qual (uh st) (~~~s) f cdv))->PSs (FB P w K mg base N qual st f cdv A outer s H E) (uG st) (tFS G b)):
  x9 P w K mg base CX0 (k+1) f fd (p::ps) (spI G c g):=by
 subst hg hp hN;show F.ok S (WJ λds q h=>(Hf h).1) λcdv A outer s H vs Q E hr h=>⟨_,body cdv A outer s H E hr,Oc (by have:=bL eZ S.pre;rw[cO,aT]at this;omega) h⟩
end
section
variable{X:Cx}{G:Bg}
def zR(G:Bg)(mg:Str->Option ae)(x:Str)(d:D):Prop:=∃(v:V) (u:ae),mg x=Z u/\RelV v u/\∀H,Rep G H d v
def RQ(h:zR G X.mg x d)(hg:Gl X x:=by rfl)(hd:(x==("__debug__" : Str))=δ:=by decide):PE X (.Name x pos) (tF G (cC d)):=by let#v[v,u,h1,h2,h3]:=h;show UU (GA hg h1 h2 hd) h3
def Vr:FS:=λ_=>J
def uY(T:String):Ty->Option Bool
 |.b n=>if n="NoneType" then Z δ else if n="bool" then Z (T=="bool" ||T=="int")else if n="int" then Z (T=="int")else if n="str" then Z (T=="str")else if n="tuple" then Z (T=="tuple")else if n="list" then Z (T=="list")else if n="dict" then Z (T=="dict")else J
 |.c _=>J
def RR:∀k b,uY T (.c k)=Z b->LO X.K (G.ca k):=λk b h=>by ext h
def RT:∀y b,uY "list" y=Z b->dh X.K (y.val G) (.type "list")=Z b:=λy b h=>by
 cases y with
 |c k=>cases h
 |b n=>
  delta uY at h;simp only at h
  iterate 7 (split at h;· rename_i e;subst e;ext h;first|rfl|kernel_rfl)
  ext h
def Vs:∀y b,uY "str" y=Z b->dh X.K (y.val G) (.type "str")=Z b:=λy b h=>by
 cases y with
 |c k=>cases h
 |b n=>
  delta uY at h;simp only at h
  iterate 7 (split at h;· rename_i e;subst e;ext h;first|rfl|kernel_rfl)
  ext h
end
end L4
namespace L3
open PySem PySem.Spec PyProof.Rows L2
def Vt{X:Cx}{spos:Pos}{cap:List Nat}
  (hc:X.calm=γ) (hN:X.N.Nodup) (hy:X.N[i]?=Z y) (hyl:Loc X.env.scope y) (hi:PI X tg iter wi)
  (body:∀(cl:List (Str×Addr)) (C:Addr) (fp:List Addr) (s:af) (H:Hp),PG (vJ X N' scope cl C fp s H) tg g/\PIf (vJ X N' scope cl C fp s H) ifs tt/\PE (vJ X N' scope cl C fp s H) elt te)
  (hkind:scope.kind=.function:=by rfl) (hcell:(scope.names.all λy=>y.2 != .cell)=γ:=by rfl)
  (hloc:(scope.names.all λy=>y.2 != .local||scope.names.lookup y.1==Z .local)=γ:=by rfl)
  (hfree:(scope.names.all λy=>y.2 != .free||(X.env.kindOf y.1==Z .cell||X.env.kindOf y.1==Z .free))=γ:=by rfl)
  (hlen:N'.length=k+cap.length:=by rfl) (hcap:(N'.drop k).map Z=cap.map λj=>X.N[j]?:=by rfl)
  (hcf:((N'.drop k).all λx=>scope.names.lookup x==Z .free)=γ:=by rfl)
  (hs:∀x,ig iter X.env x=pure x:=by intro _;rfl)
  (hsw:dB (.ListComp elt [⟨tg,iter,ifs,0⟩] scope pos) (Z (.Name y py)) spos.line X.env=pure γ:=by rfl)
  (hfy:X.fn y=γ\/X.env.scope.names.lookup y=Z .local:=by first|show .inl O|show .inr O|assumption):
  PS X (.Assign [.Name y py] (.ListComp elt [⟨tg,iter,ifs,0⟩] scope pos) spos) (DW (Fw wi g tt te k cap) (zN i)):=by
 intro pins s σ H D I h;rw[exec_Assign_Name_used _ _ _ _ hsw];calc ag (pJ (ag ?_));change ah _ X.A (do let _<-comprehension (.ListComp elt [⟨tg,iter,ifs,0⟩] scope pos) scope X.env _ (newList []) δ (eval iter X.env) (Z (assign (.Name y py) X.env))) _ _ s;calc ag (bZ (Jq (P:=λ_ s'=>SP X pins D .next s') hc hi body hkind hcell hloc hfree hlen hcap hcf hs I h λa C m u s4 H3 hn back fpC qn=>?_) (λ_ s' hq=>au (au hq)) λ_ _ e=>e);let#v[oC,esC,nC,gC,dC,rC]:=id hn;have I7:=back.pinned (fp:=[C]) (λb hb=>aY.mp hb▸fpC) (λb hb=>aY.mp hb▸⟨oC,gC,λv z=>by rw[dC]at z;ext z⟩);change ah _ X.A (assign (.Name y py) X.env (.ref a)) _ _ s4;calc thn (NY (pos:=py) hN hy hyl hfy _ s4 σ H3 (.ref a) (.ref a) (λσ' H'=>D.nx σ' H') I7 O qn) λ_ s6 zz=>?_;let#v[σ6,H6,I8,q6]:=zz;let#v[p1,p2,_]:=I8.pin (C,oC) (bE _ (bE _ (zm (by simp) gC)));show⟨m,⟨oC,esC,nC,p1,dC,rC⟩,λh' hs'=>⟨σ6,H6,I8.unpinned.turned (t':=s6.toks) (λb o hb e=>(hs'.2 b hb).trans e) p2 fpC.2.1 fpC.2.2.2.1 fpC.2.2.2.2.1 fpC.2.2.2.2.2,q6⟩⟩
end L3
namespace L4
open PySem PySem.Spec PyProof.Rows L2 L3
section
variable{X:Cx}{G:Bg}
def Hr{st:Stmt}(h:PS X st (DW te g))(w:∀σ H Q,te' σ H Q->te σ H Q):PS X st (DW te' g):=PS.weak h λE σ H hh=>w _ _ _ hh
def P5{st:Stmt}{cap:List Nat}(nd:cap.Nodup)(h:PS X st (DW (Fw (tFI G s) (tFG G k g) (tFT G ft) (tF G fe) k cap) (zN i))):PS X st (tFS G (x8 i (tR k cap s g ft fe))):=LF (Hr h (Kz nd))
def RU{st:Stmt}{cap:List Nat}(nd:cap.Nodup)(h:PS X st (DW (Fw (tFI G s) (tFG G k g) (tFT G ft) (tF G fe) k cap) (zN i))):PS X st (tFS G (tV i (cL (tR k cap s g ft fe)))):=Ob (Hr (Hr h (Kz nd)) tN_F)
end
section
variable{f g h:FS}{c:FT}{e e' e2:FE}{a a':FA}{ρ ρ' ρ1 ρ2 ρ3:aJ}{d x y z:D}{o:Out}{ds xs ys:bw}
def tu(h:f ρ=Z (.nx ρ')):tw f g ρ=g ρ':=by delta tw;rw[h]
def tZ(h:f ρ=Z (.rt d ρ')):tw f g ρ=Z (.rt d ρ'):=by delta tw;rw[h]
def ud(h:c ρ=Z (γ,ρ')):sIf c f g ρ=f ρ':=by delta sIf;rw[h]
def uo(h:c ρ=Z (δ,ρ')):sIf c f g ρ=g ρ':=by delta sIf;rw[h]
def tQ(h:e ρ=Z (d,ρ')):tV i e ρ=Z (.nx (ρ'.set i (.im d))):=by delta tV;rw[h]
def Ol(h:a ρ=Z (ds,ρ')):x8 i a ρ=Z (.nx (ρ'.set i (.ls ds))):=by delta x8;rw[h]
def tL(h:e ρ=Z (d,ρ')):tG e ρ=Z (.rt d ρ'):=by delta tG;rw[h]
def xh(h:a ρ=Z (ds,ρ')):vz a ρ=Z (.rn ds ρ'):=by delta vz;rw[h]
def uX(h:e ρ=Z (d,ρ')):uq e ρ=Z (.nx ρ'):=by delta uq;rw[h]
def tD{g:D->D->Option D}(h1:e ρ=Z (x,ρ1))(h2:e' ρ1=Z (y,ρ2))(h3:g x y=Z z):c2 g e e' ρ=Z (z,ρ2):=by delta c2;rw[h1];erw[h2,h3]
def uu{g:D->Option D}(h1:e ρ=Z (x,ρ1))(h3:g x=Z z):c1 g e ρ=Z (z,ρ1):=by delta c1;rw[h1];erw[h3]
def YE(h1:e (ρ.map Sl.bor)=Z (d,ρ1))(hf:wD d=γ):MZ e ρ=Z (d,ρ):=by delta MZ;rw[h1];erw[hf,if_true]
def uz(h1:e ρ=Z (.bl b,ρ1)):cT e ρ=Z (b,ρ1):=by delta cT;rw[h1]
def vN(h1:c ρ=Z (b,ρ1)):uE c ρ=Z (!b,ρ1):=by delta uE;rw[h1]
def wF(h1:c ρ=Z (δ,ρ1))(h2:c' ρ1=Z (b,ρ2)):vS c c' ρ=Z (b,ρ2):=by delta vS;rw[h1];show h2
def sZ(h1:e ρ=Z (d,ρ1))(h2:a ρ1=Z (ds,ρ2)):aCons e a ρ=Z (d::ds,ρ2):=by delta aCons;rw[h1];erw[h2]
def tf{α:Type}{g:bw->Option α}{r:α}(h1:a ρ=Z (ds,ρ1))(h2:g ds=Z r):E2 g a ρ=Z (r,ρ1):=by delta E2;rw[h1];erw[h2]
def uT(h1:a ρ=Z (ds,ρ1)):cL a ρ=Z (.lst ds,ρ1):=by delta cL;rw[h1]
def RV(h1:a ρ=Z (ds,ρ1))(hl:ds.length<=1000):uw a ρ=Z (ds,ρ1):=by delta uw;rw[h1];erw[hl,if_true]
def M3(h1:a ρ=Z (ds,ρ1))(hl:ds.length<=1000):uv a ρ=Z (.tup ds,ρ1):=by delta uv;rw[h1];erw[hl,if_true]
def w6(h1:e ρ=Z (.lst xs,ρ1))(h2:e' ρ1=Z (.lst ys,ρ2))(hl:xs.length+ys.length<=1000):xn e e' ρ=Z (xs++ys,ρ2):=by delta xn;rw[h1];erw[h2,hl,if_true]
def BV(h0:xK ρ i=Z es0)(h1:e ρ=Z (d,ρ1))(h2:xK ρ1 i=Z es)(hl:es.length<1000):zt i e ρ=Z (.non,putAt ρ1 i (es++[d])):=by delta zt;rw[h0];erw[h1,h2,hl,if_true]
def RW(h0:xK ρ i=Z es0)(h1:a ρ=Z (ds,ρ1))(h2:xK ρ1 i=Z es)(hl:es.length+ds.length<=1000):Hg i a ρ=Z (.non,putAt ρ1 i (es++ds)):=by delta Hg;rw[h0];erw[h1,h2,hl,if_true]
def uO{s:FA}{g:FG}(h1:s ρ=Z (ds,ρ1)):wC s g f ρ=forL g f ds ρ1:=by delta wC;rw[h1]
def Om{k:Nat}{cap:List Nat}{s:FA}{g:FG}{ft:FT}{fe:FE}(h1:s ρ=Z (ds,ρ1))(hl:ds.length<=1000):tR k cap s g ft fe ρ=BQ k cap g ft fe ds ρ1:=by delta tR;rw[h1];erw[hl,if_true]
def yL(hl:ds.length=np)(h:b (L4.stE n ds)=Z (.rn xs ρ)):fnN np n b ds=Z xs:=by delta fnN;rw[ao hl,h]
def tE(hl:ds.length=np)(h:b (L4.stE n ds)=Z (.rt d ρ)):fnD np n b ds=Z d:=by delta fnD;rw[ao hl,h]
end
def zc(h:A6 a=γ\/A6 b=γ):vM (.int a) (.int b)=Z (.int (a * b)):=by delta vM dI;simp only;rw[ao (by exists h)]
def ux(h:0<b):uf (.int a) (.int b)=Z (.int (a % b)):=by delta uf dI;simp only;rw[ao (by exists h)]
def div_pos(h:0<b)(h':b<1073741824):uV (.int a) (.int b)=Z (.int (a / b)):=by delta uV dI;simp only;rw[ao (by simp[h,h'])]
def LR(h:0<=a)(h':a<2147483647):A6 a=γ:=by delta A6;erw[aW,b8];omega
def AA:D->Option Key
 |.int i=>Z (.inl i)
 |.str x=>Z (.inr x)
 |_=>J
def vp:List Key->bw->Key->Option D
 |k::ks,d::ds,j=>if k=j then Z d else vp ks ds j
 |_,_,_=>J
def Vu(ks:List Key)(ds:bw)(k:Key)(d:D):bw:=eW (λk' d'=>if k'=k then d else d') ks ds
def Gu(ks:List Key)(k:Key):Bool:=ks.any λk'=>decide (k'=k)
section
variable{X:Cx}{G:Bg}{H:Hp}
def A8(h:Rep G H d v)(e:AA d=Z k):v=kV k:=by
 ext d<;>first|cases e|skip
 all_goals (delta Rep at h;show h)
theorem BW:∀{ks:List Key} {ds:bw} {xs:bN} (j:Key),Reps G H ds xs->ks.length=xs.length->match vp ks ds j with
  |some d=>∃v,xG (ks.zip xs) j=Z v/\Rep G H d v
  |none=>xG (ks.zip xs) j=J
 |[],ds,xs,j,r,l=>by ext ds<;>rfl
 |k::ks,ds,[],j,r,l=>by cases l
 |k::ks,[],x::xs,j,r,l=>by delta Reps at r;cases r
 |k::ks,d::ds,x::xs,j,r,l=>by
  delta Reps at r;let#v[v,q,e,h1,h2]:=r;ext e;delta vp;by_cases hk:k=j
  .rw[ao hk];show⟨x,D3 (p:=(k,x)) hk,h1⟩
  .rw[ak hk];have ih:=BW (ks:=ks) (ds:=ds) (xs:=xs) j h2 (by exists l);have e1:xG ((k::ks).zip (x::xs)) j=xG (ks.zip xs) j:=D4 (p:=(k,x)) hk;rw[e1];show ih
theorem KD:∀{ks:List Key} {xs:bN},ks.length=xs.length->((ks.zip xs).any λkv=>decide (kv.1=k))=Gu ks k
 |[],xs,_=>by ext xs<;>rfl
 |k'::ks,[],l=>by cases l
 |k'::ks,x::xs,l=>by delta Gu;rw[eJ,fP,fP,KD (by exists l)];rfl
theorem On:∀{ks:List Key} {xs:bN},ks.length=xs.length->(ks.zip xs).map (λkv=>if kv.1=k then (kv.1,v)else kv)=ks.zip (eW (λk' x=>if k'=k then v else x) ks xs)
 |[],xs,_=>by ext xs<;>rfl
 |k'::ks,[],l=>by cases l
 |k'::ks,x::xs,l=>by
  rw[eJ,aN,On (by exists l),f9,eJ];congr 1;by_cases hk:k'=k
  .rw[ao hk,ao hk]
  .rw[ak hk,ak hk]
theorem LS(hd:Rep G H d v):∀{ks:List Key} {ds:bw} {xs:bN},Reps G H ds xs->ks.length=xs.length->Reps G H (Vu ks ds k d) (eW (λk' x=>if k'=k then v else x) ks xs)
 |[],ds,xs,r,l=>by delta Vu;ext ds<;>ext xs<;>show uy
 |k'::ks,ds,[],r,l=>by cases l
 |k'::ks,[],x::xs,r,l=>by delta Reps at r;cases r
 |k'::ks,d'::ds,x::xs,r,l=>by
  delta Reps at r;let#v[w,q,e,h1,h2]:=r;ext e;delta Vu;rw[f9,f9];calc uD ?_ (LS hd h2 (by exists l));by_cases hk:k'=k
  .rw[ao hk,ao hk];show hd
  .rw[ak hk,ak hk];show h1
def _root_.L2.DGet.kf(e:H a=Z (.frz o (.dK kvs))):DGet H a (kV k) (xG kvs k):=.inl ⟨kvs,k,.inr ⟨o,e⟩,O,O⟩
def CV:D->D->Option D:=λx y=>match x,AA y with
 |.dic ks ds,Z k=>vp ks ds k
 |_,_=>J
def Vv(hu:X.A.units+1<cLine)(ha:PE X a (tF G f))(hb:PE X b (tF G f'))(hs:XU b:=by show λ_ _=>O):PE X (.Subscript a b pos) (tF G (c2 CV f f')):=PE.weak (UK hu ha hb hs) λσ H Q hh=>by
 sleep 9
 let#v[x,y,ρ1,e1,e2,e3]:=GB e;calc⟨F,ρ,H0,x,ρ1,R,e1,λv H1 H1' s1 R1 r1=>⟨F,ρ1,H1,y,ρ',R1,e2,λu H2 H2' s2 R2 r2=>?_⟩⟩;have r1':=Rep.mono s2 _ _ r1;cases x with
 |dic ks ds=>
  delta CV at e3;cases ek:AA y with
  |none=>erw[ek]at e3;cases e3
  |some j=>erw[ek]at e3;delta Rep at r1';let#v[p,ob,xs,rfl,h1,h2,h3]:=r1';have lv:=BW (ks:=ks) j h3 h2;rw[e3]at lv;let#v[w,w1,w2]:=lv;calc⟨p,w,O,?_,k w H2 H2' (s1.trans s2) R2 w2⟩;rw[A8 r2 ek,<- w1];show DGet.kf (R2.sub _ _ h1)
 |_=>delta CV at e3;ext e3
def BB:D->D->Option D:=λx y=>match x,AA y with
 |.dic ks ds,Z k=>Z ((vp ks ds k).getD .non)
 |_,_=>J
def RX(hu:X.A.units+1<cLine)(ha:PE X a (tF G f))(hb:PE X b (tF G f'))(m:M1 X a "get" apos b cpos):PE X (.Call (.Attribute a "get" apos) [b] [] cpos) (tF G (c2 BB f f')):=PE.weak (Q6 hu ha hb m) λσ H Q hh=>by
 sleep 9
 let#v[x,y,ρ1,e1,e2,e3]:=GB e;cases x with
 |dic ks ds=>
  calc⟨F,ρ,H0,_,ρ1,R,e1,λv H1 H1' s1 R1 r1=>?_⟩;have r1':=r1;delta Rep at r1';let#v[p,ob,xs,rfl,h1,h2,h3]:=r1';calc⟨p,O,.inl ⟨_,.inr ⟨_,R1.sub _ _ h1⟩⟩,F,ρ1,H1,y,ρ',R1,e2,λu H2 H2' s2 R2 r2=>?_⟩;delta BB at e3;cases ek:AA y with
  |none=>erw[ek]at e3;cases e3
  |some j=>
   erw[ek]at e3;ext e3;have lv:=BW (ks:=ks) j (Reps.mono s2 _ _ h3) h2;refine⟨xG (ks.zip xs) j,?_,?_⟩
   .rw[A8 r2 ek];show DGet.kf (R2.sub _ _ (s2 _ _ h1))
   .cases el:vp ks ds j with
    |none=>rw[el]at lv k;rw[lv];show k _ H2 H2' (s1.trans s2) R2 zP
    |some z=>rw[el]at lv k;let#v[w,w1,w2]:=lv;rw[w1];show k _ H2 H2' (s1.trans s2) R2 w2
 |_=>delta BB at e3;ext e3
def Ht(i:Nat):FS:=λρ=>Z (.nx (ρ.set i (.dk [] [])))
def RY{st:Stmt}(h:PS X st (DW MP (zN i))):PS X st (tFS G (Ht i)):=PS.weak h λE σ H hh=>by let#v[F,ρ,H0,o,R,e,k,k2]:=hh;ext e;intro p hp;have R1:=R.newOwn hp (.dK []);calc k _ _ _ (ue.refl _) (R1.set (s:=.dk [] []) ⟨p,[],O,tU,R.h0none hp,R.bNone hp,O,uy⟩ λ_ a ea j t _ ej to=>?_);ext ea;show R.apart hp j t ej to
def ya(i:Nat)(fk fv:FE):FS:=λρ=>match fv ρ with
 |some (d,ρ1)=>match ρ1[i]? with
  |some (.dk _ _)=>match fk ρ1 with
   |some (y,ρ2)=>match AA y with
    |some k=>match ρ2[i]? with
     |some (.dk ks ds)=>if ks.length<1000 then if ds.length=ks.length then Z (.nx (ρ2.set i (if Gu ks k=γ then .dk ks (Vu ks ds k d)else .dk (ks++[k]) (ds++[d]))))else J else J
     |_=>J
    |none=>J
   |none=>J
  |_=>J
 |none=>J
def RZ{st:Stmt}(h:PS X st (WB (DU i) (tF G fk) (tF G fv))):PS X st (tFS G (ya i fk fv)):=PS.weak h λE σ H hh=>by
 let#v[F,ρ,H0,o,R,e,k,k2]:=hh;delta ya at e;rcases ur (f:=fv) (ρ:=ρ)with e1|⟨d,ρ1,e1⟩<;>erw[e1]at e
 .ext e
 split at e
 .rename_i ks0 ds0 ei;rcases ur (f:=fk) (ρ:=ρ1)with e2|⟨y,ρ2,e2⟩<;>erw[e2]at e
  .ext e
  cases ek:AA y with
  |none=>erw[ek]at e;cases e
  |some j=>
   erw[ek]at e;split at e
   .rename_i ks ds ei2;split at e
    .rename_i hl;split at e
     .rename_i hl2;ext e;calc⟨F,ρ,H0,d,ρ1,R,e1,λv H1 H1' s1 R1 r1=>?_⟩;let#v[a0,xs0,a1,_]:=R1.sl i _ ei;calc⟨_,yu a1,F,ρ1,H1,y,ρ2,R1,e2,λu H2 H2' s2 R2 r2=>?_⟩;let#v[a,xs,b1,b2,b3,b4,b5,b6]:=R2.sl i _ ei2;rw[a1]at b1;ext b1;refine⟨a0,upd H2' a0 (.dK (putK (ks.zip xs) j v)),O,?_,?_⟩
      .rw[A8 r2 ek];show Q2.k b2 (by rw[ir];show ja (Nat.min_le_left _ _) (CC ()))
      .have rv:=Rep.mono s2 _ _ r1;refine k _ _ _ (s1.trans s2) (R2.mut ei2 O a1 (λH' hH=>?_) ?_)
       .by_cases hk:Gu ks j=γ
        .rw[ao hk];calc⟨a0,eW (λk' x=>if k'=j then v else x) ks xs,O,?_,b3,b4,by rw[i5,b5,ix],LS rv b6 b5⟩;rw[hH];delta putK;rw[KD b5,ao hk,On b5]
        .rw[ak hk];calc⟨a0,xs++[v],O,?_,b3,b4,by rw[aM,aM,b5];rfl,vU b6 (uD rv uy)⟩;rw[hH];delta putK;rw[KD b5,ak hk,kQ b5];rfl
       .split<;>rfl
     .ext e
    .ext e
   .ext e
 .ext e
def Gv:D->Option D
 |.lst ds=>(IY ds).map λbs=>.bl (bs.any id)
 |_=>J
def P6(hc:X.calm=γ)(hK:X.K=G.K:=by rfl):vT X (.builtin "any") (λxs H Q=>∃(p:Addr) (bs:List Bool),xs=[.ref p]/\SqL G.K H p (bs.map V.bl)/\Q (.bl (bs.any id)) H):=by
 rw[<-hK];intro pins s σ H xs us Q I r h;let#v[p,bs,rfl,hq,q]:=h;let#v[u,rfl,ru]:=vals1 r;ext ru;let#v[its,rv,pl,hz]:=I.list hq;have hlt:p< ~~~s:=by let#v[o,ho,_]:=pl.isList;show aK ho
 have hl:bs.length=its.length:=by have:=rv.length;rw[aq]at this;show this
 refine call_any_walk (eK pl.isList ⟨~~~s,_,_,_,_,_,λi=>(bs[i]?).getD δ,O,gy (show X.A.in1.handled=J from I.ok.hd hc) _ p (aV hlt) its.toArray,⟨⟨_,bq _ O,O,O⟩,?_⟩,?_,λh' tk hk=>?_⟩)
 .show pl.isList.at λo e=>aC _ e
 .intro i v s' Q' E' hv hQ';have hv':its[i]?=Z v:=by exists hv
  have hi:i<its.length:=(ck.mp hv').1;have hb:(bs.map V.bl)[i]?=Z (.bl (bs[i]'())):=by simp[show i<bs.length by omega]
  let#v[u,hu,ru]:=rv.get hb;rw[hv']at hu;ext hu;ext ru;calc dm ?_;have e:(bs[i]?).getD δ=bs[i]'():=by simp[show i<bs.length by omega]
  rw[<-e];show hQ'
 .refine⟨.bl (bs.any id),H,?_,?_,q⟩
  .show I.kept (t':=tk) λb o e=>hk b o (by simp;show aV (aK e)) (aC _ e)
  .change Value.bool _=Value.bool _;congr 1;rw[bB,<- hl];rw[dM];erw[ip,cu,id];constructor
   .rintro⟨i,hi,h⟩;show⟨bs[i],fH hi,by simpa [hi]using h⟩
   .rintro⟨b,hb,h⟩;let#v[i,hi,rfl]:=kl.mp hb;show⟨i,hi,by simpa [hi]using h⟩
def YF:LN G (λxs H Q=>∃(p:Addr) (bs:List Bool),xs=[.ref p]/\SqL G.K H p (bs.map V.bl)/\Q (.bl (bs.any id)) H) Gv:=λx z H0 H v Q e s rx k=>by
 cases x with
 |lst ds=>
  delta Gv at e;simp only at e;cases e1:IY ds with
  |none=>rw[e1]at e;cases e
  |some bs=>rw[e1]at e;ext e;delta Rep at rx;let#v[a,xs,rfl,h1,h2]:=rx;rw[Ho h2 e1]at h1;show⟨a,bs,O,s.seq (SqL.of h1),k _ λ_ _=>wZ _⟩
 |_=>ext e
def iS(f:FE):FA:=λρ=>match f ρ with
 |some (.str x,ρ')=>Z (x.cps.toList.map λc=>D.str ⟨#[c]⟩,ρ')
 |_=>J
def Vw(h:PI X tg e (iStr (tF G f))):PI X tg e (tFI G (iS f)):=PI.weak h λσ H R hh=>by
 let#v[F,ρ,H0,ds,ρ',R,e,k]:=hh;delta iS at e;split at e
 .rename_i x ρ1 e1
  sleep 6
  refine⟨x,r,k _ _ _ s R' λi H2 H2' t t'=>⟨λd ed=>?_,λhl=>?_⟩⟩
  .rw[bC]at ed;cases ec:x.cps.toList[i]? with
   |none=>rw[ec]at ed;cases ed
   |some c=>
    rw[ec]at ed;ext ed;have ec':x.cps[i]?=Z c:=by exists ec
    calc⟨(Array.getElem?_eq_some_iff.mp ec').1,λz H3 y=>?_⟩;let#v[e3,c',hc',rfl]:=y;rw[ec']at hc';ext hc';subst e3;show⟨H2,ue.refl _,t',ue.refl _,λb o e=>.inl e,A2 _⟩
  .change i=x.cps.size;rw[hl,aq];simp
 .ext e
def FC(f g:FE):FE:=λρ=>match f ρ with
 |some (.tup (x::xs),ρ1)=>match g ρ1 with
  |some (.tup ys,ρ2)=>if xs.length+ys.length<=900 then Z (.tup (x::xs++ys),ρ2)else J
  |_=>J
 |_=>J
def Vx(ha:PE X a (tF G f))(hb:PE X b (tF G g))(hK:X.K=G.K:=by rfl):PE X (.BinOp a .Add b pos) (tF G (FC f g)):=PE.weak (QN UF ha hb) λσ H Q hh=>by
 rw[hK]
 sleep 9
 delta FC at e;split at e
 .rename_i x xs ρ1 e1;split at e
  .rename_i ys ρ2 e2;split at e
   .rename_i hl;ext e;calc⟨F,ρ,H0,_,ρ1,R,e1,λv H1 H1' s R' r=>⟨F,ρ1,H1,_,_,R',e2,λu H2 H2' s2 R2 r2=>?_⟩⟩;have r':=Rep.mono s2 _ _ r;have r0:=r';delta Rep at r' r2;let#v[a1,xs1,rfl,h1,h2]:=r';let#v[a2,xs2,rfl,h3,h4]:=r2;have l1:=tP h2;have l2:=tP h4;rw[aT]at l1;refine⟨a1,a2,xs1,xs2,O,O,SqT.mono R2.sub h1,SqT.mono R2.sub h3,(λz=>by rw[z]at l1;ext l1),by rw[<-l1,<- l2];show xl (),λz=>?_,λ_ p hp=>?_⟩
    .have ey:ys=[]:=by rw[z]at l2;show j5.mp l2
     subst ey;rw[bQ]at k;show k _ _ _ (s.trans s2) R2 r0
    .show k _ _ _ ((s.trans s2).trans (ui (R2.h0none hp) _)) (R2.newIm hp _) (D5 (SqT.of tU) (Reps.mono (ui (R2.h0none hp) _) _ _ (vU h2 h4)))
   .ext e
  .ext e
 .ext e
end
section
variable{X:Cx}{G:Bg}
abbrev FO:=aJ->Option (Option Int×aJ)
def tFO(G:Bg)(f:FO):TO:=λσ H Q=>∃F ρ H0 d ρ',RelE G F σ ρ H0 H/\f ρ=Z (d,ρ')/\∀H0' H',ue H0 H0'->RelE G F σ ρ' H0' H'->Q d H'
def oNo:FO:=λρ=>Z (J,ρ)
def oAt(f:FE):FO:=λρ=>match f ρ with
 |some (.int i,ρ')=>Z (Z i,ρ')
 |_=>J
def PO.weak(h:PO X e t)(w:∀σ H Q,t' σ H Q->t σ H Q):PO X e t':=λpins s σ H Q I hq=>h pins s σ H Q I (w _ _ _ hq)
def YG:PO X J (tFO G oNo):=PO.weak UE λσ H Q hh=>by
 sleep 9
 ext e;show k _ _ (ue.refl _) R
def YH(h:PE X e (tF G f)):PO X (Z e) (tFO G (oAt f)):=PO.weak (N4 h) λσ H Q hh=>by
 sleep 9
 delta oAt at e;split at e
 .rename_i i ρ1 e1
  sleep 6
  show⟨i,r,k _ _ s R'⟩
 .ext e
def KE(f:FE)(lo hi:FO):FA:=λρ=>match f ρ with
 |some (d,ρ1)=>match d with
  |.lst ds=>match lo ρ1 with
   |some (l,ρ2)=>match hi ρ2 with
    |some (h,ρ3)=>Z (cutD ds l h,ρ3)
    |none=>J
   |none=>J
  |.fzl ds=>match lo ρ1 with
   |some (l,ρ2)=>match hi ρ2 with
    |some (h,ρ3)=>Z (cutD ds l h,ρ3)
    |none=>J
   |none=>J
  |_=>J
 |none=>J
def M4{lo:FO}(h:PE X e (tSl (Pu G.K) (tF G f) (tFO G lo) (tFO G hi))):PE X e (tFN G (KE f lo hi)):=PE.weak h λσ H Q hh=>by
 let#v[F,ρ,H0,ds,ρ',R,e,k]:=hh;delta KE at e;rcases ur (f:=f) (ρ:=ρ)with e1|⟨d,ρ1,e1⟩<;>erw[e1]at e
 .ext e
 have gen:∀(xs:bw),(∀{H1:Hp} {v:V},Rep G H1 d v->∃a ys,v=.ref a/\SqL G.K H1 a ys/\Reps G H1 xs ys)->(match lo ρ1 with
   |some (l,ρ2)=>match hi ρ2 with
    |some (h,ρ3)=>Z (cutD xs l h,ρ3)
    |none=>J
   |none=>J)=Z (ds,ρ')->tSl (Pu G.K) (tF G f) (tFO G lo) (tFO G hi) σ H Q:=λxs rd e=>by
  rcases ur (f:=lo) (ρ:=ρ1)with e2|⟨l,ρ2,e2⟩<;>erw[e2]at e
  .ext e
  rcases ur (f:=hi) (ρ:=ρ2)with e3|⟨u,ρ3,e3⟩<;>erw[e3]at e
  .ext e
  ext e;calc⟨F,ρ,H0,d,ρ1,R,e1,λv H1 H1' s1 R1 r1=>⟨F,ρ1,H1,l,ρ2,R1,e2,λH2 H2' s2 R2=>⟨F,ρ2,H2,u,_,R2,e3,λH3 H3' s3 R3=>?_⟩⟩⟩;let#v[a,ys,rfl,q1,q2]:=rd (Rep.mono (s2.trans s3) _ _ r1);show⟨a,ys,O,R3.sub.seq q1,λp hp=>k p _ _ _ (s1.trans (s2.trans s3)) (R3.newOwn hp _) tU (R3.h0none hp) (R3.bNone hp) (R3.apart hp) (LP q2)⟩
 cases d with
 |lst xs=>show gen xs (λr=>by delta Rep at r;let#v[a,ys,rfl,q1,q2]:=r;show⟨a,ys,O,SqL.of q1,q2⟩) e
 |fzl xs=>show gen xs (λr=>by delta Rep at r;show r) e
 |_=>ext e
end
section
variable{X:Cx}{G:Bg}
def Jx(f f' f2:FE):FE:=λρ=>match f ρ with
 |some (.dic ks ds,ρ1)=>match f' ρ1 with
  |some (y,ρ2)=>match f2 ρ2 with
   |some (x,ρ3)=>match AA y with
    |some k=>Z ((vp ks ds k).getD x,ρ3)
    |none=>J
   |none=>J
  |none=>J
 |_=>J
def R0(hu:X.A.units+1<cLine)(ha:PE X a (tF G f))(hb:PE X b (tF G f'))(hc:PE X c (tF G f2))(m:M2 X a "get" apos b c cpos):PE X (.Call (.Attribute a "get" apos) [b,c] [] cpos) (tF G (Jx f f' f2)):=PE.weak (Q7 hu ha hb hc m) λσ H Q hh=>by
 sleep 9
 delta Jx at e;split at e
 .rename_i ks ds ρ1 e1;rcases ur (f:=f') (ρ:=ρ1)with e2|⟨y,ρ2,e2⟩<;>erw[e2]at e
  .ext e
  rcases ur (f:=f2) (ρ:=ρ2)with e3|⟨x,ρ3,e3⟩<;>erw[e3]at e
  .ext e
  cases ek:AA y with
  |none=>erw[ek]at e;cases e
  |some j=>
   erw[ek]at e;ext e;calc⟨F,ρ,H0,_,ρ1,R,e1,λv H1 H1' s1 R1 r1=>?_⟩;delta Rep at r1;let#v[p,ob,xs,rfl,h1,h2,h3]:=r1;calc⟨p,O,.inl ⟨_,.inr ⟨_,R1.sub _ _ h1⟩⟩,F,ρ1,H1,y,ρ2,R1,e2,λu H2 H2' s2 R2 r2=>⟨F,ρ2,H2,x,_,R2,e3,λz H3 H3' s3 R3 r3=>?_⟩⟩;have lv:=BW (ks:=ks) j (Reps.mono (s2.trans s3) _ _ h3) h2;refine⟨xG (ks.zip xs) j,?_,?_⟩
   .rw[A8 r2 ek];show DGet.kf (R3.sub _ _ (s3 _ _ (s2 _ _ h1)))
   .cases el:vp ks ds j with
    |none=>rw[el]at lv k;rw[lv];show k _ H3 H3' (s1.trans (s2.trans s3)) R3 r3
    |some w=>rw[el]at lv k;let#v[w',w1,w2]:=lv;rw[w1];show k _ H3 H3' (s1.trans (s2.trans s3)) R3 w2
 .ext e
def Hu(G:Bg)(c:Nat)(t:Ty->Option Bool):Prop:=(∀y b,t y=Z b->dh G.K (y.val G) (.ref (G.ca c))=Z b)/\∀j b,t (.c j)=Z b->LO G.K (G.ca j)
def M5(h:Hu G c t)(hK:X.K=G.K:=by rfl):vT X (.builtin "isinstance") (λxs H Q=>∃d x b,xs=[x,(Ty.c c).v G]/\Rep G H d x/\t (tyD d)=Z b/\Q (.bl b) H):=
 Jw (X:=X) (.c c) (by rw[hK];show h.1) (by rw[hK];show h.2) hK
end
def ddp(acc:List Key)(k:Key):List Key:=if acc.any (λz=>decide (z=k))then acc else acc++[k]
def zM(ks:List Key):List Key:=ks.foldl ddp []
def Vy(acc:List Key)(k j:Key):(ddp acc k).any (λz=>decide (z=j))=(acc.any (λz=>decide (z=j))||decide (j=k)):=by
 delta ddp;by_cases h:acc.any (λz=>decide (z=k))=γ
 .rw[ao h];by_cases e:j=k
  .subst e;rw[h];simp
  .simp[e]
 .rw[ak h,List.any_append];by_cases e:j=k
  .subst e;simp
  .have hb:¬k=j:=λz=>e z.symm;simp[hb,e]
def Oo(acc:List Key)(k:Key):(ddp acc k).length=if acc.any (λz=>decide (z=k))=γ then acc.length else acc.length+1:=by delta ddp;split<;>simp
def Jy(ks:List Key)(i:Nat)(h:i<ks.length):zM (ks.take (i+1))=ddp (zM (ks.take i)) ks[i]:=by delta zM;rw[om,bg h,oo];rfl
def R7(ks:List Key):(zM ks).length<=ks.length:=by
 have gen:∀(l:List Key) (acc:List Key),(l.foldl ddp acc).length<=acc.length+l.length:=by
  intro l
  induction l with
  |nil=>intro acc;simp
  |cons k l ih=>
   intro acc;rw[kR,aT];have h1:=ih (ddp acc k);have h2:(ddp acc k).length<=acc.length+1:=by rw[Oo];split<;>omega
   omega
 have:=gen ks [];simpa [zM]using this
def set_same{h:Heap}(hS:h.SetOf (um prog w) a S n)(e:∀k,S k=S' k)(en:n=n'):h.SetOf (um prog w) a S' n':=by obtain rfl:S=S':=funext e;subst en;show hS
section
variable{prog:aO}{w:aF}{A:aP}{R:fY->af->Prop}{I:Addr}{fp wr:List Addr}{GG:Array fW->Array fW->Prop}{n:Nat}{PP:Nat->ae->Prop}{SS:Nat->af->Prop}
def R8(W:jE prog w A.in1 I fp wr GG n PP SS)(S:Addr)(hSf:S∉fp)(ks:List Key)(hn:ks.length=n)
  (hval:∀i v (h:i<ks.length),PP i v->(um prog w).is ks[i] v=γ/\v.scannable=γ) (hb:n+1<scanBound):∀(k i:Nat) (s:af),n - i=k->i<=n->SS i s->
   s.heap.SetOf (um prog w) S (λj=>(zM (ks.take i)).any (λz=>decide (z=j))) (zM (ks.take i)).length->
   (∀s',gM (S::wr) GG s s'->s'.heap.SetOf (um prog w) S (λj=>(zM ks).any (λz=>decide (z=j))) (zM ks).length->R (.ok (.ret .none)) s')->
   cf (model prog w) A (.builtin "set.update.loop" ⟨[.ref S,.ref I],[]⟩) R s:=by
 have hSw:S∉wr:=λz=>hSf ((W).sub _ z);have up:∀b∈wr,b∈S::wr:=λb z=>aU _ z;intro k
 induction k with
 |zero=>
  intro i s hk hi hst hS hR;obtain rfl:i=n:=by omega
  sleep 10
  change ah _ A.in1 (pyNext (.ref I)>>=_) _ _ s;calc ag (W.done s _ _ hst λs' hm=>?_);change ah _ A.in1 (ret Value.none) _ _ s';rw[m9 ()]at hS;calc au (hR s' (hm.mono up) ?_);let#v[o,es,ep,t,ho,more]:=hS;show⟨o,es,ep,t,hm.heap S _ hSw ho,more⟩
 |succ k ih=>
  intro i s hk hi hst hS hR;have hlt:i<n:=by omega
  have hlk:i<ks.length:=by omega
  sleep 10
  change ah _ A.in1 (pyNext (.ref I)>>=_) _ _ s;calc ag (W.item i s _ _ hlt hst λv s' hP hst' hm=>?_);let#v[kv,sc]:=hval i v hlk hP;have hS':s'.heap.SetOf (um prog w) S (λj=>(zM (ks.take i)).any (λz=>decide (z=j))) (zM (ks.take i)).length:=by let#v[o,es,ep,t,ho,more]:=hS;show⟨o,es,ep,t,hm.heap S _ hSw ho,more⟩
  change ah _ A.in1 (holding [v] (setAdd S v)>>=_) _ _ s';calc ag (cA ?_);delta setAdd;calc cA ?_;calc ag ((um prog w).pyHash (k:=ks[i]) kv ?_);have room:(zM (ks.take i)).length+1<scanBound:=by have:=R7 (ks.take i);rw[cO]at this;omega
  calc wpAny_setAddHashed_of (knd:=um prog w) (s:={ s' with toks:=s'.toks+1 }) kv sc hS' room λh' hsb hS2=>?_;have hSi:h'.SetOf (um prog w) S (λj=>(zM (ks.take (i+1))).any (λz=>decide (z=j))) (zM (ks.take (i+1))).length:=
   set_same hS2 (λj=>by rw[Jy ks i hlk,Vy]) (by rw[Jy ks i hlk,Oo])
  refine au ⟨eA eF _,ih (i+1) _ () hlt (W.frame _ s' _ _ hst' (iB _) λb z o e=>?_) hSi λs'' hm'' hS''=>?_⟩
  .rw[hsb.2 b (λy:b=S=>hSf (by rw[<-y];show z))];show e
  .calc hR s'' (gx W.gtrans ((hm.mono up).then_heap (iB _) λb o z e=>?_) hm'') hS'';rw[hsb.2 b (λy:b=S=>z (by rw[y];show aR))];show e
end
def Vz(l:Addr)(us:Array ae)(m:Nat)(b:Addr)(o:Obj)(ws:Array ae)(m2:Nat)(hc:o.cls=.type "tuple")(hd:o.data=.seq ws m2)(z0:¬(!us.isEmpty&&hG (us.size+ws.size))=γ)(z1:us.size<=aL)(z2:us.size+ws.size<=aL+1):
  Meets (cU.«list.extend» ⟨[.ref l,.ref b],[]⟩) (λ_ R s=>s.heap.get? l=Z { cls:=.type "list", data:=.seq us m }/\s.heap.get? b=Z o/\R (.ok (.ret Value.none)) { s with heap:=s.heap.update l (dA λx=>x++ws),toks:=s.toks }):=by
 let#v[c,dd,data,sl]:=o;ext hc;ext hd;calc .of_wp λprog w A R s h=>?_;let#v[hp,g,d,tk,os]:=s;let#v[hl,hb,h]:=h;have f2:=AutoSeq1.sub_tuple_tuple;have f3:=AutoSeq1.sub_list_list;have f4:=AutoSeq1.sub_tuple_list;have f5:=AutoSeq1.sub_list_tuple;have z3:(us++ws).size<=aL+1:=Array.size_append (xs:=us) (ys:=ws)▸z2
 wp_walk using (kT hl O (hz:=z1) (_hz':=z3)),mW hl,mW hb
 show⟨_,O,h⟩
section
variable{X:Cx}{G:Bg}
def LU(K:av):V->bN->Hp->VK->Prop:=λx vs H Q=>∃l b xs zs,x=.ref l/\vs=[.ref b]/\H l=Z (.lst xs)/\SqT K H b zs/\xs.length+zs.length<=aL/\Q .non (upd H l (.lst (xs++zs)))
def M6:MtM X "list.extend" (LU X.K):=by
 intro pins s σ H x vs v us Q I rx rv h;let#v[l,b,xs,zs,rfl,rfl,hH,hB,hz,q]:=h;ext rx;let#v[u,rfl,ru]:=rv.one;ext ru;let#v[z,its,n,r,hl,e]:=I.lstM hH;let#v[its2,r2,#v[o,e2,hc,n2,hd],hz2]:=I.tuple hB;have hl2:=r2.length;have hsz:its.toArray.size+its2.toArray.size<=aL:=by rw[bB,bB];omega
 have hlong:¬(!its.toArray.isEmpty&&hG (its.toArray.size+its2.toArray.size))=γ:=by rw[Lo hsz,kX];show bA
 refine l6 i8 ⟨_,e,O⟩ nQ (nD _ _)
  (Vz l its.toArray n b o its2.toArray n2 hc hd hlong (by rw[bB];omega) ()) ⟨e,e2,?_⟩
 calc⟨.non,_,I.lset (its':=its++its2) hH e (by simp) (r.append r2) ?_,O,q⟩;rw[aM];omega
def BX(i:Nat)(f:FE):FE:=λρ=>match xK ρ i with
 |some _=>match f ρ with
  |some (.tup es,ρ1)=>match xK ρ1 i with
   |some ds=>if ds.length+es.length<=1000 then Z (.non,putAt ρ1 i (ds++es))else J
   |none=>J
  |_=>J
 |none=>J
def M7(h:PE X e (tBM G.K "list" (LU G.K) (DU i) (DY (tF G f) IP))):PE X e (tF G (BX i f)):=PE.weak h λσ H Q hh=>by
 sleep 9
 delta BX at e;cases e0:xK ρ i with
 |none=>erw[e0]at e;cases e
 |some ds0=>
  erw[e0]at e;rcases ur (f:=f) (ρ:=ρ)with e1|⟨x,ρ1,e1⟩<;>erw[e1]at e
  .ext e
  .cases x with
   |tup es=>
    cases e2:xK ρ1 i with
    |none=>erw[e2]at e;cases e
    |some ds=>
     erw[e2]at e;split at e
     .rename_i hl;ext e;let#v[a,xs,s1,s2,s3,_]:=Ay R e0;calc⟨.ref a,s1,.inl ⟨O,xs,SqL.of s2⟩,F,ρ,H0,_,ρ1,R,e1,λv H1 H1' s R' rs=>?_⟩;delta Rep at rs;let#v[p,ys,rfl,hp,rs]:=rs;let#v[a',xs',t1,t2,t3,t4]:=Ay R' e2;rw[s1]at t1;ext t1;calc⟨a,p,xs',ys,O,O,t2,SqT.mono R'.sub hp,?_,k _ _ _ s (t4 _ _ (vU t3 rs)) zP⟩;rw[<-tP t3,<- tP rs];show xl hl
     .cases e
   |_=>ext e
end
section
variable{X:Cx}{G:Bg}{H:Hp}
def YI(I:Inv X pins σ H s)(hK:X.K=G.K)(hd:Rep G H d v)(rv:RelV v u)(hc:∀k ns ds,d=.obj k ns ds->LO X.K (G.ca k)):
  ∃HH:Heap->Prop,W.KitX X.K u ((tyD d).val G) HH/\HH s.heap/\u≠.builtin "__main__.__loader__#opaque" := by
 cases d with
 |non=>delta Rep at hd;subst hd;cases (show u=Value.none from rv);show⟨_,p9,True.intro,λz=>nomatch z⟩
 |bl x=>delta Rep at hd;subst hd;cases (show u=Value.bool x from rv);show⟨_,qa,True.intro,λz=>nomatch z⟩
 |int x=>delta Rep at hd;subst hd;let#v[t,q]:=(show ∃t,u=Value.int x t from rv);ext q;show⟨_,W.kitx_int,True.intro,λz=>nomatch z⟩
 |str x=>delta Rep at hd;subst hd;let#v[t,q]:=(show ∃t,u=Value.str x t from rv);ext q;show⟨_,W.kitx_str,True.intro,λz=>nomatch z⟩
 |tup ds=>delta Rep at hd;let#v[a,xs,rfl,h1,h2]:=hd;ext rv;rw[<-hK]at h1;let#v[its,_,#v[o,q1,q2,_],_]:=I.tuple h1;show⟨_,lG,⟨o,q1,q2⟩,λz=>nomatch z⟩
 |lst ds=>delta Rep at hd;let#v[a,xs,rfl,h1,h2]:=hd;ext rv;let#v[_,_,n,_,q]:=(show ObjOk X.prog X.w H s.heap a (.lst xs) from I.hok a _ h1);show⟨_,iA,⟨_,q,O⟩,λz=>nomatch z⟩
 |fzl ds=>delta Rep at hd;let#v[a,xs,rfl,h1,h2]:=hd;ext rv;rw[<-hK]at h1;let#v[its,_,#v[o,n,q1,q2,_],_]:=I.list h1;show⟨_,iA,⟨o,q1,q2⟩,λz=>nomatch z⟩
 |dic ks ds=>delta Rep at hd;let#v[a,ob,xs,rfl,h1,h2,h3]:=hd;ext rv;let#v[_,_,_,vs,_,o,es,ep,q1,q2,_]:=(show ObjOk X.prog X.w H s.heap a (.frz ob (.dK (ks.zip xs))) from I.hok a _ h1);show⟨_,js,⟨o,q1,q2.1⟩,λz=>nomatch z⟩
 |obj k ns ds=>have ci:=hc k ns ds O;delta Rep at hd;let#v[a,dx,xs,rfl,h1,h2,h3]:=hd;ext rv;let#v[mA,A',_]:=DX I.hok h1;let#v[od,At,_]:=A'.look;show⟨_,W.kitx_own (ci.cl.get _) ci.cl.hd ci.ha ci.hn ci.htk ci.hm,At,λz=>nomatch z⟩
def P7(G:Bg)(cs:List Nat):bN:=cs.map λc=>.ref (G.ca c)
def R9(G:Bg)(cs:List Nat):List ae:=cs.map λc=>.ref (G.ca c)
def Sa(cs:List Nat)(r:Vals (P7 G cs) its):its=R9 G cs:=by
 induction cs generalizing its with
 |nil=>ext r;rfl
 |cons c cs ih=>
  cases r with
  |cons r rr=>ext r;show bL _ (ih rr)
def Oq(G:Bg)(cs:List Nat)(t:Ty->Option Bool):Prop:=(∀y b,t y=Z b->W.kitAny G.K (y.val G) (R9 G cs)=Z b)/\∀j b,t (.c j)=Z b->LO G.K (G.ca j)
def M8(ht:Oq G cs t)(hK:X.K=G.K:=by rfl):vT X (.builtin "isinstance") (λxs H Q=>∃d x b tp,xs=[x,.ref tp]/\H tp=Z (.tup (P7 G cs))/\Rep G H d x/\t (tyD d)=Z b/\Q (.bl b) H):=by
 intro pins s σ H xs us Q I r h;let#v[d,x,b,tp,rfl,h1,hd,e,q]:=h;let#v[u,w',rfl,ru,rw']:=vals2 r;ext rw';let#v[HH,AT,z,ne]:=YI I hK hd ru λk ns ds y=>by subst y;rw[hK];show ht.2 k b e
 let#v[_,its,rv,#v[#v[c,dd,da,sl],q1,q2,n,q3]]:=(show ObjOk X.prog X.w H s.heap tp (.tup (P7 G cs)) from I.hok tp _ h1);ext q2;ext q3;have ei:=Sa cs rv;subst ei;show W.kia_tup AT I.kIn z q1 (by rw[hK];show ht.1 _ _ e) ne λtk=>⟨.bl b,H,I.tok _,O,q⟩
def YJ(G:Bg):List Nat->TA
 |[]=>IP
 |c::r=>DY (tC (.ref (G.ca c))) (YJ G r)
theorem Os:∀(cs:List Nat) (σ:St) (H:Hp) (Q:bN->Hp->Prop),Q (P7 G cs) H->YJ G cs σ H Q
 |[],_,_,_,h=>h
 |c::r,σ,H,Q,h=>Os r σ H (λxs H2=>Q (.ref (G.ca c)::xs) H2) h
def Sb(h:PE X e (tCB (λxs H Q=>∃d x b tp,xs=[x,.ref tp]/\H tp=Z (.tup (P7 G cs))/\Rep G H d x/\t (tyD d)=Z b/\Q (.bl b) H) (DY (tF G f) (DY (tTup (YJ G cs)) IP))))(hl:cs.length<=1000:=by decide):PE X e (tF G (c1 (uF t) f)):=PE.weak h λσ H Q hh=>by
 sleep 9
 let#v[x,e1,e2]:=D6 e;delta uF at e2;cases e3:t (tyD x)with
 |none=>rw[e3]at e2;cases e2
 |some b=>
  rw[e3]at e2;ext e2;refine⟨F,ρ,H0,x,ρ',R,e1,λv H1 H1' s R' r=>Os cs _ _ _ ⟨?_,λp hp=>?_⟩⟩
  .delta P7;rw[aq];show xl hl
  .show⟨x,v,b,p,O,tU,Rep.mono (R'.sub.trans (ui hp _)) _ _ r,e3,k _ _ _ (s.trans (ui (R'.h0none hp) _)) (R'.newIm hp _) (wZ b)⟩
end
abbrev one(j:Nat)(led pl:Bool):bU:=⟨7,#[j],[].toArray,0,led,0,pl⟩
abbrev prb(i q:Nat):iw:=⟨i,0,i,q,J⟩
section
variable{j i q:Nat}{led pl:Bool}{h h1:Int}
def AB(i:Nat):(one j led pl).slot i=if j=i then .live 0 else .empty:=by
 by_cases z:j<i
 .have:j≠i:=by omega
  simp[pK,cX,fE,iy,z,this]
 .simp[pK,cX,fE,iy,z]
def run7(i:Nat):kU 7 i - i=0:=by delta kU;split<;>omega
def Ot:(one j led pl).advance (prb i q)=prb ((i * 5+1+q / 32) % 8) (q / 32):=by delta SetTable.advance SetTable.leap;simp[run7]
theorem go_F(e:F 0=h1):∀(f:Nat) (p:iw),dJ (one j led pl) F h f p=dJ (one j led pl) (λ_=>h1) h f p
 |0,p=>rfl
 |f+1,p=>by
  delta dJ;rw[AB];by_cases z:j=p.j
  .rw[ao z];dsimp only;rw[e,go_F e f]
  .rw[ak z]
theorem Ou(hh:h1≠h):∀(n f i q:Nat),q<32 ^ n->n+2<=f->∃j',j'≠j/\dJ (one j led pl) (λ_=>h1) h f (prb i q)=Z (.empty j' J)
 |n,0,i,q,_,hf=>ar hf ()
 |n,f+1,i,q,hq,hf=>by
  delta dJ;rw[AB];by_cases z:j=i
  .rw[ao z];dsimp only;rw[ak (by exists hh),Ot];cases n with
   |zero=>
    let#v[f,rfl]:∃g,f=g+1:=⟨f - 1,by omega⟩;delta dJ;rw[AB];have q0:q=0:=by exists hq
    have:¬j=(i * 5+1+q / 32) % 8:=by subst z q0;omega
    rw[ak this];show⟨_,λe=>this e.symm,O⟩
   |succ n=>show Ou hh n f _ _ (by rw[pT]at hq;omega) ()
  .rw[ak z];show⟨_,λe=>z e.symm,O⟩
def P8(hn:n<=13)(hq:q<32 ^ n):(∃j',j'≠j/\(one j led pl).probe (λ_=>h1) h (prb i q)=Z (.empty j' J))\/(h1=h/\j=i/\(one j led pl).probe (λ_=>h1) h (prb i q)=Z (.candidate j 0 (prb ((i * 5+1+q / 32) % 8) (q / 32)))):=by
 by_cases hh:h1=h
 .by_cases z:j=i
  .right;calc⟨hh,z,?_⟩;subst z hh;change dJ _ _ _ (219+1) _=_;delta dJ;rw[AB,ao O];dsimp only;rw[ao (by simp),Ot]
  .left;calc⟨i,λe=>z e.symm,?_⟩;change dJ _ _ _ (219+1) _=_;delta dJ;rw[AB,ak z]
 .show .inl (Ou hh n 220 i q hq ())
end
section
variable{prog:aO}{w:aF}{A:aP}{E:ae->af->Prop}{s:af}
abbrev TK(prog:aO)(w:aF):=IsTupleKey (um prog w)
def cls_val(n:Nat)(h:gp v=γ):ik n v=pure δ:=by
 cases v with
 |ref a=>simp[gp]at h
 |_=>first|rfl|simp[ik]|(delta ik;rfl)
def Ov(hk:TK prog w s.heap ks a)(h:Q δ s):ah (model prog w) A (ik 8 (.ref a)) Q E s:=by
 have hT:=hk.typeIs;let#v[o,items,n,ho,_,hd,hi]:=hk;delta ik;calc ag (lQ hT ?_);change ah _ _ (pure γ>>=_) _ _ s;calc ag (au ?_);erw[Bool.not_true,fC,if_false];calc ag (ee ho hd ?_);calc ag ?_;change ah _ _ (forIn items _ _) _ _ s;rw[<-nZ];refine kI _ (λrest r s'=>r.1=J/\s'=s/\∀v∈rest,gp v=γ) _ ?_ ?_ _ _ ⟨O,O,hi.byValue⟩
 .rintro v rest r s' ⟨hr,rfl,hall⟩;rw[cls_val _ (hall v aR)];calc ag (au ?_);erw[fC,if_false];show au ⟨O,O,λu hu'=>hall u (aU _ hu')⟩
 .rintro⟨r1,r2⟩ s' ⟨hr,rfl,_⟩;simp only at hr;subst hr;show au h
def VA(n:Nat)(h:gp v=γ):∃b,hashByValue n v=pure b:=by
 cases v with
 |ref a=>simp[gp]at h
 |_=>ext n<;>first|show⟨_,O⟩|(delta hashByValue;show⟨_,O⟩)
theorem VB(hk:TK prog w s.heap ks a)(h:∀b,Q b s):ah (model prog w) A (hashByValue 8 (.ref a)) Q E s:=by
 have hT:=hk.typeIs;let#v[o,items,n,ho,_,hd,hi]:=hk;delta hashByValue;calc ag (iq hT F.slot_tuple_hash.lookup ?_);change ah _ _ (seqItems? (.ref a)>>=_) _ _ s;calc ag (ee ho hd ?_);calc ag ?_;change ah _ _ (forIn items _ _) _ _ s;rw[<-nZ];refine kI _ (λrest r s'=>s'=s/\∀v∈rest,gp v=γ) _ ?_ ?_ _ _ ⟨O,hi.byValue⟩
 .rintro v rest r s' ⟨rfl,hall⟩;let#v[b,hb]:=VA 7 (hall v aR);rw[hb];calc ag (au ?_);ext b
  .show au (au (h _))
  .show au ⟨O,λu hu'=>hall u (aU _ hu')⟩
 .rintro⟨r1,r2⟩ s' ⟨rfl,_⟩;cases r1 with
  |none=>show au (h _)
  |some b=>show au (h _)
def KF{a1:Addr}(h1:TK prog w s.heap k1 a1)(h2:TK prog w s.heap k2 a2)(h:Q δ s):ah (model prog w) A (searchCouldBeSeen (.ref a2) [.ref a1]) Q E s:=by
 delta searchCouldBeSeen;calc ag ?_;change ah _ _ (forIn [Value.ref a1] _ _) _ _ s;refine kI _ (λrest r s'=>r=(J,Unit.unit)/\s'=s/\∀v∈rest,v=.ref a1) _ ?_ ?_ _ _ ⟨O,O,λv hv=>by exists hv⟩
 .rintro v rest r s' ⟨rfl,rfl,hall⟩;obtain rfl:=hall v aR;have go:∀v∈rest,v=Value.ref a1:=λu hu'=>hall u (aU _ hu');dsimp only;split
  .show au ⟨O,O,go⟩
  .calc ag (nq h2 ?_);calc ag (nq h1 ?_);calc ag (Ov h2 ?_);calc ag (Ov h1 ?_);show au ⟨O,O,go⟩
 .rintro r s' ⟨rfl,rfl,_⟩;show au h
theorem Dy{a1:Addr}(hu:A.units<cLine)(t1:TK prog w s.heap k1 a1)(t2:TK prog w s.heap k2 a2)(ne:k1≠k2)
  (ho:s.heap.get? S=Z o) (hd:o.data=.set #[(h1,.ref a1)] ep (one j led pl)) (hQ:∀j',j'≠j->Q (.free j' δ) s):∀(fuel n i q:Nat) (st:Option iw),n<=13->1<=fuel->(i=j->n+2<=fuel)->q<32 ^ n->st.getD ((one j led pl).probeStart h)=prb i q->ah (model prog w) A (setSearchFrom S (.ref a2) h γ fuel st) Q E s
 |0,n,i,q,st,_,hf,_,_,_=>ar hf ()
 |fuel+1,n,i,q,st,hn,_,hf,hq,hst=>by
  delta setSearchFrom;calc ag (dc ho hd O ?_);dsimp only;rw[ak (by simp[oT])];have P:=P8 (led:=led) (pl:=pl) (j:=j) (i:=i) (h:=h) (h1:=h1) hn hq;delta SetTable.probe at P ⊢;rw[hst,go_F (h1:=h1) O];rcases P with ⟨j',hj,e⟩|⟨e1,e2,e⟩
  .rw[e];show au (hQ j' hj)
  .rw[e];dsimp only;rw[show iE (λx:Int×ae=>x.snd) (Array.filter (λx=>x.fst==h) #[(h1,Value.ref a1)]).toList=[.ref a1] by simp[e1]];have hf2:=hf e2.symm;have si:∀led,(one j led pl).sameMemory 0 7=Z γ:=λ_=>O;ext led;refine ag (KF t1 t2 ?_)
   all_goals
    calc ag (cA (wpAny_eqBool_tuple hu t1 t2 ?_));calc ag (dc ho hd O ?_);rw[bj ne];dsimp only;rw[ak #[],si];dsimp only;rw[ao O,AB,ao O];calc ag (wpAny_isSame_ref_self ?_);calc ag (au ?_);cases n with
    |zero=>
     have q0:q=0:=by exists hq
     show Dy hu t1 t2 ne ho hd hQ fuel 0 _ _ _ hn () (λe=>ar e (by subst e2 q0;omega)) (by rw[q0];decide) O
    |succ n=>show Dy hu t1 t2 ne ho hd hQ fuel n _ _ _ () () (λ_=>by omega) (by rw[pT]at hq;omega) O
def Ow{S a2:Addr}{ks:List Key}{o:Obj}{es:Array (Int×ae)}{ep:Nat}{t:bU}{h:Int}{P:Nat->Prop}{Q:Bool->af->Prop}(ho:s.heap.get? S=Z o)(hd:o.data=.set es ep t)(hf:t.fits es.size=γ)(t2:TK prog w s.heap ks a2)
  (hs:∀Q:SetFound->af->Prop,(∀j',P j'->Q (.free j' δ) s)->ah (model prog w) A (setSearch S (.ref a2) h γ) Q E s) (hT:∀j',P j'->(t.put j').1.tooFull=δ) (hz:∀j',P j'->(fF es (t.put j').2 (h,Value.ref a2)).size<=aL)
  (hQ:∀j' pl,P j'->Q γ { s with heap:=s.heap.update S (gz (fF es (t.put j').2 (h,.ref a2)) { (t.put j').1 with plain:=pl }) }):ah (model prog w) A (setAddHashed S (.ref a2) h) Q E s:=by
 delta setAddHashed setAddHashedIn;calc cA (ag (dc ho hd hf ?_));dsimp only;rw[ak (by simp[byScan,Value.scannable])];calc ag (hs _ λj' hj=>?_);dsimp only;calc ag (dc ho hd hf ?_);dsimp only;have fin:∀b:Bool,ah (model prog w) A (do
   storeSet S (fF es (t.put j').2 (h,.ref a2)) (if b=γ then (t.put j').1 else { (t.put j').1 with plain:=δ })
   if (!δ&&(if b=γ then (t.put j').1 else { (t.put j').1 with plain:=δ }).tooFull)=γ then do setRelay S (eQ (es.size+1));pure γ else pure γ) Q E s:=λb=>by
  calc ag (kG ho hd ?_ (hz j' hj));have e:(if b=γ then (t.put j').1 else { (t.put j').1 with plain:=δ })={ (t.put j').1 with plain:=if b=γ then (t.put j').1.plain else δ }:=by ext b<;>rfl
  rw[e,ak (by have:=hT j' hj;delta oU ll at this ⊢;rw[this];decide)];show au (hQ _ _ hj)
 split
 .show ag (VB t2 λb=>fin b)
 .show ag (au (fin γ))
end
section
variable{j i q:Nat}{led pl:Bool}{h h1:Int}
def Hv(i:Nat):(jn 0 0 led).put i=(one i led γ,0):=by simp[lS,jn,cX,fE,iy,fF]
def GE{α:Type}(x y:α):((one j led pl).put i).1.place.size=2/\((one j led pl).put i).1.dummies=[].toArray/\((one j led pl).put i).1.mask=7/\(fF #[x] ((one j led pl).put i).2 y).size=2:=by
 by_cases z:j<i
 .simp[lS,cX,fE,iy,fF,z]
 .simp[lS,cX,fE,iy,fF,z]
end
section
variable{prog:aO}{w:aF}{A:aP}{E:ae->af->Prop}{s:af}
def M9{hp:Heap}(ho:hp.get? S=Z o)(hd:o.data=.set es ep t):(hp.update S (gz es' t')).get? S=Z { o with data:=.set es' (ep+1) t' }:=by have:=eG (gz es' t') ho (by rw[putSet_of es' t' hd];rfl);rw[putSet_of es' t' hd]at this;show this
def Jz{S a:Addr}{ks:List Key}{o:Obj}{ep:Nat}{led:Bool}{h:Int}{Q:Bool->af->Prop}(ho:s.heap.get? S=Z o)(hd:o.data=.set [].toArray ep (.fresh 0 0 led))(t2:TK prog w s.heap ks a)
  (hQ:∀h' j pl,dt S s.heap h'->h'.get? S=Z { o with data:=.set #[(h,.ref a)] (ep+1) (one j led pl) }->Q γ { s with heap:=h' }):ah (model prog w) A (setAddHashed S (.ref a) h) Q E s:=by
 refine Ow (P:=λ_=>True) ho hd O t2 (λQ hq=>?_) (λj' _=>by rw[Hv];rfl) (λj' _=>by rw[Hv,bR];show gu (by decide:1<_)) λj' pl _=>hQ _ j' pl (c7 ..) ?_
 .delta setSearch setSearchFrom;calc ag (dc ho hd O ?_);dsimp only;rw[ak (by simp[oT,jn]),show ∀F p,(jn 0 0 led).probe F h p=Z (.empty p.j p.dummy) from λ_ _=>O];show au (hq _ trivial)
 .rw[M9 ho hd,Hv];rfl
def Na{a1:Addr}(hu:A.units<cLine)(t1:TK prog w s.heap k1 a1)(t2:TK prog w s.heap k2 a2)(ne:k1≠k2)
  (ho:s.heap.get? S=Z o) (hd:o.data=.set #[(h1,.ref a1)] ep (one j led pl))
  (hQ:∀h' es t,dt S s.heap h'->h'.get? S=Z { o with data:=.set es (ep+1) t }->es.size=2->t.fits 2=γ->Q γ { s with heap:=h' }):ah (model prog w) A (setAddHashed S (.ref a2) h) Q E s:=by
 refine Ow (P:=λj'=>j'≠j) ho hd O t2 (λQ hq=>?_) (λj' _=>?_) (λj' _=>by rw[(GE _ _).2.2.2,bR];decide) λj' pl' _=>hQ _ _ _ (c7 ..) (M9 ho hd) (GE _ _).2.2.2 ?_
 .have hb:jr h<32 ^ 13:=by delta jr;omega
  show Dy hu t1 t2 ne ho hd hq 100000 13 (jr h % 8) (jr h) J () () (λ_=>by omega) hb (by change SetTable.Probe.mk _ _ _ _ _=_;rw[run7])
 .let#v[a,b,c,_]:=GE (j:=j) (i:=j') (led:=led) (pl:=pl) 0 0;delta oU ll;rw[a,b,c];rfl
 .let#v[a,b,c,_]:=GE (j:=j) (i:=j') (led:=led) (pl:=pl) 0 0;delta pL ll;dsimp only;rw[a,b,c];rfl
end
section
variable{prog:aO}{w:aF}{A:aP}{R:fY->af->Prop}{I:Addr}{fp wr:List Addr}{GG:Array fW->Array fW->Prop}{PP:Nat->ae->Prop}{SS:Nat->af->Prop}
def TK.kept{h':Heap}(t:TK prog w h ks a)(e:∀o,h.get? a=Z o->h'.get? a=Z o):TK prog w h' ks a:=by let#v[o,its,n,ho,m]:=t;show⟨o,its,n,e o ho,m⟩
def VC(h:Heap)(S:Addr)(n:Nat):Prop:=∃o es ep t,h.get? S=Z o/\o.ExactSet/\o.data=.set es ep t/\es.size<scanBound/\t.fits es.size=γ/\es.size=n
def P9(W:jE prog w A.in1 I fp wr GG 2 PP SS){a1:Addr}(hSf:S∉fp)(ne:k1≠k2)(n1:a1∉S::wr)(n2:a2∉S::wr)(p1:∀v,PP 0 v->v=.ref a1)(p2:∀v,PP 1 v->v=.ref a2)(hu:A.in1.units<cLine)
  (hst:SS 0 s) (t1:TK prog w s.heap k1 a1) (t2:TK prog w s.heap k2 a2) (ho:s.heap.get? S=Z o) (hx:o.ExactSet) (hd:o.data=.set [].toArray ep (.fresh 0 0 led)) (hR:∀s',gM (S::wr) GG s s'->VC s'.heap S 2->R (.ok (.ret .none)) s'):
   cf (model prog w) A (.builtin "set.update.loop" ⟨[.ref S,.ref I],[]⟩) R s:=by
 have hSw:S∉wr:=λz=>hSf ((W).sub _ z);have up:∀b∈wr,b∈S::wr:=λb z=>aU _ z;have q1:a1∉wr:=λz=>n1 (up _ z);have q2:a2∉wr:=λz=>n2 (up _ z);have e1:a1≠S:=λz=>n1 (by rw[z];show aR);have e2:a2≠S:=λz=>n2 (by rw[z];show aR)
 sleep 3
 have u1:TK prog w s1.heap k1 a1:=t1.kept λo=>m1.heap a1 o q1;have u2:TK prog w s1.heap k2 a2:=t2.kept λo=>m1.heap a2 o q2;calc ag (kB hu u1 ?_);calc Jz (m1.heap S _ hSw ho) hd u1 λh' j pl hb hg=>?_;calc au ⟨eA eF _,?_⟩;have st1':=W.frame (0+1) s1 h' _ st1 (de _ (k1.length+1)) λb z o e=>by rw[hb.2 b (λy:b=S=>hSf (by rw[<-y];show z))];show e
 have m1':gM (S::wr) GG s { s1 with heap:=h',toks:=s1.toks+(k1.length+1) }:=(m1.mono up).then_heap (de _ _) λb o z e=>by rw[hb.2 b (λy:b=S=>z (by rw[y];show aR))];show e
 have v1:TK prog w h' k1 a1:=u1.kept λo e=>by rw[hb.2 a1 e1];show e
 have v2:TK prog w h' k2 a2:=u2.kept λo e=>by rw[hb.2 a2 e2];show e
 sleep 10
 change ah _ A.in1 (pyNext (.ref I)>>=_) _ _ _;calc ag (W.item 1 _ _ _ #[] st1' λv s2 hP st2 m2=>?_);obtain rfl:=p2 v hP;change ah _ A.in1 (holding _ (setAdd S _)>>=_) _ _ s2;calc ag (cA ?_);delta setAdd;calc cA ?_;have w1:TK prog w s2.heap k1 a1:=v1.kept λo=>m2.heap a1 o q1;have w2:TK prog w s2.heap k2 a2:=v2.kept λo=>m2.heap a2 o q2;calc ag (kB hu w2 ?_);calc Na hu w1 w2 ne (m2.heap S _ hSw hg) O λh2 es t hb2 hg2 z2 f2=>?_;calc au ⟨eA eF _,?_⟩;have st2':=W.frame (1+1) s2 h2 _ st2 (de _ (k2.length+1)) λb z o e=>by rw[hb2.2 b (λy:b=S=>hSf (by rw[<-y];show z))];show e
 have m2':=gx W.gtrans m1' ((m2.mono up).then_heap (tk:=s2.toks+(k2.length+1)) (de _ _) λb o z e=>by rw[hb2.2 b (λy:b=S=>z (by rw[y];show aR))];show e)
 sleep 10
 change ah _ A.in1 (pyNext (.ref I)>>=_) _ _ _;calc ag (W.done _ _ _ st2' λs3 m3=>?_);change ah _ A.in1 (ret Value.none) _ _ s3;calc au (hR s3 (gx W.gtrans m2' (m3.mono up)) ?_);show⟨_,es,_,t,m3.heap S _ hSw hg2,hx,O,by rw[z2];decide,by rw[z2];show f2,z2⟩
end
def sub_tuple_set:isSubtype (.type "tuple") (.type "set")=pure δ:=by rw[jo];kernel_rfl
def sub_tuple_frozenset:isSubtype (.type "tuple") (.type "frozenset")=pure δ:=by rw[jo];kernel_rfl
section
variable{prog:aO}{w:aF}{A:aP}{E:ae->af->Prop}{s:af}{Q:ae->af->Prop}
abbrev zu(led:Bool):Obj:={ cls:=.type "set", dict:=J,data:=.set [].toArray 0 (.fresh 0 0 led) }
abbrev inK(ks:List Key):Key->Bool:=λj=>(zM ks).any (λz=>decide (z=j))
structure SrcK(prog:aO)(w:aF)(h:Heap)(a:Addr)(items:Array ae)(ks:List Key):Prop where
 len:ks.length=items.size
 key:∀i v (hi:i<ks.length),items[i]?=Z v->(um prog w).is ks[i] v=γ/\v.scannable=γ
 bnd:items.size+1<scanBound
def VE(s:af)(PS:Heap->Prop)(E:ae->af->Prop):fY->af->Prop:=
 wants (λr s2=>r=.none/\∃h2 k2,s2={ s with heap:=h2,toks:=k2 }/\PS h2/\∀b o,b< ~~~s->s.heap.get? b=Z o->h2.get? b=Z o) E
def LV(K:SrcK prog w s.heap ax items ks)(hlt:ax< ~~~s)
  (W:Walks prog w A.in1 (~~~s+1) [~~~s+1,ax] [~~~s+1] items.size (λi v=>items[i]?=Z v) SS) (st:SS 0 ((s.heap.push (zu led)).push itO))
  (hR:∀h2 k2,h2.SetOf (um prog w) (~~~s) (inK ks) (zM ks).length->(∀b o,b< ~~~s->s.heap.get? b=Z o->h2.get? b=Z o)->R (.ok (.ret .none)) { s with heap:=h2,toks:=k2 }) (tk:Nat):
  cf (model prog w) A (.builtin "set.update.loop" ⟨[.ref (~~~s),.ref (~~~s+1)],[]⟩) R { s with heap:=(s.heap.push (zu led)).push itO,toks:=tk }:=by
 have notin: ~~~s∉[~~~s+1,ax]:=by
  intro z;rcases aQ.mp z with z|z
  .show ar z (aV (dq _))
  .show ar (aY.mp z) (dQ hlt)
 have e0:((s.heap.push (zu led)).push itO).get? (~~~s)=Z (zu led):=aC _ (bq _ O);refine R8 W.toS (~~~s) notin ks K.len (λi v hi hv=>K.key i v hi hv) K.bnd (items.size - 0) 0 _ () (cc _) st ?_ λs2 mv S2=>?_
 .show⟨_,[].toArray,0,_,e0,⟨O,O,O⟩,O,λe he=>by simp at he,λk=>by simp[zM],by delta scanBound;decide,by rfl,O⟩
 .let#v[h2,g2,d2,k2,o2]:=s2;have eg:g2=s.gens:=mv.gens;have ed:d2=s.drawn:=mv.drawn;have eo:o2=s.os:=mv.os;subst eg ed eo;calc hR h2 k2 S2 λb o hb e=>mv.heap b o (λz=>?_) (aC _ (aC _ e));rcases aQ.mp z with z|z
  .show ar z (aV hb)
  .show ar (aY.mp z) (aV (dj hb))
theorem Nc(a:ae)(h:Q₁ (.ref (~~~s)) { s with heap:=s.heap.push (zu (!w.params.followText "set-order")) }):
  cf (model prog w) A (.call (.builtin "set.__new__") ⟨[.type "set", a],[]⟩) (wants Q₁ E) s:=by
 calc oZ ?_;change ah _ A.in1 (do checkBuiltinCall "set.__new__" ⟨[.type "set", a],[]⟩;again (.builtin "set.__new__" ⟨[.type "set", a],[]⟩)) _ _ s;calc ag (lY (F.newCall_set_1 a) (au ⟨eA o6 _,gm F.entry_set_new ?_⟩));rw[hZ o6 _];delta cU.«set.__new__» qZ;have hsub:=sub_set_self;let#v[hp,g,d,tk,os]:=s;dsimp only
 wp_walk
 calc kJ (au ?_);dsimp only;erw[newObj];calc ag (wpAny_alloc (au ?_));show au h
theorem BY{PS:Heap->Prop}(ho:s.heap.get? ax=Z o)(hc:o.cls=.type T)
  (u1:isSubtype (.type T) (.type "set")=pure δ) (u2:isSubtype (.type T) (.type "frozenset")=pure δ) (u3:(Value.type T==Value.type "dict")=δ)
  (itr:∀(A:aP) (Q:ae->af->Prop) (E:ae->af->Prop) (s1:af),s1.heap.get? ax=Z o->Q (.ref (~~~s1)) { s1 with heap:=s1.heap.push itO }->ah (model prog w) A (pyIter (.ref ax)) Q E s1)
  (fil:∀tk (R:fY->af->Prop),(∀h2 k2,PS h2->(∀b o,b< ~~~s->s.heap.get? b=Z o->h2.get? b=Z o)->R (.ok (.ret .none)) { s with heap:=h2,toks:=k2 })->
   cf (model prog w) A.in1.in1 (.builtin "set.update.loop" ⟨[.ref (~~~s),.ref (~~~s+1)],[]⟩) R { s with heap:=(s.heap.push (zu (!w.params.followText "set-order"))).push itO,toks:=tk })
  (h:∀h2 k2,PS h2->(∀b o,b< ~~~s->s.heap.get? b=Z o->h2.get? b=Z o)->Q (.ref (~~~s)) { s with heap:=h2,toks:=k2 }):
  ah (model prog w) A (call (.type "set") [.ref ax]) Q E s:=by
 have hlt:ax< ~~~s:=aK ho;let#v[c,tl,hmro]:=eX.mro;have made:=eX.made;have subs:=eX.sub;calc jv (oZ ?_);change ah _ _ (callAny (.type "set") _) _ _ _;calc au ⟨Code.quiet_builtin _ (by decide +kernel),gm F.entry_type_call ?_⟩;rw[Around.under_plain (weight_type_call_type "set" [.ref ax] []) O];have n1:=eX.notType;have n2:=eX.canCreate;have n3:=F.typeCall_set_1 (.ref ax)
 repeat (any_goals (first|assumption|wp_step))
 let led:Bool:=!w.params.followText "set-order";calc gv (Nc (.ref ax) (E:=E) (Q₁:=λv s1=>v=.ref (~~~s)/\s1={ s with heap:=s.heap.push (zu led) }) ⟨O,O⟩) λr s1 hr=>?_;cases r with
 |error e=>show hr
 |ok fl=>
  cases fl with
  |ret v=>
   let#v[rfl,rfl]:=hr;have e0:(s.heap.push (zu led)).get? (~~~s)=Z (zu led):=bq _ O;have ty0:lp { s with heap:=s.heap.push (zu led) } (.ref (~~~s)) "set" := ⟨_,e0,O⟩;have l1:=eX.init.lookup;have l2:=eX.init.bind (.ref (~~~s))
   repeat (any_goals (first|assumption|wp_step))
   refine gv (nF (R:=VE s PS E) eX.init.plain F.entry_set_init (check_set_init_1 ty0 ?_)) λr2 s2 hr2=>?_
   .let#v[oc,od,oda,osl]:=o;ext hc;have e1:(s.heap.push (zu led)).get? ax=Z { cls:=.type T,dict:=od,data:=oda,slots:=osl }:=aC _ ho;delta cU.«set.__init__» noKeywords qX;generalize gP:pyIter=PP
    wp_walk
    subst gP;calc itr _ _ _ _ e1 ?_;calc ag (pj ?_);have ez:(s.heap.push (zu led)).objs.size= ~~~s+1:=b9 _ _;change cf _ _ (.builtin "set.update.loop" ⟨[.ref (~~~s),.ref (s.heap.push (zu led)).objs.size],[]⟩) _ _;rw[ez];calc fil _ _ λh2 k2 S2 kk=>?_;change ah _ _ _ _ _ _;calc au ?_;change ah _ _ (ret Value.none) _ _ _;show au ⟨O,h2,k2,O,S2,kk⟩
   .cases r2 with
    |error e=>show hr2
    |ok fl2=>
     cases fl2 with
     |ret r=>
      let#v[rfl,h2,k2,rfl,S2,kk]:=hr2
      repeat (any_goals (first|assumption|wp_step))
      show h _ _ S2 kk
     |_=>show hr2.elim
  |_=>show hr.elim
end
section
variable{X:Cx}{G:Bg}{H:Hp}{pins:cJ}{σ:St}{s:af}
def Sd(h:(um P w).is k v=γ):v.scannable=γ:=by rcases uU h with ⟨i,t,_,rfl⟩|⟨x,t,_,rfl⟩<;>rfl
def Se{ks:List Key}(r:Vals (ks.map kV) its)(hb:ks.length+1<scanBound):SrcK X.prog X.w s.heap a its.toArray ks:=by
 have hl:ks.length=its.length:=by have:=r.length;rw[aq]at this;show this
 calc⟨by rw[bB];show hl,λi v hi hv=>?_,by rw[bB];omega⟩;have e:(ks.map kV)[i]?=Z (kV ks[i]):=by rw[bC,bg hi];rfl
 let#v[u,hu,ru]:=r.get e;have eu:v=u:=by rw[j9]at hv;rw[hv]at hu;show cy hu
 subst eu;have:=Fu (P:=X.prog) (w:=X.w) ru;show⟨this,Sd this⟩
def Sf{ks:List Key}(I:Inv X pins σ H s)(h:SqT X.K H a (ks.map kV)):TK X.prog X.w s.heap ks a:=by
 let#v[its,r,p,_]:=I.tuple h;let#v[o,ho,hc,n,hd]:=p;calc⟨o,_,n,ho,hc,hd,?_⟩;have gen:∀(ks:List Key) (its:List ae),Vals (ks.map kV) its->PySem.ItemsAre (um X.prog X.w) ks its:=λks=>by
  induction ks with
  |nil=>intro its r;ext r;show .nil
  |cons k ks ih=>intro its r;cases r with|cons h1 h2=>show .cons (Fu h1) (ih _ h2)
 show gen ks its r
def YK(K:av)(H:Hp)(a:Addr)(n:Nat):Prop:=∃ks,(SqL K H a (ks.map kV)\/SqT K H a (ks.map kV))/\ks.length+1<scanBound/\n=(zM ks).length
def YL(K:av)(H:Hp)(a:Addr)(n:Nat):Prop:=YK K H a n\/
 ∃(p q:Addr) (k1 k2:List Key),SqL K H a [.ref p,.ref q]/\SqT K H p (k1.map kV)/\SqT K H q (k2.map kV)/\k1≠k2/\n=2
def VG(X:Cx)(S:av->Hp->Addr->Nat->Prop):Prop:=∀{pins:cJ} {σ:St} {H:Hp} {s:af} {A:aP} {E:ae->af->Prop} {Q:ae->af->Prop} {a:Addr} {n:Nat},Inv X pins σ H s->A.handled=J->A.units+8<cLine->S X.K H a n->
 (∀h2 k2,VC h2 (~~~s) n->(∀b o,b< ~~~s->s.heap.get? b=Z o->h2.get? b=Z o)->Q (.ref (~~~s)) { s with heap:=h2,toks:=k2 })->ah (model X.prog X.w) A (call (.type "set") [.ref a]) Q E s
def abX:VG X (YK):=by
 intro pins σ H s A E Q a n I hh hu hq h;have h3:A.in1.in1.in1.handled=J:=by simp[hh]
 have gt:∀{h2:Heap} {ks:List Key},h2.SetOf (um X.prog X.w) (~~~s) (inK ks) (zM ks).length->VC h2 (~~~s) (zM ks).length:=λS=>by let#v[o,es,ep,t,ho,hex,hd,_,_,hz,hf,hn]:=S;show⟨o,es,ep,t,ho,hex,hd,hz,hf,hn⟩
 have it:∀{o:Obj} {led:Bool},o.isFreed=δ->((s.heap.push (zu led)).push o).get? (~~~s+1)=Z o:=λ{o led} z=>by rw[show ~~~s+1=(s.heap.push (zu led)).objs.size from(b9 _ _).symm];show bq _ z
 obtain⟨ks,hq|hq,hb,rfl⟩:=hq
 .let#v[its,r,p,_]:=I.list hq;let#v[o,ho,hc,n,hd]:=p.isList;have hne:a≠~~~s+1:=aV (dj (aK ho));refine BY ho hc jq iZ #[] (itO:={ cls:=.type "list_iterator", data:=.fields #[.ref a,.int 0 0] })
   (λA Q E s1 e k=>eK ⟨o,e,hc,n,hd⟩ k) (λtk R hR=>LV (Se r hb) (aK ho) (gy h3 _ a hne its.toArray) ⟨⟨_,it O,O,O⟩,⟨o,aC _ (aC _ ho),hc,n,hd⟩⟩ (λh2 k2 S=>hR h2 k2 (gt S)) tk) h
 .let#v[its,r,p,_]:=I.tuple hq;let#v[o,ho,hc,n,hd]:=p;have hne:a≠~~~s+1:=aV (dj (aK ho));refine BY ho hc sub_tuple_set sub_tuple_frozenset #[] (itO:={ cls:=.type "tuple_iterator", data:=.fields #[.ref a,.int 0 0] })
   (λA Q E s1 e k=>kx ⟨o,e,hc,n,hd⟩ k) (λtk R hR=>LV (Se r hb) (aK ho) (Walks.tuple h3 _ a hne its.toArray) ⟨⟨_,it O,O,O⟩,⟨o,aC _ (aC _ ho),hc,n,hd⟩⟩ (λh2 k2 S=>hR h2 k2 (gt S)) tk) h
def abY:VG X (YL):=by
 intro pins σ H s A E Q a n I hh hu hq h;rcases hq with hq|⟨p,q,k1,k2,hq,h1,h2,ne,rfl⟩
 .show abX I hh hu hq h
 have h3:A.in1.in1.in1.handled=J:=by simp[hh]
 sleep 5
 let#v[u,v,rfl,ru,rv]:∃u v,its=[u,v]/\RelV (.ref p) u/\RelV (.ref q) v:=by cases r with|cons c1 r=>cases r with|cons c2 r=>ext r;show⟨_,_,O,c1,c2⟩
 ext ru;ext rv;have t1:=Sf I h1;have t2:=Sf I h2;have far:∀{b:Addr} {ks:List Key},TK X.prog X.w s.heap ks b->b∉~~~s::[~~~s+1]:=λ{b ks} t z=>by
  let#v[o,_,_,e,_]:=t;have:=aK e;rcases aQ.mp z with z|z
  .show ar z (aV this)
  .show ar (aY.mp z) (aV (dj this))
 have notin: ~~~s∉[~~~s+1,a]:=by
  intro z;rcases aQ.mp z with z|z
  .show ar z (aV (dq _))
  .show ar (aY.mp z) (dQ (aK ho))
 refine BY ho hc jq iZ #[] (itO:={ cls:=.type "list_iterator", data:=.fields #[.ref a,.int 0 0] })
  (λA Q E s1 e k=>eK ⟨o,e,hc,n,hd⟩ k) (λtk R hR=>?_) h
 have ke:∀{b:Addr} {o':Obj},s.heap.get? b=Z o'->((s.heap.push (zu (!X.w.params.followText "set-order"))).push { cls:=.type "list_iterator", data:=.fields #[.ref a,.int 0 0] }).get? b=Z o':=λe=>aC _ (aC _ e);refine P9 (gy h3 _ a hne #[.ref p,.ref q]).toS notin ne (far t1) (far t2) (λv e=>(cy e).symm) (λv e=>(cy e).symm) (by change A.units+1+1+1<cLine;omega) ⟨⟨_,it O,O,O⟩,⟨o,ke ho,hc,n,hd⟩⟩ (t1.kept λo=>ke) (t2.kept λo=>ke)
  (aC _ (bq _ O)) ⟨O,O,O⟩ O λs2 mv S2=>?_
 let#v[h2,g2,d2,k2,o2]:=s2;have eg:g2=s.gens:=mv.gens;have ed:d2=s.drawn:=mv.drawn;have eo:o2=s.os:=mv.os;subst eg ed eo;show hR h2 k2 S2 λb o hb e=>mv.heap b o (λz=>by
  rcases aQ.mp z with z|z
  .show ar z (aV hb)
  .show ar (aY.mp z) (aV (dj hb))) (ke e)
def Ox(S:av->Hp->Addr->Nat->Prop)(K:av)(te:TE):TE:=λσ H Q=>te σ H λx H1=>∃a n,x=.ref a/\S K H1 a n/\Q (.int n) H1
def Qa{p2 p3:Pos}(hV:VG X S)(hu:X.A.units+64<cLine)(hc:X.calm=γ)(g1:Gl X "len")(m1:X.mg "len" = J)(g2:Gl X "set")(m2:X.mg "set" = J)(he:PE X e te)
  (z1:aG [Expr.Call (.Name "set" p2) [e] [] p3] X.env=[(δ,eval (.Call (.Name "set" p2) [e] [] p3) X.env)]:=by rfl) (z2:aG [e] X.env=[(δ,eval e X.env)]:=by rfl):PE X (.Call (.Name "len" p1) [.Call (.Name "set" p2) [e] [] p3] [] p4) (Ox S X.K te):=by
 sleep 11
 calc dG (AX I g1 m1 pq ?_ #[] #[]);calc callWith_builtin1 ?_ z1 O;rw[z1];change ah _ _ (spliced [(δ,eval (.Call (.Name "set" p2) [e] [] p3) X.env)]) _ _ s;calc dZ ?_;calc dG (AX I g2 m2 qd ?_ #[] #[]);refine callWith_type1 (thn (wu he zq z2 p3 pins s σ H (λvs H1=>match vs with
  |[x]=>∃a n,x=.ref a/\S X.K H1 a n/\Q (.int n) H1
  |_=>False) I h) λus s1 ⟨vs,H1,I1,r1,q1⟩=>?_) z2 O
 match vs,r1,q1 with
 |[x],r1,q1=>
 let#v[a,n,e1,hq,q]:=q1;subst e1;let#v[u,rfl,ru]:=vals1 r1;ext ru;calc hV I1 (I1.ok.hd hc) () hq λh2 k2 S2 kk=>?_;calc fD ?_;let#v[o,es,ep,t,ho,hex,hd,hz,hf,hn]:=S2;have I2:Inv X pins σ H1 { s1 with heap:=h2,toks:=k2 }:=I1.kept λb o e=>kk b o (aK e) e;calc call_len_set ho hex hd hf (by delta scanBound at hz;omega) ⟨.int n,H1,I2.tok _,⟨_,by rw[hn]⟩,q⟩
def BZ:bw->Option (List Key)
 |[]=>Z []
 |d::ds=>match AA d,BZ ds with
  |some k,Z ks=>Z (k::ks)
  |_,_=>J
theorem AC:∀{ds:bw} {xs:bN} {ks:List Key},Reps G H ds xs->BZ ds=Z ks->xs=ks.map kV
 |[],xs,ks,r,e=>by ext e;delta Reps at r;show r
 |d::ds,xs,ks,r,e=>by
  delta BZ at e;cases e1:AA d with
  |none=>rw[e1]at e;cases e
  |some k=>
   cases e2:BZ ds with
   |none=>rw[e1,e2]at e;cases e
   |some ks'=>rw[e1,e2]at e;ext e;delta Reps at r;let#v[v,r',rfl,h1,h2]:=r;rw[A8 h1 e1,AC h2 e2];rfl
def xO(ds:bw):Option D:=match BZ ds with
 |some ks=>if ks.length<=1000 then Z (.int (zM ks).length)else J
 |none=>J
def YM:bw->Option D
 |[.tup x,.tup y]=>match BZ x,BZ y with
  |some k1,Z k2=>if k1=k2 then J else Z (.int 2)
  |_,_=>J
 |_=>J
def Ec(g:bw->Option D):D->Option D
 |.lst ds=>match xO ds with
  |some r=>Z r
  |none=>g ds
 |.tup ds=>xO ds
 |.fzl ds=>xO ds
 |_=>J
def VH(h:xO ds=Z r):Ec g (.lst ds)=Z r:=by change (match xO ds with|some r=>Z r|none=>g ds)=Z r;rw[h]
def Nd(hK:X.K=G.K)(hO:∀{H a n},YK X.K H a n->S X.K H a n)
  (hg:∀{ds d H1 H1' a xs},g ds=Z d->SqL X.K H1' a xs->Reps G H1 ds xs->ue H1 H1'->∃n:Nat,S X.K H1' a n/\d=.int n)
  (h:PE X e (Ox S X.K (tF G f))):PE X e (tF G (c1 (Ec g) f)):=PE.weak h λσ H Q hh=>by
 sleep 9
 let#v[x,e1,e2]:=D6 e;have key:∀{ds:bw} {xs:bN} {a:Addr} {H1 H1':Hp},xO ds=Z d->Reps G H1 ds xs->ue H0 H1->RelE G F σ ρ' H1 H1'->(SqL X.K H1' a xs\/SqT X.K H1' a xs)->
   ∃a' n,V.ref a=.ref a'/\S X.K H1' a' n/\Q (.int n) H1':=λ{ds xs a H1 H1'} ed rs s R' hq=>by
  delta xO at ed;cases ek:BZ ds with
  |none=>rw[ek]at ed;cases ed
  |some ks=>
   rw[ek]at ed;simp only at ed;split at ed
   .rename_i hl;ext ed;rw[AC rs ek]at hq;show⟨a,_,O,hO ⟨ks,hq,by delta scanBound;omega,O⟩,k _ _ _ s R' (wK _)⟩
   .ext ed
 calc⟨F,ρ,H0,x,ρ',R,e1,λv H1 H1' s R' r=>?_⟩;cases x with
 |lst ds=>
  delta Rep at r;let#v[a,xs,rfl,h1,h2]:=r;have hq:SqL X.K H1' a xs:=SqL.of (R'.sub _ _ h1);replace e2:(match xO ds with|some r=>Z r|none=>g ds)=Z d:=e2;cases e3:xO ds with
  |some r=>rw[e3]at e2;ext e2;show key e3 h2 s R' (.inl hq)
  |none=>rw[e3]at e2;let#v[n,h3,rfl]:=hg e2 hq h2 R'.sub;show⟨a,n,O,h3,k _ _ _ s R' (wK _)⟩
 |tup ds=>delta Rep at r;let#v[a,xs,rfl,h1,h2]:=r;rw[<-hK]at h1;show key e2 h2 s R' (.inr (SqT.mono R'.sub h1))
 |fzl ds=>delta Rep at r;let#v[a,xs,rfl,h1,h2]:=r;rw[<-hK]at h1;show key e2 h2 s R' (.inl (R'.sub.seq h1))
 |_=>ext e2
def VI(hK:X.K=G.K):∀{ds d H1 H1' a xs},YM ds=Z d->SqL X.K H1' a xs->Reps G H1 ds xs->ue H1 H1'->∃n:Nat,YL X.K H1' a n/\d=.int n:=λ{ds d H1 H1' a xs} e2 hq h2 s=>by
 delta YM at e2;split at e2
 .rename_i x y;split at e2
  .rename_i k1 k2 f1 f2;split at e2
   .ext e2
   .rename_i ne;ext e2;delta Reps Reps Reps at h2;let#v[v1,r1,rfl,c1,v2,r2,rfl,c2,rfl]:=h2;delta Rep at c1 c2;let#v[p,ys,rfl,d1,d2]:=c1;let#v[q,zs,rfl,d3,d4]:=c2;rw[<-hK,AC d2 f1]at d1;rw[<-hK,AC d4 f2]at d3;show⟨2,.inr ⟨p,q,k1,k2,hq,SqT.mono s d1,SqT.mono s d3,ne,O⟩,O⟩
  .ext e2
 .ext e2
end
def VJ(h:(um P w).is k v=γ):RelV (kV k) v:=by
 rcases uU h with ⟨i,t,rfl,rfl⟩|⟨x,t,rfl,rfl⟩
 .show⟨t,O⟩
 .show⟨t,O⟩
def Itd(a:Addr)(o:Obj)(kvs:List (Key×V)):It:=
 ⟨λi H=>i<kvs.length/\H a=Z (.frz o (.dK kvs)),λi H x H'=>H'=H/\∃k z,kvs[i]?=Z (k,z)/\x=kV k,λi H=>kvs.length<=i/\H a=Z (.frz o (.dK kvs))⟩
section
variable{X:Cx}{pins:cJ}{σ:St}{H:Hp}{s:af}
def FD(I:Inv X pins σ H s)(e:H a=Z (.frz o (.dK kvs)))(hd:o.data=.dict es ep):
  (a==dw)=δ/\s.heap.get? a=Z o/\∃vs,KV kvs vs/\s.heap.DictAt (um X.prog X.w) a vs ep:=by
 let#v[q0,_,y,vs,r,ob,es',ep',q1,q2,q3,q4]:=(show ObjOk X.prog X.w H s.heap a (.frz o (.dK kvs)) from I.hok a _ e);rw[q0]at q1;ext q1;rw[hd]at q3;ext q3;show⟨y,q0,vs,r,o,es,q0,q2,hd,q4⟩
def YN{kvs:List (Key×V)}{vs:List (Key×ae)}(r:KV kvs vs){i:Nat}{k:Key}{x:ae}(e:vs[i]?=Z (k,x)):∃z,kvs[i]?=Z (k,z):=by
 induction r generalizing i with
 |nil=>cases e
 |@cons p q l l' h _ ih=>
  cases i with
  |zero=>let#v[pk,pv]:=p;ext e;show⟨pv,by rw[show pk=k from h.1];rfl⟩
  |succ i=>show ih e
end
def Qb{K:av}(a it:Addr)(o:Obj)(kvs:List (Key×V)):Turn P w K tg (Itd a o kvs) [it] it (λi h=>∃es ep,o.data=.dict es ep/\h.IsKeyIter it a i kvs.length ep) where
 mem:=by simp
 obj:=λi h st b hb=>by
  have e:b=it:=by exists hb
  subst e;let#v[es,ep,hd,ob,e,c,d]:=st;show⟨ob,e,λv z=>by rw[d]at z;ext z⟩
 keep:=λi h h' st k=>by let#v[es,ep,hd,x]:=st;show⟨es,ep,hd,x.at λo e=>k it (by simp) o e⟩
 item:=by
  sleep 8
  let#v[hi,he]:=hg;let#v[es,ep,hd,ki]:=st;let#v[f0,f1,f2,f3,f4,f5]:=hf it (by simp);let#v[_,_,vs,r,da]:=FD I he hd;have hl:kvs.length=vs.length:=r.length;have hne:a≠it:=λz=>by subst z;rw[he]at f0;ext f0
  have W:=Walks.dictKeys (knd:=um X.prog X.w) (A:=X.A) (I.ok.hd hc) it a hne vs ep;calc W.item i s _ _ () ⟨by rw[<-hl];show ki,da⟩ λv h' tk hv st' kk=>?_;let#v[k,x,hx,hk]:=hv;let#v[z,hz]:=YN r hx;have I1:Inv X pins σ H { s with heap:=h',toks:=tk }:=I.turned (λb o hb e=>kk b o (by exists hb) e) f0 f1 f3 f4 f5;let#v[ki',_]:=st';rw[<-hl]at ki';let#v[ob,e,c,d]:=id ki';show⟨v,O,NZ (s:={ s with heap:=h',toks:=tk }) e c d #[] ⟨kV k,H,I1,VJ hk,⟨O,k,z,hz,O⟩,⟨es,ep,hd,ki'⟩,λb hb=>(hf b hb).1⟩⟩
 done:=by
  sleep 8
  let#v[hi,he]:=hg;let#v[es,ep,hd,ki]:=st;let#v[f0,f1,f2,f3,f4,f5]:=hf it (by simp);let#v[_,_,vs,r,da]:=FD I he hd;have hl:kvs.length=vs.length:=r.length;show wpAny_pyNext_dict_end (I.ok.hd hc) (by rw[<-hl];show ki) da (gf (by rw[<-hl];show hi)) λh' eb=>⟨O,I.turned (t':=s.toks) (λb o hb e=>eb b o hb e) f0 f1 f3 f4 f5⟩
 self:=λ_ _ _ _ _ st h=>by let#v[es,ep,hd,ki]:=st;show wpAny_pyIter_keyiter ki h
section
variable{X:Cx}{G:Bg}{tg:Expr}
def iDic(tl:TE):TI:=λσ H R=>tl σ H λx H1=>∃a o kvs,x=.ref a/\H1 a=Z (.frz o (.dK kvs))/\R (Itd a o kvs) H1
def VL(hl:PE X l tl):PI X tg l (iDic tl):=by
 intro pins s σ H R I h;calc thn (hl pins s σ H _ I h) λv s1 zz=>?_;let#v[x,H1,I1,r1,q1]:=zz;let#v[a,o,kvs,e,he,q]:=q1;subst e;ext r1;let#v[q0,_,y,vs,r,ob,es,ep,e1,e2,e3,e4]:=(show ObjOk X.prog X.w H1 s1.heap a (.frz o (.dK kvs)) from I1.hok a _ he);rw[q0]at e1;ext e1;have hl:kvs.length=vs.length:=r.length;calc wpAny_pyIter_dict (knd:=um X.prog X.w) (kvs:=vs) (ep:=ep) y ⟨o,es,q0,e2,e3,e4⟩ ?_;calc⟨~~~s1,[~~~s1],_,_,H1,O,I1.kept (t':=s1.toks) λb o e=>aC _ e,Qb a _ o kvs,⟨es,ep,e3,⟨_,bq _ O,O,by rw[hl];rfl⟩⟩,λb hb=>?_,q⟩;have e:b= ~~~s1:=by exists hb
 subst e;show I1.fpOk (aS _) (I1.hok.fresh (aS _))
def YO:Key->D
 |.inl i=>.int i
 |.inr x=>.str x
def VM(k:Key):Rep G H (YO k) (kV k):=by
 cases k with
 |inl i=>show wK i
 |inr x=>show A2 x
def iD(f:FE):FA:=λρ=>match f ρ with
 |some (.dic ks ds,ρ1)=>if ks.length=ds.length then Z (ks.map YO,ρ1)else J
 |_=>J
def Sg(h:PI X tg e (iDic (tF G f))):PI X tg e (tFI G (iD f)):=PI.weak h λσ H R hh=>by
 let#v[F,ρ,H0,ds,ρ',R,e,k]:=hh;delta iD at e;split at e
 .rename_i ks ds' ρ1 e1;split at e
  .rename_i hlen
   sleep 6
   let#v[a,o,xs,rfl,r1,r2,r3]:=r;have hz:(ks.zip xs).length=ks.length:=by rw[ir,<- r2,ix]
   refine⟨a,o,_,O,R'.sub _ _ r1,k _ _ _ s R' λi H2 H2' t t'=>⟨λd ed=>?_,λhl=>?_⟩⟩
   .rw[bC]at ed;cases ek:ks[i]? with
    |none=>rw[ek]at ed;cases ed
    |some j=>
     rw[ek]at ed;ext ed;have hi:i<ks.length:=(ck.mp ek).1;calc⟨⟨by rw[hz];show hi,t' _ _ (t _ _ r1)⟩,λz H3 y=>?_⟩;let#v[e3,k',z',hk',rfl]:=y;subst e3;have:k'=j:=by rw[List.getElem?_zip_eq_some]at hk';have:=hk'.1;rw[ek]at this;show(cy this).symm
     subst this;show⟨H2,ue.refl _,t',ue.refl _,λb o e=>.inl e,VM _⟩
   .refine⟨by rw[hz,hl,aq];show aS _,t' _ _ (t _ _ r1)⟩
  .ext e
 .ext e
end
section
variable{X:Cx}{pins:cJ}{σ:St}{H:Hp}{s:af}
def Inv.turnedLaid{h':Heap}{T:Addr}{xs:bN}{t':Nat}{ch:List Addr}(I:Inv X pins σ H s)(hf:∀b∈ch,IM X pins H b)(k:∀b o,b∉ch->s.heap.get? b=Z o->h'.get? b=Z o)
  (hT: ~~~s<=T) (new:ObjOk X.prog X.w (upd H T (.tup xs)) h' T (.tup xs)):Inv X pins σ (upd H T (.tup xs)) { s with heap:=h',toks:=t' }:=by
 have nT:H T=J:=I.hok.fresh hT;have ne:∀{b:Addr} {u:HO},H b=Z u->b≠T:=λe z=>by subst z;rw[nT]at e;ext e
 have nch:∀{b:Addr} {u:HO},H b=Z u->b∉ch:=λe z=>by have:=(hf _ z).1;rw[e]at this;ext this
 have lt:∀{b:Addr} {o:Obj},s.heap.get? b=Z o->b≠T:=λe z=>by subst z;show ar (bY (aK e) hT) (dN _)
 refine I.step (g':=s.gens) (d':=s.drawn) (ch:=ch) (λb hb=>?_) (λb o _ _ hc e _=>k b o hc e) (λb o _ _ hc e _=>⟨o.slots,k b o hc e⟩) (λb o _ e n=>by rw[tT (lt e)];show n) (λb o hc e=>⟨o,k b o hc e⟩)
  (λb ys e=>by rw[tT (ne e)];show e) (λb o u e=>by rw[tT (ne e)];show e) (λb ps e=>⟨[].toArray,by rw[tT (ne e),e];simp⟩) (λm hm=>?_) (λb u e=>?_) I.bare
 .let#v[f0,f1,f2,f3,f4,f5]:=hf b hb;show⟨f3,f1,f4,f5⟩
 .show hm.at' λo e=>k _ o (λz=>(hf _ z).2.1 O) e
 .by_cases hb:b=T
  .subst hb;rw[tU]at e;ext e;show new
  .rw[tT hb]at e;refine(I.hok b u e).stay (λc v hc q=>k c v ?_ q) (λc q=>by rw[tT (ne q)];show q) λc ys q=>by rw[tT (ne q)];show q
   rcases hc with rfl|hc
   .show nch e
   .show nch hc
end
structure YQ(z TI TO i1 i2:Addr):Prop where
 a:TI≠z
 b:TO≠z
 c:i1≠z
 d:i2≠z
 e:TI≠TO
 f:TI≠i1
 g:TI≠i2
 h:TO≠i1
 i:TO≠i2
 j:i1≠i2
def YR(n:Nat):YQ (n+4) (n+2) (n+3) n (n+1) where
 a:=(by omega:(n+2:Nat)≠n+4)
 b:=(by omega:(n+3:Nat)≠n+4)
 c:=(by omega:(n:Nat)≠n+4)
 d:=(by omega:(n+1:Nat)≠n+4)
 e:=(by omega:(n+2:Nat)≠n+3)
 f:=(by omega:(n+2:Nat)≠n)
 g:=(by omega:(n+2:Nat)≠n+1)
 h:=(by omega:(n+3:Nat)≠n)
 i:=(by omega:(n+3:Nat)≠n+1)
 j:=(by omega:(n:Nat)≠n+1)
section
variable{X:Cx}{G:Bg}{elts:List Expr}{x1:Nat}{tpos:Pos}
def Nf(ds es:bw):bw:=eW (λd e=>D.tup [d,e]) ds es
def Sh(ds es:bw):(Nf ds es).length=min ds.length es.length:=by delta Nf;rw[i5]
end
mutual
def noC(N c:Nat):D->Bool
 |.non=>γ
 |.bl _=>γ
 |.int _=>γ
 |.str _=>γ
 |.tup ds=>yM N c ds
 |.lst ds=>yM N c ds
 |.fzl ds=>yM N c ds
 |.obj k _ ds=>decide (k<N)&&decide (k≠c)&&yM N c ds
 |.dic _ ds=>yM N c ds
def yM(N c:Nat):bw->Bool
 |[]=>γ
 |d::ds=>noC N c d&&yM N c ds
end
def without(H:Hp)(a:Addr):Hp:=λb=>if b=a then J else H b
def Hw(h:b≠a):without H a b=H b:=by delta without;rw[ak h]
def Ed(h:without H a b=Z o):b≠a/\H b=Z o:=by
 delta without at h;by_cases hb:b=a
 .rw[ao hb]at h;ext h
 .rw[ak hb]at h;show⟨hb,h⟩
def xp(ha:H a=Z u)(hb:H b=Z v)(d:u≠v):without H a b=Z v:=by rw[Hw (λz=>by subst z;rw[ha]at hb;show d (cy hb))];show hb
section
variable{G:Bg}{H:Hp}{a dx:Addr}{fs:List (Str×V)}{N c:Nat}
def LW(ha:H a=Z (.ins (G.ca c) dx fs))(h:SqT G.K H p xs):SqT G.K (without H a) p xs:=by
 rcases h with (h|⟨o,h⟩)|h
 .show .inl (.inl (xp ha h (λz=>nomatch z)))
 .show .inl (.inr ⟨o,xp ha h (λz=>nomatch z)⟩)
 .show .inr h
def LX(ha:H a=Z (.ins (G.ca c) dx fs))(h:SqL G.K H p xs):SqL G.K (without H a) p xs:=by
 rcases h with (h|⟨o,h⟩)|h
 .show .inl (.inl (xp ha h (λz=>nomatch z)))
 .show .inl (.inr ⟨o,xp ha h (λz=>nomatch z)⟩)
 .show .inr h
mutual
theorem FH(inj:∀j k,j<N->k<N->G.ca j=G.ca k->j=k)(hc:c<N)(ha:H a=Z (.ins (G.ca c) dx fs)):∀(d:D) (v:V),noC N c d=γ->Rep G H d v->Rep G (without H a) d v
 |.non,v,_,h=>by delta Rep at h ⊢;show h
 |.bl _,v,_,h=>by delta Rep at h ⊢;show h
 |.int _,v,_,h=>by delta Rep at h ⊢;show h
 |.str _,v,_,h=>by delta Rep at h ⊢;show h
 |.tup ds,v,n,h=>by delta noC at n;delta Rep at h ⊢;let#v[p,xs,e,h1,h2]:=h;show⟨p,xs,e,LW ha h1,wL inj hc ha ds xs n h2⟩
 |.lst ds,v,n,h=>by delta noC at n;delta Rep at h ⊢;let#v[p,xs,e,h1,h2]:=h;show⟨p,xs,e,xp ha h1 (λz=>nomatch z),wL inj hc ha ds xs n h2⟩
 |.fzl ds,v,n,h=>by delta noC at n;delta Rep at h ⊢;let#v[p,xs,e,h1,h2]:=h;show⟨p,xs,e,LX ha h1,wL inj hc ha ds xs n h2⟩
 |.obj k ns ds,v,n,h=>by delta noC at n;erw[aW,b8]at n;delta Rep at h ⊢;let#v[p,dx',xs,e,h1,h2,h3]:=h;calc⟨p,dx',xs,e,xp ha h1 (λz=>?_),h2,wL inj hc ha ds xs n.2 h3⟩;injection z with z1;show n.1.2 (inj k c n.1.1 hc z1.symm)
 |.dic ks ds,v,n,h=>by delta noC at n;delta Rep at h ⊢;let#v[p,o,xs,e,h1,h2,h3]:=h;show⟨p,o,xs,e,xp ha h1 (λz=>nomatch z),h2,wL inj hc ha ds xs n h3⟩
theorem wL(inj:∀j k,j<N->k<N->G.ca j=G.ca k->j=k)(hc:c<N)(ha:H a=Z (.ins (G.ca c) dx fs)):∀(ds:bw) (xs:bN),yM N c ds=γ->Reps G H ds xs->Reps G (without H a) ds xs
 |[],xs,_,h=>by delta Reps at h ⊢;show h
 |d::ds,xs,n,h=>by delta yM at n;erw[aW]at n;delta Reps at h ⊢;let#v[v,r,e,h1,h2]:=h;show⟨v,r,e,FH inj hc ha d v n.1 h1,wL inj hc ha ds r n.2 h2⟩
end
end
def Ad:Sl->Sl
 |.im d=>.im d
 |_=>.un
def CW(N:Nat)(f:FE):FE:=λρ=>match ρ with
 |.ob c ns ds::r=>match f (.im (.obj c ns ds)::r.map Ad)with
  |some (d,_)=>if (decide (c<N)&&noC N c d)=γ then Z (d,ρ)else J
  |none=>J
 |_=>J
section
variable{X:Cx}{G:Bg}
def Ng:(Ad s).own=δ:=by ext s<;>rfl
def VN(inj:∀j k,j<N->k<N->G.ca j=G.ca k->j=k)(h:PE X e (tF G f)):PE X e (tF G (CW N f)):=PE.weak h λσ H Q hh=>by
 sleep 9
 delta CW at e;split at e
 .rename_i c ns ds r;rcases ur (f:=f) (ρ:=.im (.obj c ns ds)::r.map Ad)with e1|⟨x,ρ1,e1⟩<;>erw[e1]at e
  .ext e
  split at e
  .rename_i hn;ext e;erw[aW,b8]at hn;let#v[a,dx,xs,h1,h2,h3,h4,h5,h6]:=R.sl 0 _ O;have RL:RelE G ⟨upd H0 a (.ins (G.ca c) dx (ns.zip xs)),H,[]⟩ σ (.im (.obj c ns ds)::r.map Ad) (upd H0 a (.ins (G.ca c) dx (ns.zip xs))) H:={
    sub:=λb o q=>by
     by_cases hb:b=a
     .subst hb;rw[tU]at q;ext q;show h2
     .rw[tT hb]at q;show R.sub _ _ q
    g0:=ue.refl _
    keep:=λb o q _=>q
    fr:=λb o q=>.inl q
    am:=λb q=>by ext q
    len:=by have:=R.len;exists this
    sl:=λi s q=>by
     cases i with
     |zero=>ext q;show⟨.ref a,h1,by delta Rep;show⟨a,dx,xs,O,tU,h5,Reps.mono (ui h3 _) _ _ h6⟩⟩
     |succ i=>
      have q':(r.map Ad)[i]?=Z s:=q;rw[bC]at q';cases q1:r[i]? with
      |none=>rw[q1]at q';cases q'
      |some t=>
       rw[q1]at q';ext q';have ok:=R.sl (i+1) t q1;cases t with
       |im d=>let#v[v,g1,g2]:=ok;show⟨v,g1,Rep.mono (ui h3 _) _ _ g2⟩
       |_=>trivial
    ap:=λi j s t b _ qi _ so=>by
     cases i with
     |zero=>ext qi;cases so
     |succ i=>
      have q':(r.map Ad)[i]?=Z s:=qi;rw[bC]at q';cases q1:r[i]? with
      |none=>rw[q1]at q';cases q'
      |some t=>rw[q1]at q';ext q';rw[Ng]at so;cases so }
   calc⟨_,_,_,d,ρ1,RL,e1,λv H1 H1' s R' rd=>?_⟩;have ha:H1 a=Z (.ins (G.ca c) dx (ns.zip xs)):=s _ _ tU;have s0:ue H0 (without H1 a):=λb o q=>by
    have hb:b≠a:=λz=>by subst z;rw[h3]at q;ext q
    rw[Hw hb];show s b o (by rw[tT hb];show q)
   calc k v (without H1 a) H1' s0 ?_ (FH inj hn.1 ha d v hn.2 rd);calc R.grow (λb o q=>R'.keep b o q (by simp)) s0 (λb o q=>R'.sub _ _ (Ed q).2) λb o q=>?_;let#v[hb,q]:=Ed q;rcases R'.fr b o q with z|z
   .have z':upd H0 a (.ins (G.ca c) dx (ns.zip xs)) b=Z o:=z;rw[tT hb]at z';show .inl z'
   .show .inr z
  .ext e
 .ext e
end
section
variable{X:Cx}{pins:cJ}{σ:St}{H:Hp}{s:af}{a:Addr}{A:aP}{E:ae->af->Prop}
theorem YS(I:Inv X pins σ H s)(e:H a=Z (.dK kvs))(ry:RelV (kV k) u)(rz:RelV z r)(hl:kvs.length<aL)
  (h1:∀v w s',xG kvs k=Z v->Inv X pins σ H s'->RelV v w->Q w s') (h2:∀s',xG kvs k=J->Inv X pins σ (upd H a (.dK (putK kvs k z))) s'->Q r s'):
  ah (model X.prog X.w) A (call (.builtin "dict.setdefault") [.ref a,u,r]) Q E s:=by
 let#v[y,hd,vs,rel,dd]:=WA I.hok e;have hz:vs.length<=aL:=by rw[<-rel.length];show y
 have hp:(putK kvs k z).length<=aL:=by have:=BO kvs k z;omega
 have rv:=rel.val k;refine gw ng dd.typeIs F.entry_dict_setdefault (F.args_dict_setdefault_3 _ _ _) (kt_meets_setdefault (um X.prog X.w) a (Fu ry) hd r) ⟨vs,dd,hz,λw hw=>?_,λhn h' dd' hs=>?_⟩
 .rw[hw]at rv;cases ev:xG kvs k with
  |none=>rw[ev]at rv;show rv.elim
  |some v=>rw[ev]at rv;show h1 v w _ ev (I.tok _) rv
 .rw[hn]at rv;cases ev:xG kvs k with
  |some v=>rw[ev]at rv;show rv.elim
  |none=>have he:∃q,h'.get? a=Z q:=let ⟨q,_,_,hq,_⟩:=dd';⟨q,hq⟩;show h2 _ ev (Kr I (by rw[e];show True.intro) hs he (Q3 hp hd (rel.put k rz) dd'))
def Si(td ty tx:TE):TE:=λσ H Q=>td σ H λx H1=>∃a,x=.ref a/\IsD H1 a/\ty σ H1 λy H2=>tx σ H2 λz H3=>∃kvs k,H3 a=Z (.dK kvs)/\y=kV k/\kvs.length<aL/\
 (∀v,xG kvs k=Z v->Q v H3)/\(xG kvs k=J->Q z (upd H3 a (.dK (putK kvs k z))))
theorem Sj(ho:PE X o td)(he:PE X e ty)(hf:PE X f tx)(m:M2 X o "setdefault" apos e f cpos):PE X (.Call (.Attribute o "setdefault" apos) [e,f] [] cpos) (Si td ty tx):=by
 sleep 11
 calc jc m.base m.few m.line je ng F.type_dict_setdefault (thn (ho pins s σ H _ I h) λu s1 zz=>?_);let#v[x,H1,I1,rx,a,ex,d,q1]:=zz;subst ex;obtain rfl:u=Value.ref a:=rx;let#v[t1,t2,_]:=Ks I1 d;calc⟨t1,t2,?_⟩;rw[m.trees];refine hJ O (ia (dZ (thn (he pins s1 σ H1 _ I1 q1) λiv s2 ⟨y,H2,I2,ry,q2⟩=>
  dZ (thn (hf pins s2 σ H2 _ I2 q2) λfv s3 ⟨z,H3,I3,rz,kvs,k,e3,ey,hl,g1,g2⟩=>fD ?_))))
 subst ey;show YS I3 e3 ry rz hl (λv w s' ev I' rw'=>⟨v,H3,I',rw',g1 v ev⟩) λs' ev I'=>⟨z,_,I',rz,g2 ev⟩
end
def A9(ks:List Key)(dss:List bw)(k:Key)(d:D):List Key×List bw:=
 if Gu ks k=γ then (ks,eW (λk' ds=>if k'=k then ds++[d]else ds) ks dss)else (ks++[k],dss++[[d]])
def Ee:Gu ks k=γ ↔ k∈ks:=by delta Gu;rw[ip];show⟨λ⟨x,h1,h2⟩=>bF h2▸h1,λh=>⟨k,h,bh O⟩⟩
def Sk{ks:List Key}{vs:bN}:ks.length=vs.length->xG (ks.zip vs) k=Z v->∃j:Nat,ks[j]?=Z k/\vs[j]?=Z v:=by
 induction ks generalizing vs with
 |nil=>intro _ h;cases h
 |cons k0 ks ih=>
  intro hl h;cases vs with
  |nil=>cases hl
  |cons v0 vs=>
   delta xG at h;rw[eJ,d9]at h;by_cases e:k0=k
   .subst e;erw[decide_true]at h;ext h;show⟨0,O,O⟩
   .erw[e,decide_false]at h;let#v[j,h1,h2]:=ih (by exists hl) h;show⟨j+1,h1,h2⟩
def Sm{ks:List Key}{vs:bN}:ks.length=vs.length->xG (ks.zip vs) k=J->k∉ks:=by
 induction ks generalizing vs with
 |nil=>intro _ _ h;cases h
 |cons k0 ks ih=>
  intro hl h hm;cases vs with
  |nil=>cases hl
  |cons v0 vs=>
   delta xG at h;rw[eJ,d9]at h;by_cases e:k0=k
   .subst e;erw[decide_true]at h;ext h
   .erw[e,decide_false]at h;rcases aQ.mp hm with z|z
    .show e z.symm
    .show ih (by exists hl) h z
structure Grp(G:Bg)(F:Fr)(H0 H:Hp)(a:Addr)(ks:List Key)(dss:List bw)(bs:List Addr):Prop where
 at_:H a=Z (.dK (ks.zip (bs.map V.ref)))
 n0:H0 a=J
 nB:F.B a=J
 len:ks.length=bs.length
 len':bs.length=dss.length
 nd:bs.Nodup
 kd:ks.Nodup
 each:∀(i:Nat) (b:Addr) (ds:bw),bs[i]?=Z b->dss[i]?=Z ds->∃xs,H b=Z (.lst xs)/\H0 b=J/\F.B b=J/\Reps G H0 ds xs
section
variable{G:Bg}{F:Fr}{σ:St}{ρ:aJ}{H0 H H0' H':Hp}{a:Addr}{ks:List Key}{dss:List bw}{bs:List Addr}
def Grp.grow(g:Grp G F H0 H a ks dss bs)(hs:ue H H')(h0:ue H0 H0')(hf:∀b o,H0' b=Z o->H0 b=Z o\/H b=J):Grp G F H0' H' a ks dss bs where
 at_:=hs _ _ g.at_
 n0:=by
  cases q:H0' a with
  |none=>rfl
  |some o=>
   rcases hf a o q with z|z
   .rw[g.n0]at z;ext z
   .rw[g.at_]at z;ext z
 nB:=g.nB
 len:=g.len
 len':=g.len'
 nd:=g.nd
 kd:=g.kd
 each:=λi b ds e1 e2=>by
  let#v[xs,q1,q2,q3,q4]:=g.each i b ds e1 e2;calc⟨xs,hs _ _ q1,?_,q3,Reps.mono h0 _ _ q4⟩;cases q:H0' b with
  |none=>rfl
  |some o=>
   rcases hf b o q with z|z
   .rw[q2]at z;ext z
   .rw[q1]at z;ext z
def RelE.still(R:RelE G F σ ρ H0 H)(no:∀s∈ρ,s.own=δ):RelE G ⟨H0,H,[]⟩ σ ρ H0 H where
 sub:=R.sub
 g0:=ue.refl _
 keep:=λb o e _=>e
 fr:=λb o e=>.inl e
 am:=λa h=>by ext h
 len:=R.len
 sl:=λi s e=>by
  have ok:=R.sl i s e;have n:=no s (cG e);cases s with
  |un=>trivial
  |im d=>show ok
  |_=>ext n
 ap:=λi j s t b _ e _ so=>by rw[no s (cG e)]at so;ext so
theorem RelE.touch(R:RelE G F σ ρ H0 H)(no:∀s∈ρ,s.own=δ)(hk:∀b o,H b=Z o->(H0 b≠J\/F.B b≠J)->H' b=Z o)(ha:∀b o,H b=Z o->∃o',H' b=Z o'):RelE G F σ ρ H0 H' where
 sub:=λb o e=>hk b o (R.sub _ _ e) (.inl (by rw[e];show λz=>nomatch z))
 g0:=R.g0
 keep:=λb o e n=>hk b o (R.keep b o e n) (.inr (by rw[e];show λz=>nomatch z))
 fr:=R.fr
 am:=λb hb=>by let#v[o,e]:=R.am b hb;show ha b o e
 len:=R.len
 sl:=λi s e=>by
  have ok:=R.sl i s e;have n:=no s (cG e);cases s with
  |un=>trivial
  |im d=>show ok
  |_=>ext n
 ap:=λi j s t b _ e _ so=>by rw[no s (cG e)]at so;ext so
def YT{bs:List Addr}(h:bs.Nodup){i j:Nat}{b:Addr}(e1:bs[i]?=Z b)(e2:bs[j]?=Z b):i=j:=by let#v[h1,q1]:=ck.mp e1;let#v[h2,q2]:=ck.mp e2;show(kH h).mp (q1.trans q2.symm)
def YU{ks:List Key}(h:ks.Nodup){i j:Nat}{b:Key}(e1:ks[i]?=Z b)(e2:ks[j]?=Z b):i=j:=by let#v[h1,q1]:=ck.mp e1;let#v[h2,q2]:=ck.mp e2;show(kH h).mp (q1.trans q2.symm)
def Grp.more(g:Grp G F H0 H a ks dss bs){j:Nat}{k:Key}{b:Addr}{d:D}{v:V}{xs:bN}(ek:ks[j]?=Z k)(eb:bs[j]?=Z b)(hx:H b=Z (.lst xs))(rd:Rep G H0 d v):
  Grp G F H0 (upd H b (.lst (xs++[v]))) a (A9 ks dss k d).1 (A9 ks dss k d).2 bs:=by
 have hm:Gu ks k=γ:=Ee.mpr (cG ek);delta A9;rw[ao hm];have ne:a≠b:=λz=>by subst z;rw[g.at_]at hx;ext hx
 refine⟨by rw[tT ne];show g.at_,g.n0,g.nB,g.len,?_,g.nd,g.kd,λi c ds e1 e2=>?_⟩
 .rw[i5,<- g.len',<- g.len,ix,g.len]
 .rw[nr]at e2;cases q1:ks[i]? with
  |none=>rw[q1]at e2;cases e2
  |some k'=>
   cases q2:dss[i]? with
   |none=>rw[q1,q2]at e2;cases e2
   |some ds'=>
    rw[q1,q2]at e2;ext e2;let#v[ys,w1,w2,w3,w4]:=g.each i c ds' e1 q2;by_cases hk:k'=k
    .subst hk;have ij:=YU g.kd q1 ek;subst ij;rw[e1]at eb;ext eb;rw[w1]at hx;ext hx;rw[ao O];show⟨_,tU,w2,w3,vU w4 (uD rd uy)⟩
    .rw[ak hk];have nc:c≠b:=λz=>by subst z;have ij:=YT g.nd e1 eb;subst ij;rw[q1]at ek;ext ek;show hk O
     show⟨ys,by rw[tT nc];show w1,w2,w3,w4⟩
theorem Grp.fresh(g:Grp G F H0 H a ks dss bs)(hk:k∉ks)(hp:H p=J)(h0:H0 p=J)(hB:F.B p=J)(rd:Rep G H0 d v):
  Grp G F H0 (upd (upd (upd H p (.lst [])) a (.dK ((ks++[k]).zip ((bs++[p]).map V.ref)))) p (.lst [v])) a (A9 ks dss k d).1 (A9 ks dss k d).2 (bs++[p]):=by
 have hm:¬Gu ks k=γ:=λz=>hk (Ee.mp z);delta A9;rw[ak hm];have ne:a≠p:=λz=>by subst z;rw[g.at_]at hp;ext hp
 have np:p∉bs:=λz=>by
  let#v[i,hi,e]:=ko z;have e1:bs[i]?=Z p:=by rw[bg hi,e]
  let#v[ds,e2]:∃ds,dss[i]?=Z ds:=⟨dss[i]'(by rw[<-g.len'];show hi),bg _⟩;let#v[ys,w1,_]:=g.each i p ds e1 e2;rw[hp]at w1;ext w1
 refine⟨by rw[tT ne,tU],g.n0,g.nB,by simp[g.len],by simp[g.len'],?_,?_,λi c ds e1 e2=>?_⟩
 .rw[cq];calc⟨g.nd,by simp,λx hx y hy=>?_⟩;rw[aY]at hy;subst hy;show λz=>np (z▸hx)
 .rw[cq];calc⟨g.kd,by simp,λx hx y hy=>?_⟩;rw[aY]at hy;subst hy;show λz=>hk (z▸hx)
 .by_cases hi:i<bs.length
  .rw[fz hi]at e1;rw[fz (by rw[<-g.len'];show hi)]at e2;let#v[ys,w1,w2,w3,w4]:=g.each i c ds e1 e2;have nc:c≠p:=λz=>np (z▸cG e1);have na:c≠a:=λz=>by subst z;rw[g.at_]at w1;ext w1
   show⟨ys,by rw[tT nc,tT na,tT nc];show w1,w2,w3,w4⟩
  .have hi':i=bs.length:=by have:i<(bs++[p]).length:=(ck.mp e1).1;rw[aM,cW]at this;omega
   subst hi';rw[fw (aS _),pU]at e1;rw[g.len',fw (aS _),pU]at e2;ext e1;ext e2;show⟨[v],tU,h0,hB,uD rd uy⟩
def LY(G:Bg)(fk:FE):TS:=Ws (tBM G.K "list" Kq (Si (DU 1) (tF G fk) (tLst IP)) (DY (DU 2) IP))
theorem Sn{D0:Ends}{vr:V}(R:RelE G F σ ρ H0 H)(no:∀s∈ρ,s.own=δ)(h1:σ[1]?=Z (Z (.ref a)))(h2:σ[2]?=Z (Z vr))(rd:Rep G H0 d vr)
  (g:Grp G F H0 H a ks dss bs) (hk:fk ρ=Z (x,ρ)) (ek:AA x=Z k) (l1:ks.length<1000) (l2:∀ds∈dss,ds.length<1000)
  (kont:∀Hi Hj bs',ue H0 Hi->RelE G F σ ρ Hi Hj->Grp G F Hi Hj a (A9 ks dss k d).1 (A9 ks dss k d).2 bs'->D0.nx σ Hj):LY G fk D0 σ H:=by
 calc⟨.ref a,h1,a,O,.inl ⟨_,.inl g.at_⟩,_,_,_,x,ρ,RelE.still R no,hk,λv H1 H1' s R1 r=>?_⟩;have hs:ue H H1':=λb o e=>R1.keep b o e (by simp);have hf:∀b o,H1 b=Z o->H0 b=Z o\/H b=J:=R1.fr;have R2:RelE G F σ ρ H1 H1':=R.grow hs s R1.sub hf;have g2:Grp G F H1 H1' a ks dss bs:=g.grow hs s hf;have rd2:=Rep.mono s _ _ rd;calc⟨cc _,λp hp=>?_⟩;have np:a≠p:=λz=>by subst z;rw[g2.at_]at hp;ext hp
 have R3:RelE G F σ ρ H1 (upd H1' p (.lst [])):=R2.newOwn hp _;have g3:Grp G F H1 (upd H1' p (.lst [])) a ks dss bs:=g2.grow (ui hp _) (ue.refl _) λb o e=>.inl e;have lz:(ks.zip (bs.map V.ref)).length<aL:=by rw[ir,aq,<- g.len,ix,bR];omega
 refine⟨_,k,g3.at_,A8 r ek,lz,λw ev=>?_,λev=>?_⟩
 .let#v[j,e1,e2]:=Sk (by rw[aq];show g.len) ev;rw[bC]at e2;cases eb:bs[j]? with
  |none=>rw[eb]at e2;cases e2
  |some b=>
   rw[eb]at e2;ext e2;let#v[ds,ed]:∃ds,dss[j]?=Z ds:=⟨dss[j]'(by rw[<-g.len'];show(ck.mp eb).1),bg _⟩;let#v[xs,w1,w2,w3,w4]:=g3.each j b ds eb ed;have lx:xs.length<aL:=by rw[<-tP w4,bR];have:=l2 ds (cG ed);omega
   calc⟨.inl ⟨O,xs,SqL.of w1⟩,vr,h2,b,xs,vr,O,O,w1,lx,?_⟩;refine kont H1 _ bs s (RelE.touch R3 no (λc o e z=>?_) λc o e=>?_) (g3.more e1 eb w1 rd2)
   .have nc:c≠b:=λy=>by
     subst y;rcases z with z|z
     .show z w2
     .show z w3
    rw[tT nc];show e
   .by_cases y:c=b
    .subst y;show⟨_,tU⟩
    .rw[tT y];show⟨o,e⟩
 .have nk:=Sm (by rw[aq];show g.len) ev;have h0p:H1 p=J:=R2.h0none hp;have hBp:F.B p=J:=R2.bNone hp;have ez:putK (ks.zip (bs.map V.ref)) k (.ref p)=(ks++[k]).zip ((bs++[p]).map V.ref):=by rw[Q1 _ ev,bK,kQ (by rw[aq];show g.len)];rfl
  rw[ez];have q0:upd (upd H1' p (.lst [])) a (.dK ((ks++[k]).zip ((bs++[p]).map V.ref))) p=Z (.lst []):=by rw[tT (λz=>np z.symm),tU]
  calc⟨.inl ⟨O,[],SqL.of q0⟩,vr,h2,p,[],vr,O,O,q0,by rw[bR];decide,?_⟩;refine kont H1 _ (bs++[p]) s (RelE.touch R3 no (λc o e z=>?_) λc o e=>?_) (g2.fresh nk hp h0p hBp rd2)
  .have n1:c≠p:=λy=>by
    subst y;rcases z with z|z
    .show z h0p
    .show z hBp
   have n2:c≠a:=λy=>by
    subst y;rcases z with z|z
    .show z g2.n0
    .show z g2.nB
   rw[cz,tT n1,tT n2];show e
  .by_cases y:c=p
   .subst y;show⟨_,tU⟩
   .rw[tT y];by_cases y2:c=a
    .subst y2;show⟨_,tU⟩
    .rw[tT y2];show⟨o,e⟩
end
def B2(vk:D->Option D):bw->List Key->List bw->Option (List Key×List bw)
 |[],ks,dss=>Z (ks,dss)
 |d::r,ks,dss=>match vk d with
  |some x=>match AA x with
   |some k=>if (decide (ks.length<1000)&&dss.all λds=>decide (ds.length<1000))=γ then B2 vk r (A9 ks dss k d).1 (A9 ks dss k d).2 else J
   |none=>J
  |none=>J
def Nh(vk:D->Option D):FS:=λρ=>match ρ with
 |[.im (.lst L),.un,.un]=>match B2 vk L [] []with
  |some (ks,dss)=>Z (.rt (.dic ks (dss.map .lst)) [.im (.lst L),.un,.un])
  |none=>J
 |_=>J
section
variable{X:Cx}{G:Bg}
theorem FI:∀(bs:List Addr) (dss:List bw),bs.length=dss.length->(∀(i:Nat) (b:Addr) (ds:bw),bs[i]?=Z b->dss[i]?=Z ds->∃xs,Hq b=Z (.lst xs)/\Reps G Hq ds xs)->
  Reps G Hq (dss.map .lst) (bs.map V.ref)
 |[],[],_,_=>uy
 |[],_::_,h,_=>by cases h
 |_::_,[],h,_=>by cases h
 |b::bs,ds::dss,h,k=>by let#v[xs,h1,h2]:=k 0 b ds O O;show uD (CD h1 h2) (FI bs dss (by exists h) λi b ds e1 e2=>k (i+1) b ds e1 e2)
theorem VO(R:RelE G F σ [.im (.lst L),.un,s2] H0 H)(g:Grp G F H0 H a ks dss bs)(o:Obj):
  ∃Hq,ue H0 Hq/\RelE G F σ [.im (.lst L),.un,.un] Hq (upd H a (.frz o (.dK (ks.zip (bs.map V.ref)))))/\Rep G Hq (.dic ks (dss.map .lst)) (.ref a):=by
 have mb:∀{b:Addr},b∈bs->∃xs,H b=Z (.lst xs)/\H0 b=J/\F.B b=J:=λ{b} hb=>by let#v[i,hi,e]:=ko hb;let#v[xs,w1,w2,w3,_]:=g.each i b (dss[i]'(by rw[<-g.len'];show hi)) (by rw[bg hi,e]) (bg _);show⟨xs,w1,w2,w3⟩
 have na:a∉bs:=λz=>by let#v[xs,w1,_]:=mb z;rw[g.at_]at w1;ext w1
 have s0:ue H0 (λc=>if c=a then Z (.frz o (.dK (ks.zip (bs.map V.ref))))else if c∈bs then H c else H0 c):=λc u e=>by
  have n1:c≠a:=λz=>by subst z;rw[g.n0]at e;ext e
  have n2:c∉bs:=λz=>by let#v[_,_,w2,_]:=mb z;rw[w2]at e;ext e
  change (if c=a then _ else if c∈bs then H c else H0 c)=_;rw[ak n1,ak n2];show e
 refine⟨_,s0,?_,?_⟩
 .show {
   sub:=λc u e=>by
    have e':(if c=a then Z (HO.frz o (.dK (ks.zip (bs.map V.ref))))else if c∈bs then H c else H0 c)=Z u:=e;by_cases n1:c=a
    .subst n1;rw[ao O]at e';rw[tU];show e'
    .rw[ak n1]at e';rw[tT n1];by_cases n2:c∈bs
     .rw[ao n2]at e';show e'
     .rw[ak n2]at e';show R.sub _ _ e'
   g0:=R.g0.trans s0
   keep:=λc u e n=>by rw[tT (λz=>by subst z;rw[g.nB]at e;ext e)];show R.keep c u e n
   fr:=λc u e=>by
    have e':(if c=a then Z (HO.frz o (.dK (ks.zip (bs.map V.ref))))else if c∈bs then H c else H0 c)=Z u:=e;by_cases n1:c=a
    .subst n1;show .inr g.nB
    .rw[ak n1]at e';by_cases n2:c∈bs
     .let#v[_,_,_,w3]:=mb n2;show .inr w3
     .rw[ak n2]at e';show R.fr _ _ e'
   am:=λc hc=>by
    by_cases n1:c=a
    .subst n1;show⟨_,tU⟩
    .rw[tT n1];show R.am c hc
   len:=R.len
   sl:=λi s e=>by
    match i,e with
    |0,e=>ext e;let#v[v,w1,w2]:=R.sl 0 _ O;show⟨v,w1,Rep.mono s0 _ _ w2⟩
    |1,e=>ext e;trivial
    |2,e=>ext e;trivial
    |i+3,e=>ext e
   ap:=λi j s t b _ e _ so=>by
    match i,e with
    |0,e=>ext e;cases so
    |1,e=>ext e;cases so
    |2,e=>ext e;cases so
    |i+3,e=>cases e }
 .delta Rep;calc⟨a,o,bs.map V.ref,O,by change (if a=a then _ else _)=_;rw[ao O],by rw[aq];show g.len,FI bs dss g.len' λi b ds e1 e2=>?_⟩;let#v[xs,w1,w2,w3,w4]:=g.each i b ds e1 e2;have hb:=cG e1;calc⟨xs,?_,Reps.mono s0 _ _ w4⟩;change (if b=a then _ else if b∈bs then H b else H0 b)=_;have nb:b≠a:=λz=>na (by rw[<-z];show hb);rw[ak nb,ao hb];show w1
def So{L:bw}{s2:Sl}(h:s2.own=δ):∀s∈[Sl.im (.lst L),.un,s2],s.own=δ:=λs hs=>by
 erw[aQ,cw,or_false]at hs;rcases hs with rfl|rfl|rfl
 .rfl
 .rfl
 .show h
inductive GI(G:Bg) (F:Fr) (Ha:Hp) (p:Addr) (L:bw) (vk:D->Option D) (KS:List Key) (DSS:List bw) (i:Nat) (σ':St) (H':Hp):Prop
 |mk (Hi:Hp) (ks:List Key) (dss:List bw) (bs:List Addr) (s2:Sl):ue Ha Hi->Sl.own s2=δ->RelE G F σ' [.im (.lst L),.un,s2] Hi H'->σ'[1]?=Z (Z (.ref p))->Grp G F Hi H' p ks dss bs->B2 vk (L.drop i) ks dss=Z (KS,DSS)->GI G F Ha p L vk KS DSS i σ' H'
def Qc(h1:PS X st1 (DW MP (zN 1)))(h2:PS X st2 (Xv (tFI G (iL (cV 0))) (zN 2) (LY G (c1 vk (cV 2)))))
  (h3:PS X st3 (tRet (λσ H Q=>DU 1 σ H λx H1=>Q x H1\/∃a kvs,H1 a=Z (.dK kvs)/\∀o,Q x (upd H1 a (.frz o (.dK kvs)))))):PSs X [st1,st2,st3] (tFS G (Nh vk)):=
 PSs.weak (GW h1 (GW h2 (Ki h3))) λE σ H hh=>by
  let#v[F,ρ,H0,o,R,e,k,k2]:=hh;delta Nh at e;split at e
  .rename_i L;cases eg:B2 vk L [] []with
   |none=>erw[eg]at e;cases e
   |some p=>
    let#v[KS,DSS]:=p;erw[eg]at e;ext e;intro p hp;have R1:RelE G F (σ.set 1 (Z (.ref p))) [.im (.lst L),.un,.un] H0 (upd H p (.dK [])):=(R.newOwn hp (.dK [])).set (i:=1) (v:=.ref p) (s:=.un) trivial (λz=>by ext z);have hlen:σ.length=3:=R.len;have g1:Grp G F H0 (upd H p (.dK [])) p [] [] []:=⟨tU,R.h0none hp,R.bNone hp,O,O,kY,kY,λi b ds e1=>by ext e1⟩;have v1:(σ.set 1 (Z (V.ref p)))[1]?=Z (Z (.ref p)):=by rw[iY (by rw[hlen];decide)]
    calc⟨_,_,_,L,_,RelE.still R1 (So O),O,λAt Ha Hb s Ra wk=>?_⟩;have hs:ue (upd H p (.dK [])) Hb:=λb o e=>Ra.keep b o e (by simp);have R2:=R1.grow hs s Ra.sub Ra.fr;have g2:=g1.grow hs s Ra.fr;refine⟨λi m σ' H'=>m=L.length - i/\i<=L.length/\GI G F Ha p L vk KS DSS i σ' H',
     ⟨_,O,cc _,Ha,[],[],[],.un,ue.refl _,O,R2,v1,g2,eg⟩,?_⟩
    rintro i m σi Hi' ⟨rfl,hi,Hi,ks,dss,bs,s2,si,n2,Ri,vi,gi,ei⟩;by_cases hlt:i<L.length
    .have ed:L.drop i=L[i]::L.drop (i+1):=j3 hlt;rw[ed]at ei;delta B2 at ei;cases ev:vk L[i]with
     |none=>erw[ev]at ei;cases ei
     |some x=>
      erw[ev]at ei;cases ek:AA x with
      |none=>erw[ek]at ei;cases ei
      |some kk=>
       erw[ek]at ei;split at ei
       .rename_i hb;erw[aW,b8,bc]at hb;let#v[go,yl]:=(wk i Hi Hi' si Ri.sub).1 L[i] (bg hlt);refine .inr ⟨go,GI G F Ha p L vk KS DSS (i+1),
         λσ' H' q=>⟨L.length - (i+1),by omega,O,hlt,q⟩,λxv H' y=>?_⟩
        let#v[H2,t1,t2,t3,t4,t5]:=yl xv H' y;have hl3:σi.length=3:=Ri.len;have R3:RelE G F (σi.set 2 (Z xv)) [.im (.lst L),.un,.im L[i]] H2 H':=(Ri.grow t3 t1 t2 t4).setIm 2 t5;have w1:(σi.set 2 (Z xv))[1]?=Z (Z (.ref p)):=by rw[kj #[]];show vi
        have w2:(σi.set 2 (Z xv))[2]?=Z (Z xv):=by rw[iY (by rw[hl3];decide)]
        calc Sn R3 (So O) w1 w2 t5 (gi.grow t3 t1 t4) (by change c1 vk (cV 2) _=_;delta c1 cV;erw[List.getElem?_cons_succ,List.getElem?_cons_zero,ev]) ek hb.1 (λds hd=>hb.2 ds hd) λHc Hd bs' sc Rc gc=>?_;show⟨Hc,_,_,bs',_,si.trans (t1.trans sc),O,Rc,w1,gc,ei⟩
       .ext ei
    .have hi':i=L.length:=by omega
     calc .inl ⟨(wk i Hi Hi' si Ri.sub).2 hi',?_⟩;subst hi';rw[List.drop_length]at ei;ext ei;calc⟨.ref p,vi,.inr ⟨p,_,gi.at_,λo=>?_⟩⟩;let#v[Hq,q1,q2,q3]:=VO Ri gi o;show k _ _ Hq _ (s.trans (si.trans q1)) q2 q3
  .ext e
end
section
variable{X:Cx}{G:Bg}
def VP:∀y b,uY "int" y=Z b->dh X.K (y.val G) (.type "int")=Z b:=λy b h=>by
 cases y with
 |c k=>cases h
 |b n=>
  delta uY at h;simp only at h
  iterate 7 (split at h;· rename_i e;subst e;ext h;first|rfl|kernel_rfl)
  ext h
def Sq:∀y b,uY "bool" y=Z b->dh X.K (y.val G) (.type "bool")=Z b:=λy b h=>by
 cases y with
 |c k=>cases h
 |b n=>
  delta uY at h;simp only at h
  iterate 7 (split at h;· rename_i e;subst e;ext h;first|rfl|kernel_rfl)
  ext h
def kit_tuple:∀y b,uY "tuple" y=Z b->dh X.K (y.val G) (.type "tuple")=Z b:=λy b h=>by
 cases y with
 |c k=>cases h
 |b n=>
  delta uY at h;simp only at h
  iterate 7 (split at h;· rename_i e;subst e;ext h;first|rfl|kernel_rfl)
  ext h
end
end L4
namespace L4
open PySem PySem.Spec PySem.Calls PyProof.Rows PySem.W L2 L3
def Qd{α:Type}(c:Nat->Nat->Bool):KasT α->α
 |.ret a=>a
 |.ask i j k=>Qd c (k (c i j))
def yb{α:Type}(P:Nat->Nat->Prop)(R:α->Prop):KasT α->Prop
 |.ret a=>R a
 |.ask i j k=>P i j/\∀b,yb P R (k b)
theorem yb.run{α:Type}{P:Nat->Nat->Prop}{R:α->Prop}(c:Nat->Nat->Bool):∀(t:KasT α),yb P R t->R (Qd c t)
 |.ret a,h=>h
 |.ask i j k,h=>yb.run c (k (c i j)) (h.2 (c i j))
theorem yb.bind{α β:Type}{P:Nat->Nat->Prop}{R:α->Prop}{S:β->Prop}{f:α->KasT β}(hf:∀a,R a->yb P S (f a)):∀{t:KasT α},yb P R t->yb P S (t.bind f)
 |.ret a,h=>hf a h
 |.ask i j k,h=>⟨h.1,λb=>yb.bind hf (h.2 b)⟩
theorem Oy{α:Type}{cmp:Nat->Nat->(Bool->af->Prop)->af->Prop}{c:Nat->Nat->Bool}{P:Nat->Nat->Prop}{s:af}{Q:α->af->Prop}(hc:∀i j C,P i j->C (c i j) s->cmp i j C s):
  ∀{R:α->Prop} {t:KasT α},yb P R t->Q (Qd c t) s->t.kasWp cmp Q s
 |R,.ret a,_,q=>q
 |R,.ask i j k,h,q=>hc i j _ h.1 (Oy hc (h.2 (c i j)) q)
def wy(n:Nat)(p:Array Nat):Prop:=p.toList.Perm (bu n)
theorem wy.getD(h:wy n p)(hn:0<n)(i:Nat):p.getD i 0<n:=by
 delta Array.getD;split
 .rename_i hi;have:p[i]∈p.toList:=by simp
  show cu.mp (h.mem_iff.mp this)
 .show hn
def wy.rev(h:wy n p)(i j:Nat):wy n (kas_rev p i j):=by delta wy kas_rev mirror;show(mT.mp (foldl_swaps_perm _ _ _ _)).trans h
def wy.bub(h:wy n p)(i j:Nat):wy n (bubble p i j):=(mT.mp (bubble_perm _ _ _)).trans h
abbrev In2(n:Nat):Nat->Nat->Prop:=λi j=>i<n/\j<n
theorem KG(hn:0<n)(h:wy n p):∀f k,yb (In2 n) (λ_=>True) (kas_asc p f k)
 |0,k=>trivial
 |f+1,k=>⟨⟨h.getD hn _,h.getD hn _⟩,λb=>by ext b<;>first|show trivial|show KG hn h f (k+1)⟩
theorem Ef(hn:0<n):∀f (p:Array Nat) k q,wy n p->yb (In2 n) (λr=>wy n r.1) (kas_desc f p k q)
 |0,p,k,q,h=>h
 |f+1,p,k,q,h=>⟨⟨h.getD hn _,h.getD hn _⟩,λb=>by
   cases b with
   |true=>
    change yb _ _ (if q > 0 then _ else _);split
    .show Ef hn f _ _ _ (h.rev _ _)
    .show Ef hn f _ _ _ h
   |false=>
    calc⟨⟨h.getD hn _,h.getD hn _⟩,λd=>?_⟩;cases d with
    |true=>show h
    |false=>show Ef hn f _ _ _ h⟩
def LZ(hn:0<n)(h:wy n p)(k m:Nat):yb (In2 n) (λr=>wy n r.2) (kas_tail3 k m p):=
 yb.bind (P:=In2 n) (R:=λ_=>True) (S:=λ(r:Nat×Array Nat)=>wy n r.2) (f:=λm=>.ret (m,kas_rev p 0 k)) (λa _=>h.rev 0 k) (KG hn (h.rev 0 k) _ _)
def Eg(hn:0<n)(h:wy n p)(k m:Nat):yb (In2 n) (λr=>wy n r.2) (kas_descPart k m p):=
 yb.bind (λr hr=>by
  change yb _ _ (if r.2.2 > 0 then _ else _);split
  .show LZ hn (hr.rev _ _) _ _
  .show LZ hn hr _ _) (Ef hn _ p _ _ h)
def Qe(hn:0<n)(h:wy n p)(m:Nat):yb (In2 n) (λr=>wy n r.2) (kas_count m p):=
 yb.bind (λk _=>by
  change yb _ _ (if (k==m)=γ then _ else _);split
  .show h
  .split
   .calc⟨⟨h.getD hn _,h.getD hn _⟩,λb=>?_⟩;cases b with
    |true=>show h
    |false=>show Eg hn (h.rev _ _) _ _
   .show Eg hn h _ _) (KG hn h _ _)
theorem E4(hn:0<n)(h:wy n p)(k:Nat):∀f l r,yb (In2 n) (λ_=>True) (kas_place p k f l r)
 |0,l,r=>trivial
 |f+1,l,r=>by
  delta kas_place;split
  .trivial
  .calc⟨⟨h.getD hn _,h.getD hn _⟩,λb=>?_⟩;cases b with
   |true=>show E4 hn h k f _ _
   |false=>show E4 hn h k f _ _
theorem Oz(hn:0<n):∀f (p:Array Nat) k,wy n p->yb (In2 n) (wy n) (kas_bin f p k)
 |0,p,k,h=>h
 |f+1,p,k,h=>yb.bind (λl _=>Oz hn f _ _ (h.bub _ _)) (E4 hn h k _ _ _)
def Hy(hn:0<n):yb (In2 n) (wy n) (jA n):=
 yb.bind (λr hr=>by
  change yb _ _ (if r.1<n then _ else _);split
  .show Oz hn _ _ _ hr
  .show hr) (Qe hn (p:=List.toArray (bu n)) (by delta wy;show px _) n)
def CG(a:Addr)(h h':Heap):Prop:=∀b o,b≠a->h.get? b=Z o->h'.get? b=Z o
section
variable{prog:aO}{w:aF}{A:aP}{E:ae->af->Prop}{s:af}
def E5(c:Nat->Nat->Bool)(vs:List ae):List ae:=(Qd c (jA vs.length)).toList.map λi=>vs.getD i Value.none
def Sr(c:Nat->Nat->Bool)(vs:List ae)(h:0<vs.length):(E5 c vs).length=vs.length:=by delta E5;rw[aq];have:=(Hy h).run c _;rw[this.length_eq,cN]
def Ss(c:Nat->Nat->Bool)(v:ae):E5 c [v]=[v]:=rfl
def Su{vs:List ae}(ho:s.heap.get? a=Z (seqObj "list" vs.toArray n))(h1:0<vs.length)(h64:vs.length<64)
  (hk:∀(h':Heap) (C:SortKind->af->Prop),CG a s.heap h'->C κ { s with heap:=h' }->ah (model prog w) A (keyKind' vs.toArray) C (λ_ _=>False) { s with heap:=h' })
  (hc:∀(h':Heap) (i j:Nat) (C:Bool->af->Prop),CG a s.heap h'->i<vs.length/\j<vs.length->C (c i j) { s with heap:=h' }->jC prog w A κ vs i j C { s with heap:=h' })
  (h:∀h' e,CG a s.heap h'->h'.get? a=Z (seqObj "list" (E5 c vs).toArray e)->P (.done (.ret .none)) { s with heap:=h' }):
  ah (model prog w) A (cU.«list.sort» ⟨[.ref a],[]⟩) P E s:=by
 have ha:a< ~~~s:=aK ho;let#v[e1,o1]:∃e1,(s.heap.update a (dA λ_=>([].toArray:Array ae))).get? a=Z (seqObj "list" [].toArray e1):=⟨_,o7 ho λ_=>[].toArray⟩;generalize hw:((s.heap.update a (dA λ_=>([].toArray:Array ae))).push (seqObj "tuple" vs.toArray 0)).push (seqObj "list" [].toArray 0)=h3;have kb:CG a s.heap h3:=λb o hb q=>by rw[<-hw];show aC _ (aC _ ((hU s.heap _ (dD hb)).trans q))
 have o3:h3.get? a=Z (seqObj "list" [].toArray e1):=by rw[<-hw];show aC _ (aC _ o1)
 rw[list_sort_plain];calc ag (listItems_at ho O (ag (lq ho O ?_ (by rw[bB,bR];omega) (cc _))));calc ag (lZ o1 O (ag (kZ ?_ (by change vs.length<=_;rw[bR];omega))));calc ag (lu (cA ?_) (cc _));change ah (model prog w) A _ P E { s with heap:=((s.heap.update a (dA λ_=>([].toArray:Array ae))).push (seqObj "tuple" vs.toArray 0)).push (seqObj "list" [].toArray 0) };rw[hw];dsimp only;let#v[c2,hc2]:∃c2,(h3.update a (dA λ_=>(E5 c vs).toArray)).get? a=Z (seqObj "list" (E5 c vs).toArray c2):=⟨_,o7 o3 λ_=>(E5 c vs).toArray⟩;have fin:=h _ c2 (λb o hb q=>(hU h3 _ (dD hb)).trans (kb b o hb q)) hc2;have szo:(E5 c vs).toArray.size<=aL+1:=by rw[bB,Sr c vs h1,bR];omega
 by_cases h2:2<=vs.length
 .have hn2:¬vs.toArray.size<2:=by rw[bB];omega
  rw[ak hn2,ak hn2];calc ag (bZ (hk h3 (λk s'=>k=κ/\s'={ s with heap:=h3 }) kb ⟨O,O⟩) ?_ λ_ _ x=>x.elim);rintro k s' ⟨rfl,rfl⟩;refine ag (bZ (kat_run (Q:=λst' s'=>s'={ s with heap:=h3 }/\(arrOf st').map (·.2)=(E5 c vs).toArray/\failedOf st'=J) (G:=λp s'=>p=Qd c (jA vs.length)/\s'={ s with heap:=h3 }) O h2 h64 ?_ ?_) ?_ λ_ _ e=>e)
  .rintro p st' s' _ har hf ⟨rfl,rfl⟩;show⟨O,kat_snds O har,hf⟩
  .show Oy (P:=In2 vs.length) (λi j C q r=>hc h3 i j C kb q r) (Hy h1) ⟨O,O⟩
  .rintro⟨⟨⟩,st'⟩ s' ⟨rfl,ha2,hf⟩;dsimp only;calc ag (lZ o3 O ?_);rw[ha2,hf];calc ag (lq o3 O ?_ (cc _) szo);erw[bne_self_eq_false,fC,if_false];show au fin
 .let#v[v,rfl]:∃v,vs=[v]:=by
   cases vs with
   |nil=>cases h1
   |cons v r=>
    cases r with
    |nil=>show⟨v,O⟩
    |cons x y=>show ar (by simp) h2
  calc ag (au ?_);calc ag (au ?_);calc ag (lZ o3 O ?_);have eo:qk (λx=>x.snd) (arrOf (Unit.unit,SortSt.mk' general' (#[v].zip #[v]) [].toArray 7 J).snd)=(E5 c [v]).toArray:=by rw[Ss];change qk (λx=>x.snd) (#[v].zip #[v])=#[v];simp
  rw[eo];calc ag (lq o3 O ?_ (cc _) szo);erw[bne_self_eq_false,fC,if_false];show au fin
def Ni{vs:List ae}(hT:T="list" \/ T="tuple")(ho:s.heap.get? l=Z o)(hcl:o.cls=.type T)(hd:o.data=.seq vs.toArray n)(h1:0<vs.length)(h64:vs.length<64)
  (hk:∀(h':Heap) (C:SortKind->af->Prop),(∀b o,s.heap.get? b=Z o->h'.get? b=Z o)->C κ { s with heap:=h' }->ah (model prog w) A.in1.in1 (keyKind' vs.toArray) C (λ_ _=>False) { s with heap:=h' })
  (hc:∀(h':Heap) (i j:Nat) (C:Bool->af->Prop),(∀b o,s.heap.get? b=Z o->h'.get? b=Z o)->i<vs.length/\j<vs.length->C (c i j) { s with heap:=h' }->jC prog w A.in1.in1 κ vs i j C { s with heap:=h' })
  (h:∀(g h':Heap) e,(∀b o,s.heap.get? b=Z o->g.get? b=Z o)->(∀b o,g.get? b=Z o->h'.get? b=Z o)->h'.get? g.objs.size=Z (seqObj "list" (E5 c vs).toArray e)->Q (.ref g.objs.size) { s with heap:=h' }):
  ah (model prog w) A (call (.builtin "sorted") [.ref l]) Q E s:=by
 calc mU kind_sorted plain_sorted entry_sorted (args_sorted1 _) ?_;delta cU.«sorted»;calc ag (m:=checkCount "sorted" 1 1 _) (au (ag (wpAny_collect_seq l hT ho hcl hd (λg gk=>?_) (by rw[bR];simp;omega))));calc ag (lu ?_ (by rw[bR];simp;omega));change ah _ _ _ _ _ { s with heap:=g.push (seqObj "list" vs.toArray 0) };have on:(g.push (seqObj "list" vs.toArray 0)).get? g.objs.size=Z (seqObj "list" vs.toArray 0):=bq _ O;have all:∀h',CG g.objs.size (g.push (seqObj "list" vs.toArray 0)) h'->∀b o,g.get? b=Z o->h'.get? b=Z o:=λh' kb b o q=>kb b o (aV (aK q)) (aC _ q)
 change ah _ _ (do let _<-holding [Value.ref g.objs.size] _;_) _ _ _;calc ag (cA (d7 pz ⟨_,on,O⟩ o8 ?_ (pA _)));calc Su (s:={ s with heap:=g.push (seqObj "list" vs.toArray 0) }) on h1 h64 (λh' C kb q=>hk h' C (λb o z=>all h' kb b o (gk b o z)) q) (λh' i j C kb q r=>hc h' i j C (λb o z=>all h' kb b o (gk b o z)) q r) λh' e kb q=>?_;show⟨_,O,au ⟨_,O,h g h' e gk (all h' kb) q⟩⟩
end
def ltS(a b:Str):Bool:=decide (a.cps.toList<b.cps.toList)
def IZ:aH->aH->Bool
 |[],[]=>δ
 |[],_::_=>γ
 |_::_,[]=>δ
 |x::xs,y::ys=>if x=y then IZ xs ys else ltS x y
inductive zO:List ae->aH->Prop
 |nil:zO [] []
 |cons (x:Str) (t:Tok) {vs:List ae} {xs:aH} (h:zO vs xs):zO (.str x t::vs) (x::xs)
def Nj(c:Nat->Nat->Bool)(n:Nat):List Nat:=(Qd c (jA n)).toList
def E6(c:Nat->Nat->Bool)(h:0<n):(Nj c n).Perm (bu n):=(Hy h).run c _
def KH(c:Nat->Nat->Bool)(h:0<n):∀i∈Nj c n,i<n:=λi hi=>cu.mp ((E6 c h).mem_iff.mp hi)
theorem JA(r:Vals xs us):∀(is:List Nat),(∀i∈is,i<xs.length)->Vals (is.map λi=>xs.getD i V.non) (is.map λi=>us.getD i Value.none)
 |[],_=>.nil
 |i::is,h=>by have hi:=h i (.head _);let#v[u,e,ru]:=r.get (bg hi);calc .cons ?_ (JA r is λj hj=>h j (.tail _ hj));change RelV (xs.getD i V.non) (us.getD i Value.none);rw[cF,cF,e,bg hi];show ru
section
variable{X:Cx}{G:Bg}{pins:cJ}{σ:St}{H:Hp}{s:af}
def seq_val(I:Inv X pins σ H s)(hq:SqL X.K H a ys\/SqT X.K H a ys):∃its,Vals ys its/\∃T o n,(T="list" \/ T="tuple")/\s.heap.get? a=Z o/\o.cls=.type T/\o.data=.seq its.toArray n:=by
 rcases hq with hq|hq
 .let#v[its,ri,pl,_]:=I.list hq;let#v[o,a1,a2,n,a3]:=pl.isList;show⟨its,ri,_,o,n,.inl O,a1,a2,a3⟩
 .let#v[its,ri,#v[o,a1,a2,n,a3],_]:=I.tuple hq;show⟨its,ri,_,o,n,.inr O,a1,a2,a3⟩
def FJ:bw->Option aH
 |[]=>Z []
 |.str x::ds=>match FJ ds with
  |some xs=>Z (x::xs)
  |none=>J
 |_=>J
theorem Hz:∀{ds:bw} {xs:bN} {l:aH},Reps G H ds xs->FJ ds=Z l->xs=l.map V.str
 |[],xs,l,r,e=>by ext e;delta Reps at r;show r
 |d::ds,xs,l,r,e=>by
  cases d with
  |str x=>
   delta FJ at e;cases e1:FJ ds with
   |none=>rw[e1]at e;cases e
   |some l'=>rw[e1]at e;ext e;delta Reps at r;let#v[v,r',rfl,h1,h2]:=r;delta Rep at h1;subst h1;rw[Hz h2 e1,aN]
  |_=>ext e
theorem JB(r:Reps G H ds xs):∀(is:List Nat),(∀i∈is,i<ds.length)->Reps G H (is.map λi=>ds.getD i .non) (is.map λi=>xs.getD i V.non)
 |[],_=>uy
 |i::is,h=>by have hi:=h i (.head _);let#v[v,e,rv]:=xJ r (bg hi);calc uD ?_ (JB r is λj hj=>h j (.tail _ hj));change Rep G H (ds.getD i .non) (xs.getD i V.non);rw[cF,cF,e,bg hi];show rv
end
end L4
namespace L4
open PySem PySem.Spec PyProof.Rows L2 L3
def OA:List String:=["NoneType", "bool", "int", "str", "tuple", "list", "dict"]
def xP(n c:Nat):Ty->Option Bool:=λy=>match y with
 |.b x=>if OA.contains x=γ then Z δ else J
 |.c k=>if k<n then Z (k==c)else J
def vO(K:av)(cs:List Addr)(C:Addr)(c:Nat):Bool:=
 OA.all (λx=>dh K (.type x) (.ref C)==Z δ)&&(bu cs.length).all λk=>dh K (.ref (cs.getD k 0)) (.ref C)==Z (k==c)
def ve{B:Bg}(h:vO B.K cs (B.ca c) c=γ)(hn:cs.length=n)(hc:∀k,k<n->cs.getD k 0=B.ca k)(hI:∀k,k<n->LO B.K (B.ca k)):Hu B c (xP n c):=by
 delta vO at h;rw[aW,bc,bc]at h;refine⟨λy b e=>?_,λj b e=>?_⟩
 .cases y with
  |b x=>
   delta xP at e;simp only at e;split at e
   .rename_i hx;ext e;show jy (h.1 x (nu.mp hx))
   .cases e
  |c k=>
   delta xP at e;simp only at e;split at e
   .rename_i hk;ext e;have:=jy (h.2 k (cu.mpr ()));rw[hc k hk]at this;show this
   .ext e
 .delta xP at e;simp only at e;split at e
  .rename_i hk;show hI j hk
  .ext e
def YV{l:List Addr}(h:l.Nodup)(hj:j<l.length)(hk:k<l.length)(e:l.getD j 0=l.getD k 0):j=k:=by
 rw[cF,cF,bg hj,bg hk]at e;have pw:=List.pairwise_iff_getElem.mp h;rcases Nat.lt_trichotomy j k with y|y|y
 .show ar e (pw j k hj hk y)
 .show y
 .show ar e.symm (pw k j hk hj y)
section
variable{B:Bg}{K:av}{mg:Str->Option ae}{h:Heap}
def const_int(X:K.In h)(Gn:h.Ns aX mg)(e:gH K aX x=Z (Z (.int i t))):zR B mg x (.int i):=
 ⟨.int i,_,iH X Gn e,⟨_,O⟩,λ_=>wK _⟩
inductive Ba:List ae->aH->Prop
 |nil:Ba [] []
 |cons {v:ae} {x:Str} {t:Tok} {vs:List ae} {xs:aH} (e:v=.str x t) (h:Ba vs xs):Ba (v::vs) (x::xs)
def Ba.vals(h:Ba vs xs):Vals (xs.map V.str) vs:=by
 induction h with
 |nil=>show .nil
 |cons e h ih=>show .cons ⟨_,e⟩ ih
theorem HA:∀xs:aH,Reps B H (xs.map D.str) (xs.map V.str)
 |[]=>uy
 |x::xs=>uD (A2 x) (HA xs)
def Nk(xs:aH)(X:B.K.In h)(Gn:h.Ns aX mg)(e:gH B.K aX x=Z (Z (.ref a)))(l:B.K.lookup a=Z o)(hc:o.cls=.type "tuple")(hd:o.data=.seq its n)(hz:its.size<=1000)
  (r:Ba its.toList xs):zR B mg x (.tup (xs.map D.str)):=
 ⟨.ref a,_,iH X Gn e,O,λH=>D5 (.inr ⟨o,its,n,l,hc,hd,by rw[bR];omega,r.vals⟩) (HA xs)⟩
end
section
variable{f g' h:FS}{c:FT}{e e' e2:FE}{a a':FA}{ρ ρ' ρ1 ρ2 ρ3:aJ}{d x y z:D}{ds xs ys:bw}{k:Nat}{cap:List Nat}{g:FG}{ft:FT}{fe:FE}
theorem HB{α:Type}(dd:α->D)(p:α->Bool)(h:α->D):∀l:List α,
  (∀a∈l,∃ρ1 ρ2,g (dd a) (D7 k cap ρ)=Z ρ1/\ft ρ1=Z (p a,ρ2)/\(p a=γ->∃ρ3,fe ρ2=Z (h a,ρ3)/\xM cap (ρ3.drop k) ρ=Z ρ)/\(p a=δ->xM cap (ρ2.drop k) ρ=Z ρ))->
  BQ k cap g ft fe (l.map dd) ρ=Z ((l.filter p).map h,ρ)
 |[],_=>rfl
 |a::l,st=>by
  let#v[ρ1,ρ2,h1,h2,h3,h4]:=st a aR;have ih:=HB dd p h l λa' ha=>st a' (aU _ ha);rw[aN];delta BQ;rw[h1];erw[h2];cases hp:p a with
  |true=>let#v[ρ3,h5,h6]:=h3 hp;erw[h5,h6,ih,fI,hp,if_true,aN]
  |false=>erw[h4 hp,ih,fI,hp];rfl
def VQ{α:Type}(dd:α->D)(h:α->D)(l:List α)(st:∀a∈l,∃ρ1 ρ3,g (dd a) (D7 k cap ρ)=Z ρ1/\fe ρ1=Z (h a,ρ3)/\xM cap (ρ3.drop k) ρ=Z ρ):BQ k cap g uQ fe (l.map dd) ρ=Z (l.map h,ρ):=by have:=HB (ft:=uQ) dd (λ_=>γ) h l λa ha=>let ⟨ρ1,ρ3,h1,h2,h3⟩:=st a ha;⟨ρ1,ρ1,h1,O,λ_=>⟨ρ3,h2,h3⟩,λz=>by ext z⟩;rw[this,kq.mpr λ_ _=>O]
def vG(neg:Bool)(a b:Str):dEq neg (.str a) (.str b)=Z (.bl (if neg then !decide (a=b)else decide (a=b))):=by
 have e:KB neg (.str a) (.str b)=Z (.bl (if neg then !decide (V.str a=V.str b)else decide (V.str a=V.str b))):=rfl;have e2:decide (V.str a=V.str b)=decide (a=b):=by
  by_cases h:a=b
  .subst h;simp
  .rw[bj h,bj (λz=>h (by injection z))]
 delta dEq;rw[e,e2]
def Sv(a:Str)(l:aH):inV (V.str a) (l.map V.str)=decide (a∈l):=by
 delta inV;rw[dM,ip,b8];constructor
 .rintro⟨v,hv,he⟩;let#v[b,hb,rfl]:=ay.mp hv;have:b=a:=by delta eqV at he;exists he
  rw[<-this];show hb
 .intro ha;calc⟨.str a,bT ha,?_⟩;delta eqV;simp
def Qf(l:aH):(l.map D.str).all wD=γ:=by rw[pV,bc];intro x _;rfl
def VR(l:aH):(l.map D.str).map vD=l.map V.str:=by rw[br];rfl
def yz(neg:Bool)(a:Str)(l:aH):dIn neg (.str a) (.lst (l.map D.str))=Z (.bl (if neg then !decide (a∈l)else decide (a∈l))):=by delta dIn;change (if wD (.str a)&&(l.map D.str).all wD then Z (D.bl (if neg then !inV (vD (.str a)) ((l.map D.str).map vD)else inV (vD (.str a)) ((l.map D.str).map vD)))else J)=_;rw[Qf,VR];change Z (D.bl (if neg then !inV (V.str a) (l.map V.str)else inV (V.str a) (l.map V.str)))=_;rw[Sv]
def yA(neg:Bool)(a:Str)(l:aH):dIn neg (.str a) (.tup (l.map D.str))=Z (.bl (if neg then !decide (a∈l)else decide (a∈l))):=yz neg a l
theorem KI:∀bs:List Bool,IY (bs.map D.bl)=Z bs
 |[]=>rfl
 |b::bs=>by rw[aN];delta IY;rw[KI bs];rfl
def Sw(bs:List Bool):yy (.lst (bs.map D.bl))=Z (.bl (bs.all id)):=by delta yy;erw[KI];rfl
def Sx(bs:List Bool):Gv (.lst (bs.map D.bl))=Z (.bl (bs.any id)):=by delta Gv;erw[KI];rfl
def OB{α:Type}(l:List α)(p:α->Bool):yy (.lst (l.map λa=>D.bl (p a)))=Z (.bl (l.all p)):=by rw[show (l.map λa=>D.bl (p a))=(l.map p).map D.bl by rw[br];rfl,Sw,pV];rfl
def OC{α:Type}(l:List α)(p:α->Bool):Gv (.lst (l.map λa=>D.bl (p a)))=Z (.bl (l.any p)):=by rw[show (l.map λa=>D.bl (p a))=(l.map p).map D.bl by rw[br];rfl,Sx,List.any_map];rfl
theorem HC:∀l:aH,BZ (l.map D.str)=Z (l.map Sum.inr)
 |[]=>rfl
 |x::l=>by rw[aN];delta BZ;rw[HC l];rfl
theorem Sy:∀(l acc:List Key),(acc++l).Nodup->l.foldl ddp acc=acc++l
 |[],acc,_=>by rw[bQ];rfl
 |k::l,acc,h=>by
  have hn:acc.any (λz=>decide (z=k))=δ:=by rw[oq];intro z;let#v[y,hy,ey]:=ip.mp z;rw[cq]at h;show h.2.2 y hy k aR (bF ey)
  rw[kR,show ddp acc k=acc++[k] by delta ddp;rw[hn];rfl,Sy l (acc++[k]) (by exists h)];simp
def AD{l:aH}(h:l.Nodup):(l.map (Sum.inr:Str->Key)).Nodup:=by delta List.Nodup at h ⊢;rw[ou];show h.imp λhne z=>hne (iz z)
def L0{l:aH}(h:l.Nodup)(hl:l.length<=1000):xO (l.map D.str)=Z (.int l.length):=by delta xO;rw[HC];erw[aq,hl,if_true];delta zM;rw[Sy _ [] (by exists AD h)];simp
def yp(neg:Bool)(a b:Int):dEq neg (.int a) (.int b)=Z (.bl (if neg then !decide (a=b)else decide (a=b))):=by
 have e:KB neg (.int a) (.int b)=Z (.bl (if neg then !decide (V.int a=V.int b)else decide (V.int a=V.int b))):=rfl;have e2:decide (V.int a=V.int b)=decide (a=b):=by
  by_cases h:a=b
  .subst h;simp
  .rw[bj h,bj (λz=>h (by injection z))]
 delta dEq;rw[e,e2]
def tY(h1:e ρ=Z (.bl γ,ρ1)):uH e e' ρ=e' ρ1:=by delta uH;rw[h1]
def tW{g:Nat->Option (bw->Option D)}{m:Str}{c:Nat}{ns:aH}{hh:bw->Option D}(h1:e ρ=Z (.obj c ns xs,ρ1))(h2:g c=Z hh)(h3:ns.contains m=δ)(h4:a ρ1=Z (ys,ρ2))(h5:hh (.obj c ns xs::ys)=Z d):tK g m e a ρ=Z (d,ρ2):=by delta tK;rw[h1];erw[h2,h3,h4,h5];rfl
def vH{c:Nat}{g:bw->Option (aH×bw)}{ns:aH}(h1:a ρ=Z (ds,ρ1))(h2:g ds=Z (ns,xs)):uj c g a ρ=Z (.obj c ns xs,ρ1):=by delta uj;rw[h1];erw[h2]
def Ae(hl:ds.length=np)(h:b (L4.stE n ds)=Z (.nx ρ)):fnD np n b ds=Z .non:=by delta fnD;rw[ao hl,h]
def B3(hl:ds.length=np)(h:b (L4.stE n ds)=Z (.rn xs ρ)):fnD np n b ds=Z (.lst xs):=by delta fnD;rw[ao hl,h]
theorem xQ:∀{ks:List Key} {ds:bw} {k:Key} {d:D},ks.Nodup->(k,d)∈ks.zip ds->vp ks ds k=Z d
 |[],_,k,d,_,h=>by simp at h
 |k'::ks,[],k,d,_,h=>by simp at h
 |k'::ks,d'::ds,k,d,nd,h=>by
  delta vp;rw[eJ]at h;rcases aQ.mp h with e|h
  .ext e;rw[ao O]
  .rw[dg]at nd;rw[ak (λz=>nd.1 (by subst z;show(jj h).1))];show xQ nd.2 h
theorem JC:∀{ks:List Key} {ds:bw} {k:Key},k∉ks->vp ks ds k=J
 |[],ds,k,_=>by delta vp;rfl
 |k'::ks,[],k,_=>by delta vp;rfl
 |k'::ks,d'::ds,k,h=>by delta vp;rw[ak (λz=>h (by subst z;show aR))];show JC λz=>h (aU _ z)
end
end L4
namespace L4
open PySem PySem.Spec PyProof.Rows L2 L3
open PySem.W (nsIn findIn keepIn isFn makesIn fnOf)
def Nl{α:Type}:Nat->(List α->Prop)->Prop
 |0,P=>P []
 |n+1,P=>∀a,Nl n λl=>P (a::l)
theorem GF{α:Type}:∀{n:Nat} {P:List α->Prop},Nl n P->∀l,l.length=n->P l
 |0,P,h,[],_=>h
 |n+1,P,h,a::l,e=>GF (P:=λl=>P (a::l)) (h a) l (lT e)
structure CF(K:av)(C:Addr)(xs:aH):Prop where
 ci:LO K C
 mks:makesIn K C=γ
 kp:keepIn K (.ref C)=γ
 na:(xs.all λx=>match findIn K (.ref C) x with|some J=>γ|_=>δ)=γ
theorem CF.at{K:av}(c:CF K C xs)(i:Nat)(h:xs[i]?=Z x):Cls K C/\zp K C x:=⟨c.ci.cl,by
 have e:=bc.mp c.na x (cG h);delta zp;split at e
 .rename_i e1;show e1
 .ext e⟩
def wM{Q:Nat->Prop}{i:Nat}(h:Q i):∀c,(c==i)=γ->Q c:=λc e=>by rw[beq_iff_eq]at e;subst e;show h
def orQ{Q:Nat->Prop}{p:Nat->Bool}{i:Nat}(h:∀c,p c=γ->Q c)(h':Q i):∀c,(p c||c==i)=γ->Q c:=λc e=>by
 rw[jk]at e;rcases e with e|e
 .show h c e
 .show wM h' c e
structure Yw(P:aO)(w:aF)(mg:Str->Option ae)(base:Heap)(G:Bg):Prop where
 m:∃h:Heap,G.K.In h/\h.Ns aX mg
section
variable{P:aO}{w:aF}{mg:Str->Option ae}{base:Heap}{G:Bg}{x m qual:Str}{st:Stmt}{N ps:aH}{k c:Nat}{K:av}
def Yw.g(y:Yw P w mg base G)(e:nsIn G.K aX x=Z (Z v)):mg x=Z v:=by let#v[h,X,Gn]:=y.m;show iH X Gn e
def Yw.n(y:Yw P w mg base G){xs:aH}(h:(xs.all λx=>match nsIn G.K aX x with|some J=>γ|_=>δ)=γ)(i:Nat)(hi:xs[i]?=Z x):mg x=J:=by
 let#v[hh,X,Gn]:=y.m;have e:=bc.mp h x (cG hi);split at e
 .rename_i e1;show W.mg_none_of X Gn e1
 .ext e
def GC(K:av)(x:Str)(i:Int):Prop:=∃t:Tok,nsIn K aX x=Z (Z (.int i t))
def Yw.ci(y:Yw P w mg base G)(q:GC G.K x i):zR G mg x (.int i):=by let#v[h,X,Gn]:=y.m;let#v[t,e]:=q;show const_int X Gn e
def GS(K:av)(x:Str)(xs:aH):Prop:=∃(a:Addr) (o:Obj) (its:Array ae) (n:Nat),nsIn K aX x=Z (Z (.ref a))/\K.lookup a=Z o/\o.cls=.type "tuple" /\ o.data=.seq its n/\its.size<=1000/\Ba its.toList xs
def Yw.cs(y:Yw P w mg base G)(q:GS G.K x xs):zR G mg x (.tup (xs.map D.str)):=by let#v[h,X,Gn]:=y.m;let#v[a,o,its,n,e,l,h1,h2,h3,h4]:=q;show Nk xs X Gn e l h1 h2 h3 h4
def GD(K:av)(x:Str)(st:Stmt):Prop:=∃(f:Addr) (fd:cv),nsIn K aX x=Z (Z (.ref f))/\Fun K x x st f fd
def GM(K:av)(C:Addr)(m qual:Str)(st:Stmt):Prop:=∃(f:Addr) (fd:cv),findIn K (.ref C) m=Z (Z (.ref f))/\isFn K (.ref f)=γ/\Fun K m qual st f fd
def GJ(K:av)(C:Addr)(qual:Str)(st:Stmt)(vs:bN):Prop:=∃(f:Addr) (fd:cv) (T:Addr) (o:Obj) (dl:List ae) (n:Nat),findIn K (.ref C) "__init__" = Z (Z (.ref f))/\isFn K (.ref f)=γ/\PJ K "__init__" qual st f fd T/\K.lookup T=Z o/\o.data=.seq dl.toArray n/\Vals vs dl
abbrev Bdy(P:aO)(w:aF)(K:av)(mg:Str->Option ae)(base:Heap)(N:aH)(qual:Str)(st:Stmt)(k:Nat)(t:TS):Prop:=∀(f:Addr) (cdv:ae) (A:aP) (outer:List Env) (s:af) (H:Hp) (E:XK),v5 k (A.deeper (envOfC qual (uh st) (~~~s) f cdv))->PSs (FB P w K mg base N qual st f cdv A outer s H E) (uG st) t
abbrev Bds(x qual:Str)(st:Stmt)(ps:aH):Prop:=Nl ps.length λus=>∀(kV doc pm:ae) (an:Option Addr) (cdv ct:ae),bindArgs (fnOf x qual (xH st) (uG st) (uh st) .none kV doc pm an cdv ct) ⟨us,[]⟩=pure (ps.zip us)
theorem Bds.ok(b:Bds x qual st ps)(F:Fun K x qual st f fd):Binds K fd ps []:=F.binds λkV doc pm an cdv ct us hl=>GF b us hl kV doc pm an cdv ct
theorem gD(y:Yw P w mg base G)(q:GD G.K x st)(bd:Bds x x st ps)(ok:∀f fd,Fun G.K x x st f fd->x9 P w G.K mg base CX0 k f fd ps sp):Eb P w G.K mg base k x ps sp:=by let#v[f,fd,a,F]:=q;show⟨f,fd,y.g a,F.kp,bd.ok F,ok f fd F⟩
def gF(hg:g=fnD np n b)(y:Yw P w mg base G)(q:GD G.K x st)(S:wx N ps (uh st))(body:Bdy P w G.K mg base N x st k (tFS G b))(hp:ps.length=np:=by rfl)(hN:N.length=n:=by rfl)(bd:Bds x x st ps:=by (repeat intro _);rfl):Eb P w G.K mg base (k+1) x ps (spF G g):=
 gD y q bd λf fd F=>Oj hg hp hN F S (body f)
def gN'(hg:g=fnN np n b)(y:Yw P w mg base G)(q:GD G.K x st)(S:wx N ps (uh st))(body:Bdy P w G.K mg base N x st k (tFS G b))(hp:ps.length=np:=by rfl)(hN:N.length=n:=by rfl)(bd:Bds x x st ps:=by (repeat intro _);rfl):Eb P w G.K mg base (k+1) x ps (spN G g):=
 gD y q bd λf fd F=>abS hg hp hN F S (body f)
def gI(hg:g=fnI c np n b)(y:Yw P w mg base G)(C:CF G.K (G.ca c) xs)(a:nsIn G.K aX x=Z (Z (.ref (G.ca c))))(q:GM G.K (G.ca c) "__init__" qual st)(S:wx N (p::ps) (uh st))(body:Bdy P w G.K mg base N qual st k (tFS G b))(hp:ps.length=np:=by rfl)(hN:N.length=n:=by rfl)(bd:Bds "__init__" qual st (p::ps):=by (repeat intro _);rfl):KC G P w mg base (k+1) x c (p::ps) [] g:=by let#v[f,fd,i,i',F]:=q;show⟨f,fd,[],⟨C.mks,i,i',C.kp⟩,y.g a,bd.ok F,.nil,abT hg hp hN F S (body f)⟩
def L1(h:Vals vs us):us.length=vs.length:=by
 induction h with
 |nil=>rfl
 |cons _ _ ih=>rw[aT,aT,ih]
def Qg(h:Vals vs us):∀j,Vals (vs.drop j) (us.drop j):=by
 induction h with
 |nil=>intro j;rw[pM,pM];show .nil
 |cons a b ih=>
  intro j;cases j with
  |zero=>show .cons a b
  |succ j=>show ih j
theorem gJ(hg:g=fnI c np n b)(y:Yw P w mg base G)(C:CF G.K (G.ca c) xs)(a:nsIn G.K aX x=Z (Z (.ref (G.ca c))))(q:GJ G.K (G.ca c) qual st vs)(S:wx N (p::ps) (uh st))(body:Bdy P w G.K mg base N qual st k (tFS G b))(j:Nat)(hp:ps.length=np:=by rfl)(hN:N.length=n:=by rfl)
  (bd:Nl vs.length λdl=>Nl ((p::ps).length - (vs.drop j).length) λus=>∀(T:Addr) (kV doc pm:ae) (an:Option Addr) (cdv ct:ae),∃k,bindArgs (fnOf "__init__" qual (xH st) (uG st) (uh st) (.ref T) kV doc pm an cdv ct) ⟨us,[]⟩=seqItems? (.ref T)>>=k/\k (Z dl.toArray)=pure ((p::ps).zip (us++dl.drop j)):=by (repeat intro _);show⟨_,O,O⟩):KC G P w mg base (k+1) x c (p::ps) (vs.drop j) g:=by
 let#v[f,fd,T,o,dl,n,i,i',F,l,e,r]:=q;calc⟨f,fd,dl.drop j,⟨C.mks,i,i',C.kp⟩,y.g a,F.binds l e λkV doc pm an cdv ct us hl=>?_,Qg r j,YD hg hp hN F S (body f)⟩;show GF (GF bd dl (L1 r)) us (by rw[hl,jh,jh,L1 r]) T kV doc pm an cdv ct
end
end L4
namespace L4
open PySem PySem.Spec PyProof.Rows L2 L3
def leS(a b:Str):Bool:=decide (a.cps.toList<=b.cps.toList)
def B4(ss:aH):aH:=ss.mergeSort leS
def HD(a b c:Str)(h:leS a b=γ)(h':leS b c=γ):leS a c=γ:=bh (List.le_trans (bF h) (bF h'))
def GH(a b:Str):(leS a b||leS b a)=γ:=by
 rw[jk];rcases List.le_total a.cps.toList b.cps.toList with h|h
 .show .inl (bh h)
 .show .inr (bh h)
def HE(a b:Str)(h:leS a b=γ)(h':leS b a=γ):a=b:=by have e:=List.le_antisymm (bF h) (bF h');cases a with|mk a=>cases b with|mk b=>ext a;ext b;simp only at e;rw[e]
theorem E7:∀(r:aH) (x:Str),risingS x r=γ->(∀y∈r,leS x y=γ)/\r.Pairwise λa b=>leS a b=γ
 |[],x,_=>⟨λy h=>(cw h).elim,.nil⟩
 |z::r,x,h=>by
  delta risingS at h;rw[aW,d6,ltCps_eq]at h;let#v[h1,h2]:=h;let#v[g1,g2]:=E7 r z h2;have h3:leS x z=γ:=bh (of_decide_eq_false h1);calc⟨λy hy=>?_,.cons g1 g2⟩;rcases aQ.mp hy with e|hy
  .rw[e];show h3
  .show HD _ _ _ h3 (g1 y hy)
def Nn:∀l:aH,sortedS l=γ->l.Pairwise λa b=>leS a b=γ
 |[],_=>.nil
 |x::r,h=>.cons (E7 r x h).1 (E7 r x h).2
def Np{l:aH}(p:l.Perm ss)(h:sortedS l=γ):l=B4 ss:=
 j4 (λa b _ _=>HE a b) (Nn l h) (iW HD GH ss) (p.trans (ic ss leS).symm)
theorem WK:∀{vs:List ae} {xs:aH},km vs xs->Vals (xs.map V.str) vs
 |_,_,.nil=>.nil
 |_,_,.cons x t h=>.cons ⟨t,O⟩ (WK h)
section
variable{X:Cx}{G:Bg}{pins:cJ}{σ:St}{H:Hp}{s:af}
theorem HF:∀xs:aH,Reps G H (xs.map D.str) (xs.map V.str)
 |[]=>uy
 |x::xs=>uD (A2 x) (HF xs)
def JD:D->Option D
 |.int i=>Z (.int (-i))
 |_=>J
def YW(ha:PE X a (tF G f)):PE X (.UnaryOp .USub a pos) (tF G (c1 JD f)):=PE.weak (abc XI ha) λσ H Q hh=>by
 sleep 9
 delta c1 at e;split at e
 .rename_i x ρ1 e1;cases x with
  |int i=>
   erw[JD]at e
   sleep 6
   subst r;show⟨i,O,k _ H1 H1' s R' (wK _)⟩
  |_=>erw[JD]at e;ext e
 .ext e
end
section
variable{P:aO}{w:aF}{mg:Str->Option ae}{base:Heap}{G:Bg}{x m qual:Str}{st:Stmt}{N ps:aH}{k c:Nat}
abbrev Bdi(P:aO)(w:aF)(K:av)(mg:Str->Option ae)(base:Heap)(N:aH)(qual:Str)(st:Stmt)(k:Nat)(t:TS):Prop:=∀{f:Addr} {cdv:ae} {A:aP} {outer:List Env} {s:af} {H:Hp} {E:XK},v5 k (A.deeper (envOfC qual (uh st) (~~~s) f cdv))->PSs (FB P w K mg base N qual st f cdv A outer s H E) (uG st) t
end
end L4
namespace L4
open PySem PySem.Spec PySem.Calls PyProof.Rows PySem.W L2 L3
structure Sto(c:Nat->Nat->Bool)(n:Nat):Prop where
 tr:∀i j k,i<n->j<n->k<n->c i j=γ->c j k=γ->c i k=γ
 tot:∀i j,i<n->j<n->i≠j->c i j=δ->c j i=γ
end L4
namespace L4
open PySem PySem.Spec PyProof.Rows L2 L3
section
variable{prog:aO}{w:aF}{A:aP}{E:ae->af->Prop}{s:af}
def Nq(hj:s.heap.IsTupleIter j t i)(ht:s.heap.IsTuple t xs)(hx:xs[i]?=Z x)
  (q:∀g,g.IsTupleIter j t (i+1)->dt j s.heap g->Q x { s with heap:=g }):ah (model prog w) A (fA (.ref j)) Q E s:=by
 let#v[ob,h0,hc,hd]:=id hj;let#v[ot,t0,_,nt,td]:=ht;delta fA
 sleep 2
 calc ag (fS h0 hd (x:=.int i 0) O ?_);change ah _ _ (seqItems? (.ref t)>>=_) _ _ _;calc ag (ee t0 td ?_);erw[d5,hx];calc ag (eS h0 hd (by simp) (au ⟨x,O,au (q _ ?_ (c7 ..))⟩));show⟨_,eG _ h0 (hX (dH hd _)),(jf ..).trans hc,by rw[dH hd];simp[rawInt]⟩
def Qh(hh:A.handled=J)(hj:s.heap.IsTupleIter j t i)(ht:s.heap.IsTuple t xs)(hx:xs[i]?=J)
  (q:∀g e,qe j s.heap g->(∃o,g.get? e=Z o/\o.cls=.type "StopIteration")->E (.ref e) { s with heap:=g }):ah (model prog w) A (fA (.ref j)) Q E s:=by
 let#v[ob,h0,hc,hd]:=id hj;let#v[ot,t0,_,nt,td]:=ht;delta fA
 sleep 2
 calc ag (fS h0 hd (x:=.int i 0) O ?_);change ah _ _ (seqItems? (.ref t)>>=_) _ _ _;calc ag (ee t0 td ?_);erw[d5,hx];calc ag (fi (ag (eS h0 hd (by simp) ?_)));change ah _ _ (newExc (.type "StopIteration") []>>=_) _ _ _;calc ag ?_;erw[newExc,newTuple];calc ag (eL ?_ (by size_fits));calc ag (m:=firstArgMember _ _) (lY (a:=Value.none) (by first|rfl|(erw[firstArgMember];rfl)) ?_);calc eL ?_ (by size_fits);erw[raiseNew];refine ag (pN ?_)
 first|rw[show A.in1.handled=J from hh]|rw[hh]
 calc ag (au (wpAny_throw ?_));show q _ _ (((c7 ..).extBut.push _).push _) ⟨_,bq _ O,O⟩
def Nr{z TI TO i1 i2 t l:Addr}{k:Nat}{xs ys:Array ae}{x y a b:ae}{Q:ae->af->Prop}(D:gE z TI TO i1 i2 t l)(hz:cH s.heap z TI TO .none)(hTI:bV s.heap TI (.ref i1) (.ref i2))(hTO:bV s.heap TO a b)(h1:s.heap.IsTupleIter i1 t k)(h2:s.heap.IsListIter i2 l k)(ht:s.heap.IsTuple t xs)(hl:s.heap.IsList l ys)(hx:xs[k]?=Z x)(hy:ys[k]?=Z y)
  (q:∀g,cH g z TI TO (rawInt (~~~s))->bV g TO x y->g.IsTupleIter i1 t (k+1)->g.IsListIter i2 l (k+1)->bV g (~~~s) x y->g.objs.size= ~~~s+1->(∀c o,c≠z->c≠TO->c≠i1->c≠i2->s.heap.get? c=Z o->g.get? c=Z o)->Q (.ref (~~~s)) { s with heap:=g }):
  ah (model prog w) A (cU.«zip.__next__» ⟨[.ref z],[]⟩) (λfin s'=>∃v,fin=.done (.ret v)/\Q v s') E s:=by
 sleep 1
 replace za:cH ga z TI TO .ellipsis:=za;calc ag ?_;erw[oV,o9,kP,pB];calc ag (ag (ly ?_));change ah _ _ (fA (.ref i1)>>=_) _ _ { s with heap:=ga };calc ag (Nq (h1.extBut ka.extBut D.i1z) (ht.extBut ka.extBut D.l1z) hx λgb jb kb=>au ?_);have tb:bV gb TO a b:=kb.extBut _ _ D.TOi1 (ka.extBut _ _ D.TOz hTO);calc ag (ee tb O (ag (nG tb λgc tc kc=>?_)));replace tc:bV gc TO x b:=tc;calc ag (wpAny_letGo (au (ag (ag (ly ?_)))));change ah _ _ (fA (.ref i2)>>=_) _ _ { s with heap:=gc };calc ag (wpAny_nextOf_list_item (((h2.extBut ka.extBut D.i2z).extBut kb.extBut D.i12.symm).extBut kc.extBut D.TOi2.symm) (((hl.extBut ka.extBut D.l2z).extBut kb.extBut D.l2i1).extBut kc.extBut D.l2TO) hy λgd jd kd=>au ?_);have td:bV gd TO x b:=kd.extBut _ _ D.TOi2 tc;calc ag (ee td O (ag (nG td λge te ke=>?_)));replace te:bV ge TO x y:=te;calc ag (wpAny_letGo (au (au (ag (ee te O (ag (kZ ?_)))))));have sz:ge.objs.size= ~~~s:=by rw[ke.1,kd.1,kc.1,kb.1,ka.1]
 have ze:cH ge z TI TO .ellipsis:=ke.extBut _ _ D.TOz.symm (kd.extBut _ _ D.i2z.symm (kc.extBut _ _ D.TOz.symm (kb.extBut _ _ D.i1z.symm za)));have kk:∀c o,c≠z->c≠TO->c≠i1->c≠i2->s.heap.get? c=Z o->ge.get? c=Z o:=λc o c1 c2 c3 c4 e=>ke.extBut _ _ c2 (kd.extBut _ _ c4 (kc.extBut _ _ c2 (kb.extBut _ _ c3 (ka.extBut _ _ c1 e))));have j1:ge.IsTupleIter i1 t (k+1):=((jb.extBut kc.extBut D.TOi1.symm).extBut kd.extBut D.i12).extBut ke.extBut D.TOi1.symm;have j2:ge.IsListIter i2 l (k+1):=jd.extBut ke.extBut D.TOi2.symm;have zl:z<ge.objs.size:=aK ze;change ah _ _ (mJ (.ref z) (.ref ge.objs.size)>>=_) _ _ _;calc ag ?_;delta mJ;have zf:cH (ge.push { cls:=.type "tuple", data:=.seq #[x,y] }) z TI TO .ellipsis:=aC _ ze;calc ag (i7 zf (by simp) λgg zg kg=>?_);replace zg:cH gg z TI TO (rawInt ge.objs.size):=zg;calc i7 zg (by simp) λgh zh kh=>?_;replace zh:cH gh z TI TO (rawInt ge.objs.size):=zh;have up:∀c o,c≠z->ge.get? c=Z o->gh.get? c=Z o:=λc o c1 e=>kh.extBut _ _ c1 (kg.extBut _ _ c1 (aC _ e));have tp:bV gh ge.objs.size x y:=kh.extBut _ _ (dQ zl) (kg.extBut _ _ (dQ zl) (bq _ O));have sh:gh.objs.size=ge.objs.size+1:=by rw[kh.1,kg.1,b9]
 rw[sz]at zh tp sh;calc au ⟨_,O,?_⟩;change Q (.ref ge.objs.size) { s with heap:=gh };rw[sz];let#v[o1,e1,r1]:=j1;show q gh zh (up _ _ D.TOz te) ⟨o1,up _ _ D.i1z e1,r1⟩ (j2.at λo e=>up _ o D.i2z e) tp sh λc o c1 c2 c3 c4 e=>up c o c1 (kk c o c1 c2 c3 c4 e)
def Qi{TI TO:Addr}(hh:A.handled=J)(D:gE z TI TO i1 i2 t l)(hz:cH s.heap z TI TO .none)(hTI:bV s.heap TI (.ref i1) (.ref i2))(h1:s.heap.IsTupleIter i1 t k)(ht:s.heap.IsTuple t xs)(hx:xs[k]?=J)
  (q:∀g e,(∀c o,c≠z->c≠i1->s.heap.get? c=Z o->g.get? c=Z o)->(∃o,g.get? e=Z o/\o.cls=.type "StopIteration")->E (.ref e) { s with heap:=g }):ah (model prog w) A (cU.«zip.__next__» ⟨[.ref z],[]⟩) Q E s:=by
 sleep 1
 replace za:cH ga z TI TO .ellipsis:=za;calc ag ?_;erw[oV,o9,kP,pB];calc ag (ag (ly ?_));change ah _ _ (fA (.ref i1)>>=_) _ _ { s with heap:=ga };calc ag (Qh hh (h1.extBut ka.extBut D.i1z) (ht.extBut ka.extBut D.l1z) hx λgb e kb he=>?_);let#v[oe,he1,he2]:=he;have zb:cH gb z TI TO .ellipsis:=kb _ _ D.i1z.symm za;have ne:e≠z:=λw=>by subst w;rw[zb]at he1;ext he1;simp at he2
 show i7 zb (by simp) λgc _ kc=>q gc e (λc o c1 c3 w=>kc.extBut _ _ c1 (kb _ _ c3 (ka.extBut _ _ c1 w))) ⟨oe,kc.extBut _ _ ne he1,he2⟩
def Nt{TI TO:Addr}(D:gE z TI TO i1 i2 t l)(hz:cH s.heap z TI TO .none)(hTI:bV s.heap TI (.ref i1) (.ref i2))(hTO:bV s.heap TO a b)(h1:s.heap.IsTupleIter i1 t k)(h2:s.heap.IsListIter i2 l k)(ht:s.heap.IsTuple t xs)(hl:s.heap.IsList l ys)(hx:xs[k]?=Z x)(hy:ys[k]?=Z y)
  (q:∀g,cH g z TI TO (rawInt (~~~s))->bV g TO x y->g.IsTupleIter i1 t (k+1)->g.IsListIter i2 l (k+1)->bV g (~~~s) x y->g.objs.size= ~~~s+1->(∀c o,c≠z->c≠TO->c≠i1->c≠i2->s.heap.get? c=Z o->g.get? c=Z o)->Q (Z (.ref (~~~s))) { s with heap:=g }):
  ah (model prog w) A (pyNext (.ref z)) Q E s:=by
 have T:s.TypeIs (.ref z) "zip" := ⟨_,hz,O⟩;delta pyNext;show ag (lA (iU (name:=gr "__next__") T jl (d7 jl T oW (Nr D hz hTI hTO h1 h2 ht hl hx hy λg a1 a2 a3 a4 a5 a6 a7=>au (q g a1 a2 a3 a4 a5 a6 a7)) (ox _))))
def Qj{TI TO:Addr}(hh:A.handled=J)(D:gE z TI TO i1 i2 t l)(hz:cH s.heap z TI TO .none)(hTI:bV s.heap TI (.ref i1) (.ref i2))(h1:s.heap.IsTupleIter i1 t k)(ht:s.heap.IsTuple t xs)(hx:xs[k]?=J)
  (q:∀g,(∀c o,c≠z->c≠i1->s.heap.get? c=Z o->g.get? c=Z o)->Q J { s with heap:=g }):ah (model prog w) A (pyNext (.ref z)) Q E s:=by
 have T:s.TypeIs (.ref z) "zip" := ⟨_,hz,O⟩;delta pyNext;calc ag (lA (iU (name:=gr "__next__") T jl (d7 jl T oW (Qi hh D hz hTI h1 ht hx λg e kk he=>?_) (ox _))));let#v[o,e1,e2]:=he;show ag (kK (T:="StopIteration") (b:=γ) ⟨o,e1,e2⟩ pC (au (q _ kk)))
end
abbrev zq1(h:Heap)(t:Addr):Heap:=h.push { cls:=.type "tuple_iterator", data:=.fields #[.ref t,.int 0 0] }
abbrev zq2(h:Heap)(t l:Addr):Heap:=(zq1 h t).push { cls:=.type "list_iterator", data:=.fields #[.ref l,.int 0 0] }
abbrev zq3(h:Heap)(t l:Addr):Heap:=(zq2 h t l).push { cls:=.type "tuple", data:=.seq #[.ref h.objs.size,.ref (zq1 h t).objs.size] }
abbrev zq4(h:Heap)(t l:Addr):Heap:=(zq3 h t l).push { cls:=.type "tuple", data:=.seq #[.none,.none] }
abbrev zq5(h:Heap)(t l:Addr):Heap:=(zq4 h t l).push { cls:=.type "zip", data:=.fields #[.none,.bool δ,.bool δ,.ref (zq2 h t l).objs.size,.ref (zq3 h t l).objs.size] }
def Qk(t l:Addr)(xs ys:Array ae):Meets (cU.«zip.__new__» ⟨[.type "zip", .ref t,.ref l],[]⟩) (λ_ R s=>s.heap.IsTuple t xs/\s.heap.IsList l ys/\R (.ok (.ret (.ref (zq4 s.heap t l).objs.size))) { s with heap:=zq5 s.heap t l }):=
 .of_wp λprog w A R s h=>by
  let#v[hp,g,d,tk,os]:=s;let#v[ht,hl,h]:=h;have hs:=sub_zip;have H1:Heap.IsTuple (qf ⟨hp,g,d,tk,os⟩) t xs:=ht;have H2:Heap.IsList (qf ⟨hp.push { cls:=.type "tuple_iterator", data:=.fields #[.ref t,.int 0 0] },g,d,tk,os⟩) l ys:=sU hl _
  wp_walk using kx H1,eK H2
  show⟨_,O,h⟩
section
variable{prog:aO}{w:aF}{A:aP}{E:ae->af->Prop}{s:af}
theorem Nu(ht:s.heap.IsTuple t xs)(hl:s.heap.IsList l ys)
  (q:∀g,cH g (~~~s+4) (~~~s+2) (~~~s+3) .none->bV g (~~~s+2) (.ref (~~~s)) (.ref (~~~s+1))->bV g (~~~s+3) .none .none->g.IsTupleIter (~~~s) t 0->g.IsListIter (~~~s+1) l 0->(∀c o,s.heap.get? c=Z o->g.get? c=Z o)->Q (.ref (~~~s+4)) { s with heap:=g }):
  ah (model prog w) A (call (.type "zip") [.ref t,.ref l]) Q E s:=by
 calc callType_new F.called_zip #[] (F.typeCall_zip_2 _ _) (F.newCall_zip_2 _ _) (λobj=>F.args_object_init_3 obj _ _) F.entry_zip_new (Qk t l xs ys) ⟨ht,hl,?_⟩;have s1:(zq1 s.heap t).objs.size= ~~~s+1:=b9 ..;have s2:(zq2 s.heap t l).objs.size= ~~~s+2:=by rw[b9,s1]
 have s3:(zq3 s.heap t l).objs.size= ~~~s+3:=by rw[b9,s2]
 have s4:(zq4 s.heap t l).objs.size= ~~~s+4:=by rw[b9,s3]
 have u5:(zq5 s.heap t l).get? (zq4 s.heap t l).objs.size=Z _:=bq _ O;have u4:(zq5 s.heap t l).get? (zq3 s.heap t l).objs.size=Z _:=aC _ (bq _ O);have u3:(zq5 s.heap t l).get? (zq2 s.heap t l).objs.size=Z _:=aC _ (aC _ (bq _ O));have u2:(zq5 s.heap t l).get? (zq1 s.heap t).objs.size=Z _:=aC _ (aC _ (aC _ (bq _ O)));have u1:(zq5 s.heap t l).get? (~~~s)=Z _:=aC _ (aC _ (aC _ (aC _ (bq _ O))));change _/\_;rw[s2,s3,s4]at u5;rw[s1,s2]at u3;rw[s3]at u4;rw[s1]at u2;rw[s4];show⟨⟨_,u5,O⟩,q _ u5 u3 u4 ⟨_,u1,O,O⟩ ⟨_,u2,O,O⟩ λc o e=>aC _ (aC _ (aC _ (aC _ (aC _ e))))⟩
end
def ItzT(K:av)(t l:Addr)(xs ys:bN):It:=
 ⟨λi H=>∃x y,SqT K H t xs/\H l=Z (.lst ys)/\xs[i]?=Z x/\ys[i]?=Z y,
  λi H v H'=>∃p x y,H p=J/\v=.ref p/\H'=upd H p (.tup [x,y])/\xs[i]?=Z x/\ys[i]?=Z y,
  λi H=>SqT K H t xs/\H l=Z (.lst ys)/\xs.length<=i⟩
def zTt(z TI TO i1 i2 t l:Addr)(i:Nat)(h:Heap):Prop:=cH h z TI TO .none/\bV h TI (.ref i1) (.ref i2)/\(∃a b,bV h TO a b)/\h.IsTupleIter i1 t i/\h.IsListIter i2 l i
def Ql{K:av}{x1}{TI TO:Addr}(D:gE z TI TO i1 i2 t l):Turn P w K (.Tuple elts x1 pos) (ItzT K t l xs ys) [z,TI,TO,i1,i2] z (zTt z TI TO i1 i2 t l) where
 mem:=by simp
 obj:=λi h st b hb=>by
  let#v[hz,h1,#v[a,c,h2],#v[o3,h3,_,d3],#v[o4,h4,_,d4]]:=st;erw[aQ,cw,or_false]at hb;rcases hb with rfl|rfl|rfl|rfl|rfl
  .show⟨_,hz,λv y=>nomatch y⟩
  .show⟨_,h1,λv y=>nomatch y⟩
  .show⟨_,h2,λv y=>nomatch y⟩
  .show⟨o3,h3,λv y=>by rw[d3]at y;ext y⟩
  .show⟨o4,h4,λv y=>by rw[d4]at y;ext y⟩
 keep:=λi h h' st k=>by let#v[hz,h1,#v[a,c,h2],#v[o3,h3,r3],h4]:=st;show⟨k z (by simp) _ hz,k TI (by simp) _ h1,⟨a,c,k TO (by simp) _ h2⟩,⟨o3,k i1 (by simp) o3 h3,r3⟩,h4.at λo e=>k i2 (by simp) o e⟩
 item:=by
  sleep 8
  let#v[x,y,q1,q2,qx,qy]:=hg;let#v[hz,hTI,#v[a,b,hTO],h1,h2]:=st;let#v[its,r1,p1,_]:=I.tuple q1;let#v[jts,r2,p2,_]:=I.list (SqL.of q2);let#v[u1,hu1,ru1]:=r1.get qx;let#v[u2,hu2,ru2]:=r2.get qy;have lt:∀{c:Addr} {o:Obj},s.heap.get? c=Z o-> ~~~s≠c:=λe w=>ar (aK e) (by rw[w];show dN _);calc Nt D hz hTI hTO h1 h2 p1 p2.isList (x:=u1) (y:=u2) (by exists hu1) (by exists hu2) λh' a1 a2 a3 a4 a5 a6 kk=>?_;calc⟨_,O,wpAny_letOwnedTupleGo_zip (s:={ s with heap:=h' }) a1 λh2' hz' sb=>?_⟩;have Tz: ~~~s≠z:=lt hz;have hp:bV h2' (~~~s) u1 u2:=sb.extBut _ _ Tz a5;have ch4:∀b∈[z,TO,i1,i2],b∈[z,TI,TO,i1,i2]:=λb hb=>by simp at hb ⊢;rcases hb with rfl|rfl|rfl|rfl<;>simp
  have ok:ObjOk X.prog X.w (upd H (~~~s) (.tup [x,y])) h2' (~~~s) (.tup [x,y]):=⟨by rw[bR];change 2<=16777216;decide,[u1,u2],.cons ru1 (.cons ru2 .nil),_,hp,O,_,O⟩;have I1:=Inv.turnedLaid (h':=h2') (t':=s.toks) (T:= ~~~s) (xs:=[x,y]) (ch:=[z,TO,i1,i2]) I (λb hb=>hf b (ch4 b hb))
   (λb o hb e=>sb.extBut _ _ (λw=>hb (by simp[w])) (kk b o (λw=>hb (by simp[w])) (λw=>hb (by simp[w])) (λw=>hb (by simp[w])) (λw=>hb (by simp[w])) e)) (aS _) ok
  have DD:=D;calc⟨.ref (~~~s),_,I1,O,⟨_,x,y,I.hok.fresh (aS _),O,O,qx,qy⟩,⟨hz',sb.extBut _ _ D.TIz (kk _ _ D.TIz D.TITO D.TIi1 D.TIi2 hTI),⟨_,_,sb.extBut _ _ D.TOz a2⟩,a3.extBut sb.extBut D.i1z,a4.extBut sb.extBut D.i2z⟩,λb hb=>?_⟩;rw[tT (λw=>?_)]
  .show(hf b hb).1
  .erw[aQ,cw,or_false]at hb;rcases hb with hb|hb|hb|hb|hb
   .show lt hz (w.symm.trans hb)
   .show lt hTI (w.symm.trans hb)
   .show lt hTO (w.symm.trans hb)
   .let#v[o,e,_]:=h1;show lt e (w.symm.trans hb)
   .let#v[o,e,_]:=h2;show lt e (w.symm.trans hb)
 done:=by
  sleep 8
  let#v[q1,q2,hend]:=hg;let#v[hz,hTI,#v[a,b,hTO],h1,h2]:=st;let#v[its,r1,p1,_]:=I.tuple q1;have e1:=r1.length;calc Qj (I.ok.hd hc) D hz hTI h1 p1 (by simp;omega) λh' kk=>⟨O,?_⟩;have ch4:∀b∈[z,i1],b∈[z,TI,TO,i1,i2]:=λb hb=>by simp at hb ⊢;rcases hb with rfl|rfl<;>simp
  have nch:∀{b:Addr} {u:HO},H b=Z u->b∉[z,i1]:=λe w=>by have:=(hf _ (ch4 _ w)).1;rw[e]at this;ext this
  have k:∀b o,b∉[z,i1]->s.heap.get? b=Z o->h'.get? b=Z o:=λb o hb e=>kk b o (λw=>hb (by simp[w])) (λw=>hb (by simp[w])) e;refine I.step (g':=s.gens) (d':=s.drawn) (t':=s.toks) (ch:=[z,i1]) (λb hb=>?_) (λb o _ _ hc e _=>k b o hc e) (λb o _ _ hc e _=>⟨o.slots,k b o hc e⟩) (λb o _ e n=>n) (λb o hc e=>⟨o,k b o hc e⟩)
   (λb ys e=>e) (λb o u e=>e) (λb ps e=>⟨[].toArray,by rw[e];simp⟩) (λm hm=>?_) (λb u e=>?_) I.bare
  .let#v[f0,f1,f2,f3,f4,f5]:=hf b (ch4 b hb);show⟨f3,f1,f4,f5⟩
  .show hm.at' λo e=>k _ o (λw=>(hf _ (ch4 _ w)).2.1 O) e
  .calc(I.hok b u e).stay (λc v hc q=>k c v ?_ q) (λc q=>q) λc ys q=>q;rcases hc with rfl|hc
   .show nch e
   .show nch hc
 self:=λ_ _ _ _ _ st h=>oX st.1 h
section
variable{X:Cx}{G:Bg}{elts:List Expr}{x1:Nat}{tpos:Pos}
def WL(K:av)(ta:TA):TI:=λσ H R=>ta σ H λvs H1=>∃a b xs ys,vs=[.ref a,.ref b]/\SqT K H1 a xs/\H1 b=Z (.lst ys)/\R (ItzT K a b xs ys) H1
def VS(K:av)(hg:Gl X "zip")(hm:X.mg "zip" = J)(ha:PA X [a,b] ta)(hK:X.K=K:=by rfl)(hs:aG [a,b] X.env=[(δ,eval a X.env),(δ,eval b X.env)]:=by rfl)(hs2:aG [b] X.env=[(δ,eval b X.env)]:=by rfl):
  PI X (.Tuple elts x1 tpos) (.Call (.Name "zip" p) [a,b] [] pos) (WL K ta):=by
 subst hK;intro pins s σ H R I h;calc Call_ (AX I hg hm boot_zip (callWith_type1 (thn (ha pos pins s σ H _ I h) λus s1 zz=>?_) (by rw[hs,hs2]) (by rw[hs2];rfl)));let#v[vs,H1,I1,r1,q1]:=zz;let#v[a',b',xs,ys,rfl,e1,e2,q]:=q1;let#v[u,v,rfl,ru,rv]:=vals2 r1;ext ru;ext rv;let#v[its,_,p1,_]:=I1.tuple e1;let#v[jts,_,p2,_]:=I1.list (SqL.of e2);calc Nu p1 p2.isList λh' z1 z2 z3 z4 z5 kk=>?_;calc oX z1 ?_;have I2:Inv X pins σ H1 { s1 with heap:=h' }:=I1.kept (t':=s1.toks) kk;have D0:=YR (~~~s1);have la:a'< ~~~s1:=by let#v[o,e,_]:=p1;show aK e
 have lb:b'< ~~~s1:=by let#v[o,e,_]:=p2.isList;show aK e
 have ne:∀{c:Addr} (n:Nat),c< ~~~s1->c≠~~~s1+n:=λn h=>aV (bY h (de _ _));have D:gE (~~~s1+4) (~~~s1+2) (~~~s1+3) (~~~s1) (~~~s1+1) a' b':=⟨D0.a,D0.b,D0.c,D0.d,D0.e,D0.f,D0.g,D0.h,D0.i,D0.j,ne 4 la,ne 3 la,ne 0 la,ne 1 la,ne 4 lb,ne 3 lb,ne 0 lb,ne 1 lb⟩;calc⟨_,_,_,_,H1,O,I2,Ql D,⟨z1,z2,⟨_,_,z3⟩,z4,z5⟩,λc hc=>?_,q⟩;have hc': ~~~s1<=c:=by erw[aQ,cw,or_false]at hc;rcases hc with rfl|rfl|rfl|rfl|rfl<;>first|show de _ _|show aS _
 show I1.fpOk hc' (I1.hok.fresh hc')
def iZT(f:FA):FA:=λρ=>match f ρ with
 |some ([.tup ds,.lst es],ρ1)=>if ds.length<=es.length then Z (Nf ds es,ρ1)else J
 |_=>J
def SA(h:PI X tg e (WL G.K (tFA G f))):PI X tg e (tFI G (iZT f)):=PI.weak h λσ H R hh=>by
 let#v[F,ρ,H0,ds,ρ',R,e,k]:=hh;delta iZT at e;split at e
 .rename_i ds' es' ρ1 e1;split at e
  .rename_i hle;ext e;calc⟨F,ρ,H0,_,_,R,e1,λvs H1 H1' s R' rs=>?_⟩;delta Reps at rs;let#v[v1,r1,rfl,h1,rs]:=rs;delta Reps at rs;let#v[v2,r2,rfl,h2,rs]:=rs;delta Reps at rs;subst rs;delta Rep at h1 h2;let#v[a,xs,rfl,a1,a2]:=h1;let#v[b,ys,rfl,b1,b2]:=h2;calc⟨a,b,xs,ys,O,SqT.mono R'.sub a1,R'.sub _ _ b1,k _ _ _ s R' λi H2 H2' t t'=>?_⟩;have g1:SqT G.K H2' a xs:=SqT.mono t' (SqT.mono t a1);have g2:H2' b=Z (.lst ys):=t' _ _ (t _ _ b1);refine⟨λd ed=>?_,λhl=>⟨g1,g2,?_⟩⟩
   .delta Nf at ed;rw[nr]at ed;cases ex:ds'[i]? with
    |none=>rw[ex]at ed;cases ed
    |some dx=>
     cases ey:es'[i]? with
     |none=>rw[ex,ey]at ed;cases ed
     |some dy=>
      rw[ex,ey]at ed;ext ed;let#v[vx,x1',x2]:=xJ a2 ex;let#v[vy,y1',y2]:=xJ b2 ey;calc⟨⟨vx,vy,g1,g2,x1',y1'⟩,λx H3 y=>?_⟩;let#v[p,x',y',hp,rfl,rfl,e1',e2']:=y;rw[x1']at e1';rw[y1']at e2';ext e1';ext e2';have p0:H2 p=J:=by
       cases q:H2 p with
       |none=>rfl
       |some o=>have:=t' _ _ q;rw[hp]at this;ext this
      refine⟨upd H2 p (.tup [vx,vy]),ui p0 _,λb o e=>?_,ui hp _,λb o e=>?_,D5 (SqT.of tU) ?_⟩
      .by_cases hb:b=p
       .subst hb;rw[tU]at e ⊢;show e
       .rw[tT hb]at e ⊢;show t' _ _ e
      .by_cases hb:b=p
       .subst hb;show .inr hp
       .rw[tT hb]at e;show .inl e
      .have m:=t.trans (ui p0 (.tup [vx,vy]));show uD (Rep.mono m _ _ x2) (uD (Rep.mono m _ _ y2) uy)
   .have:=tP a2;rw[Sh]at hl;omega
  .ext e
 .ext e
end
end L4
namespace L4
open PySem PySem.Spec PySem.Calls PyProof.Rows PySem.W L2 L3
section
variable{X:Cx}{G:Bg}{pins:cJ}{σ:St}{H:Hp}{s:af}
def I0(K:av)(H:Hp)(y:V)(k:aH):Prop:=∃a p q,y=.ref a/\k=[p,q]/\SqT K H a [.str p,.str q]
def SB(I:Inv X pins σ H s)(h:I0 X.K H y k)(r:RelV y u):∃a p q t v,u=.ref a/\k=[p,q]/\gL s.heap a #[.str p t,.str q v]:=by
 let#v[a,p,q,rfl,rfl,h1]:=h;ext r;let#v[its,ri,ti,_]:=I.tuple h1;cases ri with
 |cons q1 q2=>
  let#v[t,rfl]:=q1;cases q2 with
  |cons q3 q4=>let#v[v,rfl]:=q3;ext q4;show⟨a,p,q,t,v,O,O,ti⟩
end
section
variable{prog:aO}{w:aF}{A:aP}{s:af}
def It2(h:Heap)(its:List ae)(ks:List aH):Prop:=∀i,i<its.length->∃a p q t v,its.getD i Value.none=.ref a/\ks.getD i []=[p,q]/\gL h a #[.str p t,.str q v]/\its[i]?=Z (.ref a)
def Qm(item:It2 s.heap its ks)(h1:0<its.length)(hC:C (tuples' γ) s):ah (model prog w) A (keyKind' its.toArray) C (λ_ _=>False) s:=by
 have tups:∀(l:List ae),(∀v∈l,∃i,i<its.length/\its[i]?=Z v)->∃fs,KatTups s.heap l fs/\fs.length=l.length/\∀f∈fs,∃(x:Str) (t:Tok),f=.str x t:=λl=>by
  induction l with
  |nil=>show λ_=>⟨[],KatTups.nil,O,λf hf=>by ext hf⟩
  |cons v l ih=>
   intro hv;let#v[fs,f1,f2,f3]:=ih λw hw=>hv w (.tail _ hw);let#v[i,hi,ei]:=hv v (.head _);let#v[a,p,q,t,w,_,_,#v[o,t1,t2,n,t3],t5]:=item i hi;rw[ei]at t5;ext t5;calc⟨.str p t::fs,KatTups.cons t1 t2 t3 (by simp) f1,by rw[aT,aT,f2],λf hf=>?_⟩;rcases aQ.mp hf with rfl|hf
   .show⟨p,t,O⟩
   .show f3 f hf
 let#v[fs,f1,f2,f3]:=tups its λv hv=>by let#v[i,hi,e]:=kl.mp hv;show⟨i,hi,by rw[bg hi,e]⟩
 refine kat_kind (T:=.type "str") f1 () (λv hv=>?_) #[] ?_
 .let#v[x,t,rfl]:=f3 v hv;show .now
 .rw[show (Value.type "str" != Value.type "tuple")=γ by decide];show hC
def SC(item:It2 s.heap its ks)(hij:i<its.length/\j<its.length)(hC:C (IZ (ks.getD i []) (ks.getD j [])) s):jC prog w A (tuples' γ) its i j C s:=by
 let#v[a1,p1,q1,t1,v1,e1,k1,#v[o1,g1,c1,n1,d1],_]:=item i hij.1;let#v[a2,p2,q2,t2,v2,e2,k2,#v[o2,g2,c2,n2,d2],_]:=item j hij.2;delta jC;rw[e1,e2];rw[k1,k2]at hC;calc kat_lt g1 d1 g2 d2 ?_;change KatLex _ _ _ _ _ _ [(Value.str p1 t1,Value.str p2 t2),(Value.str q1 v1,Value.str q2 v2)] 0 _;calc kat_cons (ky p1 t1 p2 t2 _ _ _ _ ?_);delta IZ at hC;by_cases hpp:p1=p2
 .subst hpp;rw[ao O]at hC;rw[beq_self_eq_true];calc kat_yes (kat_cons (ky q1 v1 q2 v2 _ _ _ _ ?_));delta IZ at hC;by_cases hqq:q1=q2
  .subst hqq;rw[ao O]at hC;rw[beq_self_eq_true];show kat_yes (kat_nil hC)
  .rw[ak hqq]at hC;rw[beq_false_of_ne hqq];show kat_no (kat_one _ _ (sJ hC))
 .rw[ak hpp]at hC;rw[beq_false_of_ne hpp];show kat_no (oneLt_str hC)
end
section
variable{X:Cx}{G:Bg}{pins:cJ}{σ:St}{H:Hp}{s:af}
def KJ(hu:X.A.units+64<cLine):vT X (.builtin "sorted") (λxs H Q=>∃(a:Addr) (ys:bN) (ks:List aH),xs=[.ref a]/\SqL X.K H a ys/\0<ys.length/\ys.length<64/\ks.length=ys.length/\(∀(i:Nat) (y:V) (k:aH),ys[i]?=Z y->ks[i]?=Z k->I0 X.K H y k)/\
  ∀p,H p=J->Q (.ref p) (upd H p (.lst ((Nj (λi j=>IZ (ks.getD i []) (ks.getD j [])) ys.length).map λi=>ys.getD i V.non)))):=by
 intro pins s σ H xs us Q I r h;let#v[a,ys,ks,rfl,hq,h1,h64,hkl,hp,q]:=h;let#v[u,rfl,ru]:=vals1 r;ext ru;let#v[its,ri,T,ob,nn,hT,b1,b2,b3]:=seq_val I (.inl hq);have hl:ys.length=its.length:=ri.length;have item:∀{h':Heap},(∀b o,s.heap.get? b=Z o->h'.get? b=Z o)->It2 h' its ks:=λ{h'} kk i hi=>by
  have I':Inv X pins σ H { s with heap:=h',toks:=s.toks }:=I.kept kk;have hy:i<ys.length:=by omega
  have hk:i<ks.length:=by omega
  let#v[u,e,ru]:=ri.get (bg hy);let#v[a,p,q,t,v,rfl,ek,ti]:=SB I' (hp i _ _ (bg hy) (bg hk)) ru;refine⟨a,p,q,t,v,?_,?_,ti,e⟩
  .rw[cF,e];rfl
  .rw[cF,bg hk];show ek
 refine Ni (κ:=tuples' γ) (c:=λi j=>IZ (ks.getD i []) (ks.getD j [])) hT b1 b2 b3 () () (λh' C kk hC=>Qm (s:={ s with heap:=h' }) (item kk) () hC) (λh' i j C kk hij hC=>SC (s:={ s with heap:=h' }) (item kk) hij hC) λg h' e k1 k2 ho=>?_
 .have I1:Inv X pins σ H { s with heap:=g,toks:=s.toks }:=I.kept k1;calc⟨.ref g.objs.size,_,I1.laid (t':=s.toks) k2 (aS _) ?_,O,q _ (I1.hok.fresh (aS _))⟩;have hn:0<ys.length:=h1;refine⟨?_,E5 _ its,e,?_,ho⟩
  .rw[aq,(E6 _ hn).length_eq,cN,bR];omega
  .delta E5;rw[<-hl];show JA ri _ λi hi=>KH _ hn i hi
end
def SD:D->Option aH
 |.tup [.str p,.str q]=>Z [p,q]
 |_=>J
def B5:bw->Option (List aH)
 |[]=>Z []
 |d::ds=>match SD d,B5 ds with
  |some k,Z ks=>Z (k::ks)
  |_,_=>J
def HG(ds:bw):Option bw:=match B5 ds with
 |some ks=>if 0<ds.length/\ds.length<64 then Z ((Nj (λi j=>IZ (ks.getD i []) (ks.getD j [])) ds.length).map λi=>ds.getD i .non)else J
 |none=>J
def E8(f:FE):FA:=λρ=>match f ρ with
 |some (.lst ds,ρ')=>match HG ds with
  |some es=>Z (es,ρ')
  |none=>J
 |_=>J
section
variable{X:Cx}{G:Bg}{H:Hp}
def SE(r:Rep G H d v)(e:SD d=Z k):I0 G.K H v k:=by
 delta SD at e;split at e
 .rename_i p q;ext e;delta Rep at r;let#v[a,xs,rfl,h1,h2]:=r;delta Reps at h2;let#v[v1,r1,rfl,q1,q2]:=h2;delta Reps at q2;let#v[v2,r2,rfl,q3,q4]:=q2;delta Reps at q4;delta Rep at q1 q3;subst q4 q1 q3;show⟨a,p,q,O,O,h1⟩
 .ext e
theorem JE:∀{ds:bw} {ks:List aH},B5 ds=Z ks->ks.length=ds.length
 |[],ks,e=>by ext e;rfl
 |d::ds,ks,e=>by
  delta B5 at e;cases e1:SD d with
  |none=>rw[e1]at e;cases e
  |some k=>
   cases e2:B5 ds with
   |none=>rw[e1,e2]at e;cases e
   |some ks'=>rw[e1,e2]at e;ext e;rw[aT,aT,JE e2]
theorem JF:∀{ds:bw} {ks:List aH} {xs:bN},Reps G H ds xs->B5 ds=Z ks->∀(i:Nat) (y:V) (k:aH),xs[i]?=Z y->ks[i]?=Z k->I0 G.K H y k
 |[],ks,xs,r,e,i,y,k,h1,h2=>by ext e;cases h2
 |d::ds,ks,xs,r,e,i,y,k,h1,h2=>by
  delta B5 at e;cases e1:SD d with
  |none=>rw[e1]at e;cases e
  |some k'=>
   cases e2:B5 ds with
   |none=>rw[e1,e2]at e;cases e
   |some ks'=>
    rw[e1,e2]at e;ext e;delta Reps at r;let#v[v,r',rfl,q1,q2]:=r;cases i with
    |zero=>ext h1;ext h2;show SE q1 e1
    |succ i=>show JF q2 e2 i y k h1 h2
theorem I0.mono{K:av}(s:ue H0 H1)(h:I0 K H0 y k):I0 K H1 y k:=by let#v[a,p,q,e1,e2,h1]:=h;show⟨a,p,q,e1,e2,SqT.mono s h1⟩
def L6(h:PE X e (tCB (λxs H Q=>∃(a:Addr) (ys:bN) (ks:List aH),xs=[.ref a]/\SqL G.K H a ys/\0<ys.length/\ys.length<64/\ks.length=ys.length/\(∀(i:Nat) (y:V) (k:aH),ys[i]?=Z y->ks[i]?=Z k->I0 G.K H y k)/\
  ∀p,H p=J->Q (.ref p) (upd H p (.lst ((Nj (λi j=>IZ (ks.getD i []) (ks.getD j [])) ys.length).map λi=>ys.getD i V.non)))) (tFA G (aCons f uk)))):PE X e (tFN G (E8 f)):=PE.weak h λσ H Q hh=>by
 let#v[F,ρ,H0,es,ρ',R,e,k]:=hh;delta E8 at e;split at e
 .rename_i ds ρ1 e1;cases e2:HG ds with
  |none=>erw[e2]at e;cases e
  |some es'=>
   erw[e2]at e;ext e;delta HG at e2;cases e3:B5 ds with
   |none=>erw[e3]at e2;cases e2
   |some ks=>
    erw[e3]at e2;split at e2
    .rename_i hh;let#v[hn,h64]:=hh;ext e2;refine⟨F,ρ,H0,[.lst ds],_,R,by delta aCons;rw[e1];rfl,λys H1 H1' s R' rs=>?_⟩
     sleep 4
     delta Rep at rv;let#v[a,xs,rfl,h1,h2]:=rv;have hl:=tP h2;calc⟨a,xs,ks,O,SqL.of (R'.sub _ _ h1),by omega,by omega,by rw[JE e3,hl],λi y kk q1 q2=>I0.mono R'.sub (JF h2 e3 i y kk q1 q2),λp hp=>?_⟩;calc k p _ _ _ s (R'.newOwn hp _) tU (R'.h0none hp) (R'.bNone hp) (R'.apart hp) ?_;rw[<-hl];show JB h2 _ λi hi=>KH _ hn i hi
    .ext e2
 .ext e
def Ja(hu:X.A.units+64<cLine)(hK:X.K=G.K:=by rfl):vT X (.builtin "sorted") (λxs H Q=>∃(a:Addr) (ys:bN) (ks:List aH),xs=[.ref a]/\SqL G.K H a ys/\0<ys.length/\ys.length<64/\ks.length=ys.length/\(∀(i:Nat) (y:V) (k:aH),ys[i]?=Z y->ks[i]?=Z k->I0 G.K H y k)/\
  ∀p,H p=J->Q (.ref p) (upd H p (.lst ((Nj (λi j=>IZ (ks.getD i []) (ks.getD j [])) ys.length).map λi=>ys.getD i V.non)))):=by rw[<-hK];show KJ hu
end
end L4
namespace L4
open PySem PySem.Spec PyProof.Rows L2 L3
def GDa(K:av)(x nm:Str)(st:Stmt):Prop:=∃(f:Addr) (fd:cv),gH K aX x=Z (Z (.ref f))/\Fun K nm nm st f fd
theorem gFa{st:Stmt}(hg:g=fnD np n b)(y:Yw P w mg base G)(q:GDa G.K x nm st)(S:wx N ps (uh st))(body:Bdi P w G.K mg base N nm st k (tFS G b))(hp:ps.length=np:=by rfl)(hN:N.length=n:=by rfl)(bd:Bds nm nm st ps:=by (repeat intro _);rfl):Eb P w G.K mg base (k+1) x ps (spF G g):=by let#v[f,fd,a,F]:=q;show⟨f,fd,y.g a,F.kp,bd.ok F,Oj hg hp hN F S λ_ _ _ _ _ _ hr=>body hr⟩
structure Bz where
 P:aO
 w:aF
 mg:Str->Option ae
 base:Heap
 G:Bg
structure ZE(X:Cx)(B:Bz)(e:Expr)(f:FE):Prop where p:PE X e (tF B.G f)
structure ZN(X:Cx)(B:Bz)(e:Expr)(f:FA):Prop where p:PE X e (tFN B.G f)
structure ZT(X:Cx)(B:Bz)(e:Expr)(f:FT):Prop where p:PT X e (tFT B.G f)
structure ZW(X:Cx)(B:Bz)(e:Expr)(f:FT):Prop where p:PW X e (tFT B.G f)
structure ZF(X:Cx)(B:Bz)(e:List Expr)(f:FT):Prop where p:PIf X e (tFT B.G f)
structure ZA(X:Cx)(B:Bz)(e:List Expr)(f:FA):Prop where p:PA X e (tFA B.G f)
structure ZS(X:Cx)(B:Bz)(e:Stmt)(f:FS):Prop where p:PS X e (tFS B.G f)
structure ZB(X:Cx)(B:Bz)(e:List Stmt)(f:FS):Prop where p:PSs X e (tFS B.G f)
structure ZI(X:Cx)(B:Bz)(tg e:Expr)(f:FA):Prop where p:PI X tg e (tFI B.G f)
structure ZO(X:Cx)(B:Bz)(e:Option Expr)(f:FO):Prop where p:PO X e (tFO B.G f)
structure ZG(X:Cx)(B:Bz)(e:Expr)(n:Nat)(f:FG):Prop where p:PG X e (tFG B.G n f)
structure ZH(X:Cx)(B:Bz)(e:List Expr)(n:Nat)(f:bw->aJ->Option aJ):Prop where p:PGs X e (Rr B.G n f)
structure ZK(X:Cx)(e:Option Expr)(i:Option Int):Prop where p:PO X e (tO i)
abbrev Gz(X:Cx)(x:Str):Prop:=X.env.kindOf x=Z .globalImplicit
abbrev Dz(x:Str):Prop:=(x==("__debug__" : Str))=δ
abbrev Nz(x:Str):Prop:=(decide (x≠"__name__")&&!(x==("__debug__" : Str)))=γ
abbrev Sz(X:Cx)(e:Expr)(es:List Expr):Prop:=aG (e::es) X.env=(δ,eval e X.env)::aG es X.env
abbrev S1(X:Cx)(e:Expr):Prop:=aG [e] X.env=[(δ,eval e X.env)]
abbrev Lz(X:Cx)(pos:Pos)(es:List Expr):Prop:=(bJ pos (aG es X.env)).any (·.1)=δ
abbrev Wz(X:Cx)(e o:Expr)(pos:Pos):Prop:=dB e (Z o) pos.line X.env=pure δ
abbrev Az(X:Cx)(o:Expr)(m:Str):Prop:=eU o m X.env (eval o X.env)=eval o X.env
abbrev Ez(p pos:Pos):Prop:=(p.endLine==pos.line)=γ
abbrev Iz(e:Expr):Prop:=(λo i=>subscripted e δ o i)=λo i=>operate [o,i] (getItem o i)
abbrev Fz(X:Cx)(e:Expr):Prop:=(λx=>ig e X.env x)=λx=>pure x
class Cz(X:Cx)(B:outParam Bz)(k:outParam Nat):Prop where
 P:X.prog=B.P
 w:X.w=B.w
 K:X.K=B.G.K
 mg:X.mg=B.mg
 b:X.base=B.base
 c:X.calm=γ
 r:v5 k X.A
class Yb(B:Bz):Prop where y:Yw B.P B.w B.mg B.base B.G
class Df(B:Bz)(j:outParam Nat)(x:Str)(sp:Sp):Prop where p:∃ps,Eb B.P B.w B.G.K B.mg B.base j x ps sp
class Kf(B:Bz)(j:outParam Nat)(x:Str)(c:Nat)(g:bw->Option (aH×bw))(dds:bw):Prop where
 p:∃ps,KC B.G B.P B.w B.mg B.base j x c ps (dds.map vD) g
 f:dds.all wD=γ
class Mf(B:Bz)(j:outParam Nat)(m:Str)(g:Nat->Option (bw->Option D)):Prop where p:∀c h,g c=Z h->A7 B.G B.P B.w B.mg B.base j m c h
class Ff(B:Bz)(ok:Nat->Bool)(f:Str):Prop where p:∀c,ok c=γ->Cls B.G.K (B.G.ca c)/\zp B.G.K (B.G.ca c) f
class Af(B:Bz)(c:Nat)(xs:outParam aH):Prop where p:CF B.G.K (B.G.ca c) xs
class Nb(B:Bz)(x:Str):Prop where p:B.mg x=J
class Co(B:Bz)(x:Str)(d:D):Prop where p:zR B.G B.mg x d
class Ic(B:Bz)(x:Str)(t:Ty->Option Bool):Prop where p:∃c,Hu B.G c t/\B.mg x=Z (.ref (B.G.ca c))
class Ij(B:Bz)(n:Nat):Prop where p:∀j k,j<n->k<n->B.G.ca j=B.G.ca k->j=k
class OpC(op:Operator)(g:D->D->Option D):Prop where p:∀(X:Cx) (G:Bg),∃r,OpR X (cQ op) r/\OpD G r g
instance in1:OpC .Mod uf:=⟨λ_ _=>⟨_,XD,Yn⟩⟩
instance in2:OpC .FloorDiv uV:=⟨λ_ _=>⟨_,Uu,Yo⟩⟩
instance in3:OpC .Mult vM:=⟨λ_ _=>⟨_,XB,Ym⟩⟩
instance in4:OpC .Sub Od:=⟨λ_ _=>⟨_,XA,Yl⟩⟩
instance in5:OpC .Pow Oe:=⟨λ_ _=>⟨_,XE,Yp⟩⟩
instance in6:OpC .Add vm:=⟨λ_ _=>⟨_,Xz,Yk⟩⟩
class CmC(op:CmpOp)(g:D->D->Option D):Prop where p:∀(X:Cx) (G:Bg),X.K=G.K->X.A.units+64<cLine->∃r,OpR X (bD op) r/\OpD G r g
instance in9:CmC .Eq (dEq δ):=⟨λ_ _ h u=>⟨_,Yu u h,abN⟩⟩
instance in10:CmC .NotEq (dEq γ):=⟨λ_ _ h u=>⟨_,Yv u h,abO⟩⟩
instance in11:CmC .In (dIn δ):=⟨λ_ _ h _=>⟨_,Yy h,WG⟩⟩
instance in12:CmC .NotIn (dIn γ):=⟨λ_ _ h _=>⟨_,PV h,WG⟩⟩
instance in13:CmC .Is xN:=⟨λ_ _ _ _=>⟨_,XJ,Yr⟩⟩
instance in14:CmC .IsNot vX:=⟨λ_ _ _ _=>⟨_,Uv,Vn⟩⟩
instance in16:CmC .Lt MX:=⟨λ_ _ _ _=>⟨_,abg,abJ⟩⟩
instance in17:CmC .LtE yx:=⟨λ_ _ _ _=>⟨_,abh,abK⟩⟩
instance in18:CmC .Gt IW:=⟨λ_ _ _ _=>⟨_,abi,abL⟩⟩
instance in19:CmC .GtE Vm:=⟨λ_ _ _ _=>⟨_,abj,abM⟩⟩
instance in20:CmC .LtE RF:=⟨λ_ _ _ _=>⟨_,PH,Yq⟩⟩
class B1(x:Str)(g:D->Option D):Prop where p:∀(X:Cx) (G:Bg),X.K=G.K->X.calm=γ->∃(id:String) (r:bN->Hp->VK->Prop),vT X (.builtin id) r/\LN G r g/\dP x=Z (.builtin id)
instance in21:B1 "len" vv:=⟨λ_ _ h _=>⟨_,_,PY h,Yz,pq⟩⟩
instance in22:B1 "all" yy:=⟨λ_ _ h c=>⟨_,_,PZ c h,YA,boot_all⟩⟩
instance in23:B1 "any" Gv:=⟨λ_ _ h c=>⟨_,_,P6 c h,YF,boot_any⟩⟩
class KtC(x:Str)(T:outParam String):Prop where p:(∀(X:Cx) (G:Bg) y b,uY T y=Z b->dh X.K (y.val G) (.type T)=Z b)/\dP x=Z (.type T)
instance in24:KtC "str" "str" := ⟨λ_ _=>Vs,Pv.boot_str⟩
instance in25:KtC "int" "int" := ⟨λ_ _=>VP,Pv.boot_int⟩
instance in26:KtC "bool" "bool" := ⟨λ_ _=>Sq,Pv.boot_bool⟩
instance in27:KtC "list" "list" := ⟨λ_ _=>RT,pW⟩
instance in28:KtC "tuple" "tuple" := ⟨λ_ _=>kit_tuple,pO⟩
theorem WM:∀{dds:bw},dds.all wD=γ->Reps G H dds (dds.map vD)
 |[],_=>uy
 |d::ds,h=>by rw[fO,aW]at h;show uD (D9 h.1 H) (WM h.2)
def eqI{α:Sort u}{a b:α}(h:a=b):a=b:=h
def sees(X:Cx)(i:Nat)(x:Str):Bool:=decide (X.N[i]?=Z x)&&(match X.env.scope.names.lookup x with|some .local=>γ|some .cell=>γ|some .free=>γ|_=>δ)&&!(x==("__debug__" : Str))&&!(x==("__classdict__" : Str))
def sets(X:Cx)(i:Nat)(x:Str):Bool:=decide X.N.Nodup&&decide (X.N[i]?=Z x)&&(match X.env.scope.names.lookup x with|some .local=>γ|some .cell=>X.fn x|_=>δ)
section
variable{X:Cx}{B:Bz}{k j i n c0:Nat}{x m:Str}{e e' o tg it:Expr}{es:List Expr}{p p2 p3 pos apos:Pos}{f f' f2:FE}{a:FA}{g:D->D->Option D}
def pvI(h:sees X i x=γ):PE X (.Name x p) (DU i):=by
 delta sees at h;erw[aW,b8,d6]at h;let#v[#v[#v[h1,h2],h3],h4]:=h;calc pv i h1 ?_ h3 h4;delta Vis;split at h2
 .rename_i e;show .inl e
 .rename_i e;show .inr (.inl e)
 .rename_i e;show .inr (.inr e)
 .ext h2
def ab1(h:sees X i x=γ):ZE X B (.Name x p) (cV i):=⟨MS (pvI h)⟩
def YX(h:sees X i x=γ):ZE X B (.Name x p) (cFz i):=⟨abI (pvI h)⟩
def VT(h:sees X i x=γ):ZN X B (.Name x p) (Hk i):=⟨Vj (pvI h)⟩
def KL(h:sets X i x=γ):X.N.Nodup/\X.N[i]?=Z x/\L2.Loc X.env.scope x/\(X.fn x=γ\/X.env.scope.names.lookup x=Z .local):=by
 delta sets at h;erw[aW,b8]at h;let#v[#v[h1,h2],h3]:=h;delta L2.Loc;split at h3
 .rename_i e;show⟨h1,h2,.inl e,.inr e⟩
 .rename_i e;show⟨h1,h2,.inr e,.inl h3⟩
 .ext h3
def pgI(h:sets X i x=γ):PG X (.Name x p) (zN i):=by let#v[h1,h2,h3,h4]:=KL h;show NY h1 h2 h3 h4
def YY(h:sets X i x=γ)(hi:Nat.blt i n=γ):ZG X B (.Name x p) n (gN i):=⟨Rt n (pgI h) (Nat.blt_eq.mp hi)⟩
def stW(h:sets X i x=γ)(he:PE X e te)(hs:Wz X e (.Name x p) pos):PS X (.Assign [.Name x p] e pos) (DW te (zN i)):=by let#v[h1,h2,h3,h4]:=KL h;show Xs h1 h2 h3 he hs h4
def YZ(h:sets X i x=γ)(he:ZE X B e f)(hs:Wz X e (.Name x p) pos):ZS X B (.Assign [.Name x p] e pos) (tV i f):=⟨Ob (stW h he.p hs)⟩
def Y0(h:sets X i x=γ)(he:ZN X B e a)(hs:Wz X e (.Name x p) pos):ZS X B (.Assign [.Name x p] e pos) (x8 i a):=⟨LF (stW h he.p hs)⟩
def Y1(h:sets X i x=γ)(hs:Wz X (.Dict [] [] p2) (.Name x p) pos):ZS X B (.Assign [.Name x p] (.Dict [] [] p2) pos) (Ht i):=⟨RY (stW h Lq hs)⟩
def Y2 [A':OpC op g](ha:ZE X B e f)(hb:ZE X B e' f'):ZE X B (.BinOp e op e' pos) (c2 g f f'):=by let#v[r,h1,h2]:=A'.p X B.G;show⟨abA h1 h2 ha.p hb.p⟩
def Y3 [C:Cz X B k](ha:ZE X B e f)(hb:ZE X B e' f')(hs:Iz e'):ZE X B (.Subscript e e' pos) (c2 dIx f f'):=⟨abB (ix_X C.K) abP ha.p hb.p λo i=>congrFun (congrFun hs o) i⟩
def Y4 [C:Cz X B k](ha:ZE X B e f)(hb:ZE X B e' f')(hs:Iz e'):ZE X B (.Subscript e e' pos) (c2 CV f f'):=⟨Vv (Lu C.r) ha.p hb.p λo i=>congrFun (congrFun hs o) i⟩
section
variable{op op':CmpOp}{g':D->D->Option D}
def Y5 [A':CmC op g][C:Cz X B k](ha:ZE X B e f)(hb:ZE X B e' f')(hm:fN op e'=δ):ZE X B (.Compare e [op] [e'] pos) (c2 g f f'):=by let#v[r,h1,h2]:=A'.p X B.G C.K C.r.units;show⟨Ya h1 h2 ha.p hb.p hm⟩
def Y6 [A':CmC op g][C:Cz X B k](ha:ZE X B e f)(hb:ZE X B e' f')(hm:fN op e'=δ):ZT X B (.Compare e [op] [e'] pos) (cT (c2 g f f')):=by let#v[r,h1,h2]:=A'.p X B.G C.K C.r.units;show⟨UV h1 h2 ha.p hb.p hm⟩
def Y7 [A':CmC op g][O':CmC op' g'][C:Cz X B k](ha:ZE X B e f)(hb:ZE X B e' f')(hc:ZE X B o f2)(hm:lastMarks [op,op'] [e',o]=δ):ZE X B (.Compare e [op,op'] [e',o] pos) (w5 g g' f f' f2):=by let#v[r,h1,h2]:=A'.p X B.G C.K C.r.units;let#v[r',h3,h4]:=O'.p X B.G C.K C.r.units;show⟨RO h1 h3 h2 h4 ha.p hb.p hc.p hm⟩
def Y8 [A':CmC op g][O':CmC op' g'][C:Cz X B k](ha:ZE X B e f)(hb:ZE X B e' f')(hc:ZE X B o f2)(hm:lastMarks [op,op'] [e',o]=δ):ZT X B (.Compare e [op,op'] [e',o] pos) (cT (w5 g g' f f' f2)):=by let#v[r,h1,h2]:=A'.p X B.G C.K C.r.units;let#v[r',h3,h4]:=O'.p X B.G C.K C.r.units;show⟨P3 h1 h3 h2 h4 ha.p hb.p hc.p hm⟩
end
def Y9(h:ZE X B e f)(he:(λwhole=>isTrue e X.env whole)=λwhole=>(do let v<-whole;standAt e.pos;holding [v] (truthy v))):ZT X B e (cT f):=⟨UW h.p λw=>congrFun he w⟩
def Za(ha:ZT X B e ft)(hb:ZW X B (.BoolOp .Or (e'::es) pos) fu):ZT X B (.BoolOp .Or (e::e'::es) pos) (vS ft fu):=⟨PW.pt (Rh ha.p hb.p)⟩
def Zb(ha:ZT X B e ft)(hb:ZW X B (.BoolOp .And (e'::es) pos) fu):ZT X B (.BoolOp .And (e::e'::es) pos) (vV ft fu):=⟨PW.pt (UZ ha.p hb.p)⟩
def Zc [C:Cz X B k][Q:Co B x d](hg:Gz X x)(hd:Dz x):ZE X B (.Name x pos) (cC d):=⟨RQ (C.mg▸Q.p) hg hd⟩
def Zd [C:Cz X B k][Q:Ff B ok m](he:ZE X B e f)(hb:Az X e m):ZE X B (.Attribute e m pos) (c1 (tI ok m) f):=⟨Rw he.p (C.K▸Q.p) hb⟩
section
variable(hg:Gz X x)(hd:Dz x)(hs:Sz X e es)(hl:Lz X pos es)
include hg hd
theorem dz [C:Cz X B k][Q:Df B j x sp]:∃ps,Eb X.prog X.w X.K X.mg X.base j x ps sp:=by rw[C.P,C.w,C.K,C.mg,C.b];show Q.p
theorem Ze{g:bw->Option bw}[C:Cz X B k][Q:Df B j x (spN B.G g)](hj:fX j k=γ):ZN X B (.Call (.Name x p) [] [] pos) (uN g uk):=by let#v[ps,q]:=dz hg hd (X:=X) (Q:=Q);show⟨RP q (C.r.mono (fT.mp hj)) hg hd⟩
include hs hl
theorem Zf{g:bw->Option D}[C:Cz X B k][Q:Df B j x (spF B.G g)](ha:ZA X B (e::es) a)(hj:fX j k=γ):ZE X B (.Call (.Name x p) (e::es) [] pos) (tq g a):=by let#v[ps,q]:=dz hg hd (X:=X) (Q:=Q);show⟨YC q (C.r.mono (fT.mp hj)) ha.p hg hd hs hl⟩
theorem Zg{g:bw->Option bw}[C:Cz X B k][Q:Df B j x (spN B.G g)](ha:ZA X B (e::es) a)(hj:fX j k=γ):ZN X B (.Call (.Name x p) (e::es) [] pos) (uN g a):=by let#v[ps,q]:=dz hg hd (X:=X) (Q:=Q);show⟨Vp q (C.r.mono (fT.mp hj)) ha.p hg hd hs hl⟩
theorem Zh{g:bw->Option (aH×bw)}{dds:bw}[C:Cz X B k][Q:Kf B j x c0 g dds](ha:ZA X B (e::es) a)(hj:fX (j+1) k=γ):ZE X B (.Call (.Name x p) (e::es) [] pos) (uj c0 (λds=>g (ds++dds)) a):=by let#v[ps,q]:=Q.p;show⟨Vq (by rw[C.P,C.w,C.mg,C.b];show q) (λH=>WM Q.f) (C.r.mono (fT.mp hj)) ha.p C.K hg hd hs hl⟩
end
def mz{g:Nat->Option (bw->Option D)}[C:Cz X B k][Q:Mf B j m g]:∀c h,g c=Z h->A7 B.G X.prog X.w X.mg X.base j m c h:=by rw[C.P,C.w,C.mg,C.b];show Q.p
def Zi{g:Nat->Option (bw->Option D)}{pl:Sem Bool}[C:Cz X B k][Q:Mf B j m g](ho:ZE X B o f)(hj:fX j k=γ)
  (ht:eval (.Call (.Attribute o m apos) [] [] pos) X.env=(do
   let ov<-eval o X.env
   standAt apos.atName
   let (f,first)<-holding [ov] (getMethod ov m pl)
   callWith pos f first (bJ pos (aG [] X.env)) (backToKw pos (dS [] X.env)))):ZE X B (.Call (.Attribute o m apos) [] [] pos) (tK g m f uk):=⟨M0 mz (C.r.mono (fT.mp hj)) ho.p C.K ht⟩
def Zj{g:Nat->Option (bw->Option D)}{pl:Sem Bool}[C:Cz X B k][Q:Mf B j m g](ho:ZE X B o f)(ha:ZA X B (e::es) a)(hj:fX j k=γ)(hs:Sz X e es)(hl:Lz X pos es)
  (ht:eval (.Call (.Attribute o m apos) (e::es) [] pos) X.env=(do
   let ov<-eval o X.env
   standAt apos.atName
   let (f,first)<-holding [ov] (getMethod ov m pl)
   callWith pos f first (bJ pos (aG (e::es) X.env)) (backToKw pos (dS [] X.env)))):ZE X B (.Call (.Attribute o m apos) (e::es) [] pos) (tK g m f a):=⟨P4 mz (C.r.mono (fT.mp hj)) ho.p ha.p C.K hs hl ht⟩
section
variable(hg:Gz X x)(hd:Nz x)(hs:S1 X e)
include hg hd hs
theorem cbI{id:String}[C:Cz X B k][N:Nb B x](hc:vT X (.builtin id) r)(hv:dP x=Z (.builtin id))(ha:PA X [e] t):PE X (.Call (.Name x p) [e] [] pos) (tCB r t):=by erw[aW,b8,d6]at hd;show DZ hc hg (C.mg▸N.p) hv ha hd.1 hd.2 hs O
theorem ctI [C:Cz X B k][N:Nb B x](hc:vT X (.type T) r)(hv:dP x=Z (.type T))(ha:PA X [e] t):PE X (.Call (.Name x p) [e] [] pos) (tCB r t):=by erw[aW,b8,d6]at hd;show Pq hc hg (C.mg▸N.p) hv ha hd.1 hd.2 hs O
theorem Zk{g:D->Option D}[Q:B1 x g][C:Cz X B k][N:Nb B x](ha:ZE X B e f):ZE X B (.Call (.Name x p) [e] [] pos) (c1 g f):=by let#v[id,r,h1,h2,h3]:=Q.p X B.G C.K C.c;show⟨abQ h2 (cbI hg hd hs h1 h3 (zr ha.p A3 hs))⟩
end
section
variable(hs:S1 X e)
include hs
theorem Zl [C:Cz X B k][N:Nb B "list"](hg:Gz X "list")(ha:ZE X B e f):ZN X B (.Call (.Name "list" p) [e] [] pos) (zQ f):=⟨RK (ctI hg #[] hs (MY C.K) pW (zr ha.p A3 hs))⟩
theorem Zm [C:Cz X B k][N:Nb B "tuple"](hg:Gz X "tuple")(ha:ZE X B e f):ZE X B (.Call (.Name "tuple" p) [e] [] pos) (Ea f):=⟨RM (ctI hg #[] hs (P1 C.K) pO (zr ha.p A3 hs))⟩
theorem Zn [C:Cz X B k][N:Nb B "sorted"](hg:Gz X "sorted")(ha:ZE X B e f):ZN X B (.Call (.Name "sorted" p) [e] [] pos) (E8 f):=⟨L6 (cbI hg #[] hs (Ja C.r.units C.K) boot_sorted (zr ha.p A3 hs))⟩
theorem Zo [C:Cz X B k][N:Nb B "range"](hg:Gz X "range")(ha:ZE X B e f):ZI X B tg (.Call (.Name "range" p) [e] [] pos) (iR1 f):=⟨MW (Pk hg (C.mg▸N.p) (zr ha.p A3 hs) hs)⟩
end
section
variable(hi:Gz X "isinstance")(hg:Gz X x)(hs:aG [e,.Name x p2] X.env=[(δ,eval e X.env),(δ,eval (.Name x p2) X.env)])(hs':S1 X (.Name x p2))
include hi hg hs hs'
theorem Zp [Q:KtC x T][C:Cz X B k][N:Nb B "isinstance"][N':Nb B x](ha:ZE X B e f)(hd:Nz x):ZE X B (.Call (.Name "isinstance" p) [e,.Name x p2] [] pos) (c1 (uF (uY T)) f):=by
 erw[aW,b8,d6]at hd;refine⟨Oi (c:=.b T) (DZ (Jw (.b T) (Q.p.1 X B.G) RR C.K) hi (C.mg▸N.p) kW (wu ha.p (wu (Um (v:=.ty T) hg (C.mg▸N'.p) Q.p.2 O hd.1 hd.2) zq ?_) ?_) #[] #[] ?_ ?_)⟩
 .show hs'
 .rw[hs,hs']
 .rw[hs,hs']
 .rw[hs'];rfl
theorem Zq [Q:Ic B x t][C:Cz X B k][N:Nb B "isinstance"](ha:ZE X B e f)(hd:Dz x):ZE X B (.Call (.Name "isinstance" p) [e,.Name x p2] [] pos) (c1 (uF t) f):=by
 let#v[c,q1,q2]:=Q.p;refine⟨Oi (c:=.c c) (DZ (M5 q1 C.K) hi (C.mg▸N.p) kW (wu ha.p (wu (GA (v:=.ref (B.G.ca c)) hg (C.mg▸q2) O hd) zq ?_) ?_) #[] #[] ?_ ?_)⟩
 .show hs'
 .rw[hs,hs']
 .rw[hs,hs']
 .rw[hs'];rfl
end
section
variable(hb:Az X o m)(hl:Ez apos pos)(hs:S1 X e)
include hb hl hs
theorem bmI{id:String}[C:Cz X B k](pa:l5 T)(slot:Slot T m id)(hty:typeOf (.builtin id)=pure (.type "method_descriptor"))(hm:MtR X id r)(ho:PE X o to)(ha:PA X [e] t):PE X (.Call (.Attribute o m apos) [e] [] pos) (tBM B.G.K T r to t):=
 Re B.G.K pa slot hty hm ho ha hb (by rw[hs];rfl) hl hs O C.K
end
section
variable(h:sees X i x=γ)(hb:Az X (.Name x p) m)(hl:Ez apos pos)(hs:S1 X e)
include h hb hl hs
theorem Zr [C:Cz X B k](hm:m="append")(ha:ZE X B e f):ZE X B (.Call (.Attribute (.Name x p) m apos) [e] [] pos) (zt i f):=by subst hm;show⟨PQ (bmI hb hl hs jg kz n4 EX (pvI h) (zr ha.p A3 hs))⟩
theorem Zs [C:Cz X B k](hm:m="extend")(ha:ZE X B e f):ZE X B (.Call (.Attribute (.Name x p) m apos) [e] [] pos) (BX i f):=by subst hm;show⟨M7 (bmI hb hl hs jg i8 n5 (C.K▸M6) (pvI h) (wu ha.p zq hs))⟩
end
def Zt [C:Cz X B k](ha:ZE X B e f)(hb:ZE X B e' f')(h1:Az X e "get")(h2:Ez apos pos)(h3:S1 X e'):ZE X B (.Call (.Attribute e "get" apos) [e'] [] pos) (c2 BB f f'):=⟨RX (Lu C.r) ha.p hb.p ⟨h1,by rw[h3];rfl,h2,by rw[h3];rfl⟩⟩
def Zu [C:Cz X B k][Q:Af B c0 xs](hx:xs.contains m=γ)(h:sees X i x=γ)(hv:ZE X B e f)(hs:Wz X e (.Attribute (.Name x p) m apos) pos):ZS X B (.Assign [.Attribute (.Name x p) m apos] e pos) (uC c0 i m f):=⟨Vi (XN (pvI h) hv.p hs) (by let#v[i,_,e]:=ko (nu.mp hx);show C.K▸Q.p.at i (ck.mpr ⟨_,e⟩))⟩
def Zv [C:Cz X B k](h:sees X i x=γ)(hk:ZE X B e' f')(hv:ZE X B e f)(hs:Wz X e (.Subscript (.Name x p) e' apos) pos):ZS X B (.Assign [.Subscript (.Name x p) e' apos] e pos) (ya i f' f):=⟨RZ (UM (Lu C.r) (pvI h) hk.p hv.p hs)⟩
def Zw [Q:Ij B n](h:ZE X B e f):ZE X B e (CW n f):=⟨VN Q.p h.p⟩
def Zx{lo:Option Expr}{fl:FO}[C:Cz X B k](he:ZE X B e f)(hl:ZO X B lo fl)(hh:ZO X B hi fh):ZN X B (.Subscript e (.Slice lo hi J p) pos) (KE f fl fh):=⟨M4 (Lm (sl_X C.K) he.p hl.p hh.p)⟩
def Zy{lo:Option Expr}[C:Cz X B k](he:ZE X B e f)(hl:ZK X lo l)(hh:ZK X hi h):ZN X B (.Subscript e (.Slice lo hi J p) pos) (cSl f l h):=⟨P2 (Lm (sl_X C.K) he.p hl.p hh.p)⟩
def Zz:ZK X (Z (.Constant (.int y) j pos)) (Z y):=⟨RN⟩
def ZC [C:Cz X B k](h:ZE X B e f):ZI X B tg e (iL f):=⟨LJ (Ly B.G.K h.p C.K)⟩
def ZD [C:Cz X B k](h:ZE X B e f):ZI X B tg e (iT f):=⟨Vk (UR B.G.K h.p C.K)⟩
def ZJ(h:ZE X B e f):ZI X B tg e (iD f):=⟨Sg (VL h.p)⟩
def ZL(h:ZE X B e f):ZI X B tg e (iS f):=⟨Vw (X3 h.p)⟩
section
variable(hg:Gz X "zip")(hs:aG [e,e'] X.env=[(δ,eval e X.env),(δ,eval e' X.env)])(hs2:S1 X e')
include hg hs hs2
theorem ZM [C:Cz X B k][N:Nb B "zip"](ha:ZA X B [e,e'] a):ZI X B (.Tuple es i p2) (.Call (.Name "zip" p) [e,e'] [] pos) (iZT a):=⟨SA (VS B.G.K hg (C.mg▸N.p) ha.p C.K hs hs2)⟩
end
section
variable{gg:FG}{gs:bw->aJ->Option aJ}
def VU:ZH X B [] n LD:=⟨U5 Uq⟩
def VW(h1:ZG X B e n gg)(h2:ZH X B es n gs)(hs:(cZ (e::es) X.env).map (·.2)=assign e X.env::(cZ es X.env).map (·.2)):ZH X B (e::es) n (A4 gg gs):=⟨Ru (QH h1.p h2.p hs)⟩
def VX [C:Cz X B k](h:ZH X B es n gs)(hn:(cZ es X.env).length=n')(ht:(cZ es X.env).findIdx? (·.1)=J):ZG X B (.Tuple es k' pos) n (gT gs n'):=⟨U6 (US B.G.K C.c h.p hn ht C.K)⟩
end
def tgN:Expr->aH
 |.Name x _=>[x]
 |.Tuple es _ _=>es.filterMap λe=>match e with|.Name x _=>Z x|_=>J
 |_=>[]
def cpN(X:Cx)(tg:Expr)(cap:List Nat):aH:=tgN tg++cap.map λj=>X.N.getD j ""
instance inCz [C:Cz X B k]{N':aH}{sc:c5}{cl:List (Str×Addr)}{A:Addr}{fp:List Addr}{s:af}{H:Hp}:Cz (vJ X N' sc cl A fp s H) B k:=⟨C.P,C.w,C.K,C.mg,C.b,C.c,C.r⟩
def ZP(X:Cx)(N':aH)(sc:c5)(n:Nat)(cap:List Nat):Bool:=decide cap.Nodup&&decide (sc.kind=.function)&&(sc.names.all λy=>y.2 != .cell)&&(sc.names.all λy=>y.2 != .local||sc.names.lookup y.1==Z .local)&&(sc.names.all λy=>y.2 != .free||(X.env.kindOf y.1==Z .cell||X.env.kindOf y.1==Z .free))&&decide (N'.length=n+cap.length)&&decide ((N'.drop n).map Z=cap.map λj=>X.N[j]?)&&((N'.drop n).all λx=>sc.names.lookup x==Z .free)
section
variable{sc:c5}{cap:List Nat}{ifs:List Expr}{gg:FG}{ft:FT}{s:FA}
 (h0:ZP X (cpN X tg cap) sc n cap=γ) (hs:Fz X it) (hi:ZI X B tg it s)
 (h1:∀(cl:List (Str×Addr)) (A:Addr) (fp:List Addr) (s:af) (H:Hp),ZG (vJ X (cpN X tg cap) sc cl A fp s H) B tg n gg)
 (h2:∀(cl:List (Str×Addr)) (A:Addr) (fp:List Addr) (s:af) (H:Hp),ZF (vJ X (cpN X tg cap) sc cl A fp s H) B ifs ft)
 (h3:∀(cl:List (Str×Addr)) (A:Addr) (fp:List Addr) (s:af) (H:Hp),ZE (vJ X (cpN X tg cap) sc cl A fp s H) B e f)
include h0 hs hi h1 h2 h3
theorem ZQ [C:Cz X B k]:ZN X B (.ListComp e [⟨tg,it,ifs,0⟩] sc pos) (tR n cap s gg ft f):=by delta ZP at h0;erw[aW,b8]at h0;let#v[#v[#v[#v[#v[#v[#v[a1,a2],a3],a4],a5],a6],a7],a8]:=h0;show⟨RD a1 (UQ (N':=cpN X tg cap) C.c hi.p (λcl A fp s H=>⟨(h1 cl A fp s H).p,(h2 cl A fp s H).p,(h3 cl A fp s H).p⟩) a2 a3 a4 a5 a6 a7 a8 λx=>congrFun hs x)⟩
theorem cpW [C:Cz X B k](h:sets X i x=γ)(hw:dB (.ListComp e [⟨tg,it,ifs,0⟩] sc pos) (Z (.Name x p)) apos.line X.env=pure γ):PS X (.Assign [.Name x p] (.ListComp e [⟨tg,it,ifs,0⟩] sc pos) apos) (DW (Fw (tFI B.G s) (tFG B.G n gg) (tFT B.G ft) (tF B.G f) n cap) (zN i))/\cap.Nodup:=by delta ZP at h0;erw[aW,b8]at h0;let#v[#v[#v[#v[#v[#v[#v[a1,a2],a3],a4],a5],a6],a7],a8]:=h0;let#v[b1,b2,b3,b4]:=KL h;show⟨Vt (N':=cpN X tg cap) C.c b1 b2 b3 hi.p (λcl A fp s H=>⟨(h1 cl A fp s H).p,(h2 cl A fp s H).p,(h3 cl A fp s H).p⟩) a2 a3 a4 a5 a6 a7 a8 (λx=>congrFun hs x) hw b4,a1⟩
theorem ZR [C:Cz X B k](h:sets X i x=γ)(hw:dB (.ListComp e [⟨tg,it,ifs,0⟩] sc pos) (Z (.Name x p)) apos.line X.env=pure γ):ZS X B (.Assign [.Name x p] (.ListComp e [⟨tg,it,ifs,0⟩] sc pos) apos) (tV i (cL (tR n cap s gg ft f))):=by have z:=cpW (k:=k) h0 hs hi h1 h2 h3 h hw;show⟨RU z.2 z.1⟩
theorem ZU [C:Cz X B k](h:sets X i x=γ)(hw:dB (.ListComp e [⟨tg,it,ifs,0⟩] sc pos) (Z (.Name x p)) apos.line X.env=pure γ):ZS X B (.Assign [.Name x p] (.ListComp e [⟨tg,it,ifs,0⟩] sc pos) apos) (x8 i (tR n cap s gg ft f)):=by have z:=cpW (k:=k) h0 hs hi h1 h2 h3 h hw;show⟨P5 z.2 z.1⟩
end
section
variable{st:Stmt}{sts:List Stmt}{fs fs':FS}{ft:FT}{a':FA}{z1:Nat}
def ab2(ha:ZE X B e f)(hr:ZA X B es a)(hs:Sz X e es):ZA X B (e::es) (aCons f a):=⟨zr ha.p hr.p hs⟩
def ab3:ZA X B [] uk:=⟨A3⟩
def ZV(h:ZN X B e a):ZE X B e (cL a):=⟨Yh h.p⟩
def ab4:ZE X B (.Constant (.str y) j pos) (cC (.str y)):=⟨X8⟩
def ab5:ZE X B (.Constant (.int y) j pos) (cC (.int y)):=⟨X7⟩
def ab6:ZE X B (.Constant (.bool y) j pos) (cC (.bl y)):=⟨abz⟩
def ab7:ZE X B (.Constant .none j pos) (cC .non):=⟨X9⟩
def OD(h1:ZS X B st fs)(h2:ZB X B sts fs'):ZB X B (st::sts) (tw fs fs'):=⟨Ro h1.p h2.p⟩
def ab8(h1:ZS X B st fs):ZB X B [st] fs:=⟨U3 h1.p⟩
def ab9:ZB X B [] tN:=⟨U2⟩
def ZZ(h:ZE X B e f):ZS X B (.Return (Z e) pos) (tG f):=⟨U4 h.p⟩
def Z0(h:ZN X B e a):ZS X B (.Return (Z e) pos) (vz a):=⟨Rp h.p⟩
def Z1(h:ZE X B e f)(hs:dB e J pos.line X.env=pure δ):ZS X B (.Expr e pos) (uq f):=⟨Rq h.p hs⟩
def Z2(h:ZT X B e ft)(h1:ZB X B sts fs)(h2:ZB X B sts' fs'):ZS X B (.If e sts sts' pos) (sIf ft fs fs'):=⟨Yj h.p h1.p h2.p⟩
def Z3(h:ZA X B es a):ZN X B (.List es pos) (uw a):=⟨U0 h.p⟩
def Z4(h:ZA X B es a):ZE X B (.Tuple es z1 pos) (uv a):=⟨Yg h.p⟩
def Z5(ha:ZE X B e f)(hb:ZE X B e' f'):ZN X B (.BinOp e .Add e' pos) (xn f f'):=⟨Vo ha.p hb.p⟩
def Z6 [C:Cz X B k](ha:ZE X B e f)(hb:ZE X B e' f'):ZE X B (.BinOp e .Add e' pos) (FC f f'):=⟨Vx ha.p hb.p C.K⟩
def Z7(ha:ZE X B e f)(hb:ZE X B (.BoolOp .And (e'::es) pos) f'):ZE X B (.BoolOp .And (e::e'::es) pos) (uH f f'):=⟨Ye ha.p hb.p⟩
def Z8(ha:ZE X B e f)(hb:ZE X B (.BoolOp .Or (e'::es) pos) f'):ZE X B (.BoolOp .Or (e::e'::es) pos) (cOr f f'):=⟨abD ha.p hb.p⟩
def Z9{op}(ha:ZE X B e f):ZE X B (.BoolOp op [e] pos) f:=⟨Yd ha.p⟩
def aaa(ha:ZE X B e f):ZE X B (.UnaryOp .Not e pos) (Gs f):=⟨Yf ha.p⟩
def aab(ha:ZT X B e ft):ZT X B (.UnaryOp .Not e pos) (uE ft):=⟨UX ha.p⟩
def aac(h:ZT X B o ft)(ha:ZE X B e f)(hb:ZE X B e' f'):ZE X B (.IfExp o e e' pos) (cIf ft f f'):=⟨abE h.p ha.p hb.p⟩
def aca(h:ZT X B e ft):ZF X B [e] ft:=⟨UP h.p⟩
def acb:ZF X B [] uQ:=⟨RE⟩
def aad(h:ZE X B e f):ZE X B e (MZ f):=⟨YB h.p⟩
def aae(h:ZE X B e f):ZO X B (Z e) (oAt f):=⟨YH h.p⟩
def aaf:ZO X B J oNo:=⟨YG⟩
def aag(ha:ZT X B e ft)(hb:ZW X B (.BoolOp .Or (e'::es) pos) fu):ZW X B (.BoolOp .Or (e::e'::es) pos) (vS ft fu):=⟨Rh ha.p hb.p⟩
def aah(h:ZT X B e ft):ZW X B (.BoolOp .Or [e] pos) ft:=⟨UY h.p⟩
def aai(h:ZT X B e ft):ZW X B (.BoolOp .And [e] pos) ft:=⟨Rg h.p⟩
end
def aaj [C:Cz X B k](hp:jx (model X.prog X.w) X.A X.env X.xe)(hn:X.N.length=n)(hi:ZI X B tg it s)(hg:ZG X B tg n gg)(hb:ZB X B body b)(hs:Fz X it):ZS X B (.For tg it body [] pos) (wC s gg b):=⟨Vl (QM hp C.c hi.p hg.p hb.p λx=>congrFun hs x)⟩
def aak(hp:jx (model X.prog X.w) X.A X.env X.xe)(hc:ZT X B e ft)(hb:ZB X B body b):ZS X B (.While e body [] pos) (whL ft b n):=⟨PU n (QJ hp hc.p hb.p)⟩
end
end L4
namespace L4
open PySem PySem.Spec PyProof.Rows L2 L3
open PySem.W (fnOf)
def nmO(st:Stmt):aH:=(uh st).names.filterMap λy=>match y.2 with|.local=>Z y.1|.cell=>Z y.1|_=>J
def psO(st:Stmt):aH:=(xH st).args.map (·.arg)
def okO(N ps:aH)(st:Stmt)(np n:Nat):Bool:=decide ((uh st).kind=.function)&&(uh st).isCoroutine==δ&&(uh st).isGenerator==δ&&decide N.Nodup&&decide (N.take ps.length=ps)&&(ps.all λx=>match (uh st).names.lookup x with|some .local=>γ|some .cell=>γ|_=>δ)&&((uh st).names.all λy=>y.2 != .free)&&decide (ps.length=np)&&decide (N.length=n)
def okk{st:Stmt}(h:okO N ps st np n=γ):wx N ps (uh st)/\ps.length=np/\N.length=n:=by
 delta okO at h;erw[aW,b8,beq_iff_eq]at h;let#v[#v[#v[#v[#v[#v[#v[#v[h1,h2],h3],h4],h5],h6],h7],h8],h9]:=h;refine⟨⟨h1,h2,h3,h4,h5,λx hx=>?_,λy hy e=>?_⟩,h8,h9⟩
 .have z:=bc.mp h6 x hx;split at z
  .rename_i e;show .inl e
  .rename_i e;show .inr e
  .ext z
 .have z:=bc.mp h7 y hy;rw[e]at z;show ar z #[]
section
variable{B:Bz}[Y:Yb B]{x m qual:Str}{st s0:Stmt}{l:List Stmt}{k c np n:Nat}{b:FS}{p:Str}{ps xs:aH}{N:aH}
abbrev Bdz(B:Bz)(N:aH)(qual:Str)(st:Stmt)(l:List Stmt)(k:Nat)(b:FS):Prop:=∀{f:Addr} {cdv:ae} {A:aP} {outer:List Env} {s:af} {H:Hp} {E:XK} [Cz (FB B.P B.w B.G.K B.mg B.base N qual st f cdv A outer s H E) B k],ZB (FB B.P B.w B.G.K B.mg B.base N qual st f cdv A outer s H E) B l b
omit Y in
def Bdz.ok(h:Bdz B N qual st l k b)(hl:uG st=l):Bdy B.P B.w B.G.K B.mg B.base N qual st k (tFS B.G b):=λf cdv A outer s H E hr=>by subst hl;show(@h f cdv A outer s H E ⟨O,O,O,O,O,O,hr⟩).p
def gF4(hg:g=fnD np n b)(q:GD B.G.K x st)(hl:uG st=s0::l)(body:Bdz B (nmO st) x st (s0::l) k b)(S:okO (nmO st) (psO st) st np n=γ:=by kernel_rfl)(bd:Bds x x st (psO st):=by (repeat intro _);rfl):Df B (k+1) x (spF B.G g):=
 ⟨_,gF hg Y.y q (okk S).1 (body.ok hl) (okk S).2.1 (okk S).2.2 bd⟩
def gF5(N:aH)(hg:g=fnD np n b)(q:GD B.G.K x st)(hl:uG st=s0::l)(body:Bdz B N x st (s0::l) k b)(S:okO N (psO st) st np n=γ:=by kernel_rfl)(bd:Bds x x st (psO st):=by (repeat intro _);rfl):Df B (k+1) x (spF B.G g):=
 ⟨_,gF hg Y.y q (okk S).1 (body.ok hl) (okk S).2.1 (okk S).2.2 bd⟩
def gA4(hg:g=fnD np n b)(q:GDa B.G.K x fx st)(hl:uG st=s0::l)(body:Bdz B (nmO st) fx st (s0::l) k b)(S:okO (nmO st) (psO st) st np n=γ:=by kernel_rfl)(bd:Bds fx fx st (psO st):=by (repeat intro _);rfl):Df B (k+1) x (spF B.G g):=
 ⟨_,gFa hg Y.y q (okk S).1 (λ{f cdv A outer s H E} hr=>body.ok hl f cdv A outer s H E hr) (okk S).2.1 (okk S).2.2 bd⟩
def gN4(hg:g=fnN np n b)(q:GD B.G.K x st)(hl:uG st=s0::l)(body:Bdz B (nmO st) x st (s0::l) k b)(S:okO (nmO st) (psO st) st np n=γ:=by kernel_rfl)(bd:Bds x x st (psO st):=by (repeat intro _);rfl):Df B (k+1) x (spN B.G g):=
 ⟨_,gN' hg Y.y q (okk S).1 (body.ok hl) (okk S).2.1 (okk S).2.2 bd⟩
theorem hF4(C:CF B.G.K (B.G.ca c) xs)(hg:g=fnD np n b)(q:GM B.G.K (B.G.ca c) m qual st)(hl:uG st=s0::l)(body:Bdz B (nmO st) qual st (s0::l) k b)(S:okO (nmO st) (psO st) st np n=γ:=by kernel_rfl)(bd:Bds m qual st (psO st):=by (repeat intro _);rfl):A7 B.G B.P B.w B.mg B.base (k+1) m c g:=by let#v[f,fd,a,i,F]:=q;show⟨f,fd,_,C.ci.cl,⟨a,i,F.kp⟩,bd.ok F,Oj hg (okk S).2.1 (okk S).2.2 F (okk S).1 (body.ok hl f)⟩
def gI4(C:CF B.G.K (B.G.ca c) xs)(a:gH B.G.K aX x=Z (Z (.ref (B.G.ca c))))(hg:g=fnI c np n b)(q:GM B.G.K (B.G.ca c) "__init__" qual st)(hl:uG st=s0::l)(hp:psO st=p::ps)(body:Bdz B (nmO st) qual st (s0::l) k b)(S:okO (nmO st) (p::ps) st (np+1) n=γ:=by kernel_rfl)(bd:Bds "__init__" qual st (p::ps):=by (repeat intro _);rfl):Kf B (k+1) x c g []:=
 ⟨⟨_,gI hg Y.y C a q (okk S).1 (body.ok hl) (lT (okk S).2.1) (okk S).2.2 bd⟩,O⟩
def gJ4{dds:bw}(C:CF B.G.K (B.G.ca c) xs)(a:gH B.G.K aX x=Z (Z (.ref (B.G.ca c))))(hg:g=fnI c np n b)(q:GJ B.G.K (B.G.ca c) qual st (dds.map vD))(hl:uG st=s0::l)(hp:psO st=p::ps)(body:Bdz B (nmO st) qual st (s0::l) k b)(j:Nat)(S:okO (nmO st) (p::ps) st (np+1) n=γ:=by kernel_rfl)(hf:dds.all wD=γ:=by rfl)
  (bd:Nl (dds.map vD).length λdl=>Nl ((p::ps).length - ((dds.map vD).drop j).length) λus=>∀(T:Addr) (kV doc pm:ae) (an:Option Addr) (cdv ct:ae),∃k,bindArgs (fnOf "__init__" qual (xH st) (uG st) (uh st) (.ref T) kV doc pm an cdv ct) ⟨us,[]⟩=seqItems? (.ref T)>>=k/\k (Z dl.toArray)=pure ((p::ps).zip (us++dl.drop j)):=by (repeat intro _);show⟨_,O,O⟩):Kf B (k+1) x c g (dds.drop j):=
 ⟨⟨_,by rw[lC];show gJ hg Y.y C a q (okk S).1 (body.ok hl) j (lT (okk S).2.1) (okk S).2.2 bd⟩,by
  rw[bc]at hf ⊢;show λd h=>hf d (nH h)⟩
def B6(n:Nat)(ca:Nat->Addr):∀k,k<n->((bu n).map ca).getD k 0=ca k:=λk h=>by rw[cF,bC,nS h];rfl
def injR{n:Nat}{ca:Nat->Addr}(h:decide ((bu n).map ca).Nodup=γ):∀j k,j<n->k<n->ca j=ca k->j=k:=λj k hj hk e=>by rw[<-B6 n ca j hj,<- B6 n ca k hk]at e;show YV (bF h) (by exists hj) (by exists hk) e
def Bb:Nat->(Nat->Prop)->Prop
 |0,_=>True
 |n+1,Q=>Q 0/\Bb n λk=>Q (k+1)
theorem Bb.at:∀{n:Nat} {Q:Nat->Prop},Bb n Q->∀k,k<n->Q k
 |_+1,_,h,0,_=>h.1
 |_+1,_,h,k+1,hk=>Bb.at (Q:=λk=>_) h.2 k (Nat.lt_of_succ_lt_succ hk)
end
section
variable{X:Cx}{B:Bz}{k j i n:Nat}{x y:Str}{e e' tg:Expr}{es:List Expr}{p p2 p3 pos apos:Pos}{f f':FE}{a:FA}{st:Stmt}{sts:List Stmt}{fs fs':FS}{ft:FT}
def aal [C:Cz X B k](ha:ZE X B e f)(hb:ZE X B e' f')(hc:ZE X B e2 f2)(h1:Az X e "get")(h2:Ez apos pos)(h3:aG [e',e2] X.env=[(δ,eval e' X.env),(δ,eval e2 X.env)]):ZE X B (.Call (.Attribute e "get" apos) [e',e2] [] pos) (Jx f f' f2):=⟨R0 (Lu C.r) ha.p hb.p hc.p ⟨h1,by rw[h3];rfl,h2,by rw[h3];rfl⟩⟩
def aam(hn:X.N.length=n)(he:ZE X B e f)(hg:ZG X B tg n gg)(hs:swapsWithSole [tg] e pos.line X.env=pure δ)(hw:swappedStores [tg] e X.env=pure J)(h1:(cZ [tg] X.env).map (·.2)=[assign tg X.env]):ZS X B (.Assign [tg] e pos) (MV f gg):=⟨U7 (Xr he.p hg.p hs hw h1)⟩
def aan(ha:ZE X B e f):ZE X B (.UnaryOp .USub e pos) (c1 JD f):=⟨YW ha.p⟩
end
end L4
namespace L4
open PySem PySem.Spec PyProof.Rows L2 L3
theorem OE{α:Type}[DecidableEq α]:∀{l L:List α},l.Nodup->(∀x∈l,x∈L)->l.length<=L.length
 |[],L,_,_=>cc _
 |a::l,L,nd,h=>by have h1:=h a aR;have nd':=dg.mp nd;have:=OE (l:=l) (L:=L.erase a) nd'.2 λx hx=>(nI (λe:x=a=>nd'.1 (by rw[<-e];show hx))).mpr (h x (aU _ hx));rw[mX h1]at this;have:=j7 h1;rw[aT];omega
section
variable{t:bU}{m n:Nat}
def rs(m i q:Nat):iw:=⟨i,kU m i - i,i,q,J⟩
end
section
variable{ow:Array (Option Nat)}
def lv(ow:Array (Option Nat)):List (Nat×Nat):=(bu 32).filterMap λj=>(ow.getD j J).map (j,·)
end
theorem KM{α:Type}:∀(l:List α) (j:Nat) (x:α),l[j]?=Z x->(x::l.eraseIdx j).Perm l
 |[],j,x,h=>by cases h
 |a::l,0,x,h=>by ext h;show .refl _
 |a::l,j+1,x,h=>(List.Perm.swap a x _).trans (List.Perm.cons a (KM l j x h))
theorem OF{α:Type}(nx:Nat->Nat):∀(f k:Nat) (l:List α) (out:Array α),l.length=f->(pX nx f k l out).toList.Perm (out.toList++l)
 |0,k,l,out,h=>by obtain rfl:=j5.mp h;rw[bQ];show .refl _
 |f+1,k,l,out,h=>by have hlt:nx k % l.length<l.length:=qh _ ();have e:l[nx k % l.length]?=Z l[nx k % l.length]:=bg hlt;delta pX;rw[e];calc(OF nx f (k+1) _ _ (by rw[nJ,ao hlt];omega)).trans ?_;rw[oA,cp];show List.Perm.append_left _ (KM l _ _ e)
def JG{α:Type}(nx:Nat->Nat)(xs:Array α):(pickOrder nx xs).toList.Perm xs.toList:=OF nx xs.size 0 xs.toList [].toArray cM
section
variable{prog:aO}{w:aF}{A:aP}{E:ae->af->Prop}{s:af}
def VY(hn:n≠0)(h:∀i d,i<n->Q i { s with drawn:=d }):ah (model prog w) A (choose src n) Q E s:=λΓ p hΓ=>by change Sem.wp _ Γ (.choose src n .pure) _ _ p s;rw[Sem.wp_choose];show⟨hn,h _ _ (qh _ (Nat.pos_of_ne_zero hn))⟩
theorem OG{α:Type}:∀(n:Nat) (xs:List α) (s:af) {Q:List α->af->Prop},xs.length=n->(∀ys d,ys.Perm xs->Q ys { s with drawn:=d })->ah (model prog w) A (drawOrder n xs) Q E s
 |0,xs,s,Q,hl,h=>by obtain rfl:=j5.mp hl;delta drawOrder;show au (h [] s.drawn (.refl _))
 |n+1,[],s,Q,hl,h=>by cases hl
 |n+1,a::xs,s,Q,hl,h=>by delta drawOrder;calc ag (VY (by simp) λi d hi=>?_);have e:(a::xs)[i]?=Z (a::xs)[i]:=bg hi;rw[e];calc ag (OG n _ _ (by rw[nJ,ao hi];omega) λys d' p=>?_);show au (h _ d' ((List.Perm.cons _ p).trans (KM _ _ _ e)))
end
def xR:Slot "set_iterator" "__next__" "set_iterator.__next__" :=
 .of (owner:="set_iterator") (n:="__next__") (by rw[pb,nv];kernel_rfl) (by decide +kernel) (by decide +kernel) (by decide +kernel)
  (by first|show .inl (by decide +kernel)|show .inr (by decide +kernel)) (by rw[jo];kernel_rfl)
def Eh:Slot "set_iterator" "__iter__" "set_iterator.__iter__" :=
 .of (owner:="set_iterator") (n:="__iter__") (by rw[pb,nv];kernel_rfl) (by decide +kernel) (by decide +kernel) (by decide +kernel)
  (by first|show .inl (by decide +kernel)|show .inr (by decide +kernel)) (by rw[jo];kernel_rfl)
def Jb:entryFor table "set_iterator.__next__" = Z cU.«set_iterator.__next__»:=entryFor_of_tree (by kernel_rfl)
def L7:Manifest.owners.lookup (String.ofList ['r','o','t','a','r','e','t','i','_','t','e','s'].reverse)=Z Manifest.sig_set_iterator:=by kernel_rfl
def KN(a:ae):argsOk "set_iterator.__next__" ⟨[a],[]⟩:=by delta argsOk;rw[pP (id:="set_iterator.__next__") (n:=['_','_','t','x','e','n','_','_']) (o:=['r','o','t','a','r','e','t','i','_','t','e','s']) (by kernel_rfl) L7];kernel_rfl
def KO:entryFor table "set.__iter__" = Z cU.«frozenset.__iter__»:=pD (id':="frozenset.__iter__") (by kernel_rfl) O (by decide +kernel) (by kernel_rfl)
inductive Md(w:aF) (h:Heap) (S TP:Addr) (i:Nat) (ord:List ae) (es:Array (Int×ae)) (ep:Nat) (t:bU):ae->Prop
 |txt {sl:Int} {tk:Tok}:w.params.followText "set-order" = γ->ord=(pickOrder (w.params.setOrder S ep) es).toList.map bS->Md w h S TP i ord es ep t (.int sl tk)
 |drw {ps:List Nat} {vs:Array ae} {ot:Obj} {nt:Nat}:w.params.followText "set-order" = δ->h.get? TP=Z ot->ot.cls=.type "tuple" -> ot.data=.seq vs nt->vs=(ps.map λp:Nat=>rawInt p).toArray->ps.Perm (bu es.size)->ord=ps.filterMap (λp=>es[p]?.map bS)->Md w h S TP i ord es ep t (.ref TP)
 |one {sl:Int}:w.params.followText "set-order" = δ->es.size<=1->t.led=γ->(i=0->sl=0)->(∀j,i=1->t.place=#[j]->sl=(j+1:Nat))->ord=es.toList.map bS->Md w h S TP i ord es ep t (.int sl 0)
structure ItS(w:aF)(I S TP:Addr)(ord:List ae)(o:Obj)(es:Array (Int×ae))(ep:Nat)(t:bU)(i:Nat)(h:Heap):Prop where
 it:∃oi first,h.get? I=Z oi/\oi.cls=.type "set_iterator" /\ oi.data=.fields #[first,.int i 0,.ref S,.int es.size 0,.int ep 0]/\Md w h S TP i ord es ep t first
 at_:h.get? S=Z o
 d:o.data=.set es ep t
 f:t.fits es.size=γ
section
variable{prog:aO}{w:aF}{A:aP}{E:ae->af->Prop}{s:af}{I S TP:Addr}{ord:List ae}{o:Obj}{es:Array (Int×ae)}{ep:Nat}{t:bU}{i:Nat}
def E9(h:Q (w.params.followText "set-order") s):ah (model prog w) A setsByText Q E s:=by delta setsByText;show ag (kJ (au h))
def Nv(x:ItS w I S TP ord o es ep t i s.heap)(hm:Md w s.heap S TP i ord es ep t (.int sl tk))(hi:i<=1\/w.params.followText "set-order" = γ)
  (hQ:∀(v:ae) (nx:Nat),ord[i]?=Z v->Md w s.heap S TP (i+1) ord es ep t (.int nx 0)->Q (Z (v,nx)) s) (hN:ord[i]?=J->Q J s):ah (model prog w) A (setNext S sl.toNat i ep) Q E s:=by
 delta setNext;calc ag (dc x.at_ x.d x.f ?_);dsimp only;calc ag (E9 ?_);cases hm with
 |txt h1 h2=>
  rw[h1,ao O];rw[ak (by simp)];calc ag ?_;delta setWalk;calc ag (dc x.at_ x.d x.f ?_);dsimp only;calc ag (E9 ?_);rw[h1,ao O];calc ag (kJ ?_);calc au ?_;calc au ?_;change Q (Option.map (λe=>(e.snd,sl.toNat)) (pickOrder (w.params.setOrder S ep) es)[i]?) s;have e:ord[i]?=((pickOrder (w.params.setOrder S ep) es)[i]?).map bS:=by rw[h2,bC,j8]
  cases hp:(pickOrder (w.params.setOrder S ep) es)[i]? with
  |none=>rw[hp]at e;show hN e
  |some q=>rw[hp]at e;show hQ q.2 _ e (.txt h1 h2)
 |one h1 h2 h3 h4 h5 h6=>
  have fs:t.place.size=es.size:=by have:=x.f;delta pL at this;rw[aW,beq_iff_eq]at this;show this.1
  rw[h1,ak #[]];rw[ak (λhh=>by
   have:(!t.plain&&decide (es.size > 1))=γ:=hh;simp at this;omega)]
  calc ag ?_;wp_delta;rw[ak (by rw[h3];simp)];calc au ?_;calc au ?_;have c:es.size=0\/es.size=1:=by omega
  rcases c with c|c
  .have e1:es=[].toArray:=Array.eq_empty_of_size_eq_zero c;subst e1;show hN (by rw[h6];rfl)
  .let#v[e,rfl]:=ny.mp c;let#v[j,ej]:=ny.mp (fs.trans c);rw[ej];have hi1:i<=1:=hi.resolve_right λe=>by rw[h1]at e;ext e
   have:i=0\/i=1:=by omega
   rcases this with rfl|rfl
   .rw[h4 O];change Q (match #[e][cX #[j] 0]?,#[j][cX #[j] 0]? with|some (_,x),Z j=>Z (x,j+1)|_,_=>J) s;rw[show cX #[j] 0=0 from by simp[cX,fE]];show hQ e.2 (j+1) (by rw[h6];rfl) (.one h1 h2 h3 (λz=>by ext z) (λj' _ e'=>by rw[ej]at e';ext e';rfl) h6)
   .rw[h5 j O ej];change Q (match #[e][cX #[j] (j+1)]?,#[j][cX #[j] (j+1)]? with|some (_,x),Z j=>Z (x,j+1)|_,_=>J) s;rw[show cX #[j] (j+1)=1 from by simp[cX,fE]];show hN (by rw[h6];rfl)
def ItS.ty(x:ItS w I S TP ord o es ep t i s.heap):s.TypeIs (.ref I) "set_iterator" := let ⟨⟨oi,_,h1,h2,_⟩,_,_,_⟩:=x;⟨oi,h1,h2⟩
def ItS.ordlen(x:ItS w I S TP ord o es ep t i s.heap):ord.length=es.size:=by
 let#v[#v[oi,first,_,_,_,hm],_,_,_]:=x;cases hm with
 |txt h1 h2=>rw[h2,aq,(JG _ es).length_eq,cM]
 |drw h1 h2 h3 h4 h5 h6 h7=>rw[h7,(h6.filterMap _).length_eq];have:=mY es;rw[show (bu es.size).filterMap (λp=>es[p]?.map bS)=((bu es.size).filterMap λp=>es[p]?).map bS from(n6 ..).symm,this,aq,cM]
 |one h1 h2 h3 h4 h5 h6=>rw[h6,aq,cM]
theorem SF{α β:Type}(f:α->Option β):∀(ps:List α),(∀p∈ps,∃v,f p=Z v)->∀i:Nat,(ps.filterMap f)[i]?=ps[i]?.bind f
 |[],_,i=>rfl
 |p::ps,h,i=>by
  let#v[v,e]:=h p aR;rw[i4,e];cases i with
  |zero=>change Z v=f p;rw[e]
  |succ i=>show SF f ps (λq hq=>h q (aU _ hq)) i
def Md.mv(m:Md w h S TP i ord es ep t (.int sl tk)):Md w h' S TP i ord es ep t (.int sl tk):=by
 cases m with
 |txt h1 h2=>show .txt h1 h2
 |one h1 h2 h3 h4 h5 h6=>show .one h1 h2 h3 h4 h5 h6
def OH{B:aP}{R:Fin->af->Prop}{s0:af}{Q:Option ae->af->Prop}(hh:B.handled=J)(hN:∀h',(∀b o,s0.heap.get? b=Z o->h'.get? b=Z o)->Q J { s0 with heap:=h' }):
  ah (model prog w) B (do let e<-newExc (.type "StopIteration") [];raiseNew e) R (λe s'=>ah (model prog w) A (do if<-isInstance e (.type "StopIteration")then pure J else throw e) Q E s') s0:=by
 calc ag ?_;erw[newExc,newTuple];calc ag (eL ?_ (by size_fits));calc ag (m:=firstArgMember _ _) (lY (a:=Value.none) (by first|rfl|(erw[firstArgMember];rfl)) ?_);calc eL ?_ (by size_fits);erw[raiseNew];calc ag (pN ?_);rw[hh];calc ag (au (wpAny_throw ?_));calc ag (kK (T:="StopIteration") (b:=γ) ⟨_,bq _ O,O⟩ pC ?_);show au (hN _ λb o e=>aC _ (aC _ e))
def SG(hh:A.handled=J)(x:ItS w I S TP ord o es ep t i s.heap)(hi:i<=ord.length)(hS:S≠I)(hT:TP≠I)
  (hQ:∀v h',ord[i]?=Z v->dt I s.heap h'->ItS w I S TP ord o es ep t (i+1) h'->Q (Z v) { s with heap:=h' }) (hN:∀h',ord[i]?=J->qe I s.heap h'->Q J { s with heap:=h' }):
  ah (model prog w) A (pyNext (.ref I)) Q E s:=by
 have ol:=x.ordlen;let#v[oi,first,hoi,hci,hdi,hm]:=x.it;delta pyNext;calc ag (lA (iU (name:=gr "__next__") x.ty xR (d7 xR x.ty Jb ?_ (KN _))));change ah _ _ (fieldsOf (.ref I)>>=_) _ _ s;calc ag (wpAny_fieldsOf hoi hdi ?_);change ah _ _ (setEntries S>>=_) _ _ s;calc ag ?_;delta setEntries;calc ag (dc x.at_ x.d x.f ?_);calc au ?_;dsimp only;rw[ak (by simp)];erw[d5];have byint:∀(sl:Int) (tk:Tok),first=.int sl tk->(i<=1\/w.params.followText "set-order" = γ)->ah (model prog w) A.in1 (do
   let r<-setNext S sl.toNat i ep
   match r with
    |some (x,next)=>do
     setField (Value.ref I) 0 (rawInt ↑next)
     setField (Value.ref I) 1 (rawInt (↑i+1))
     ret x
    |none=>do
     setField (Value.ref I) 2 Value.none
     let e<-newExc (Value.type "StopIteration") []
     raiseNew e) (λfin s'=>∃v,fin=Fin.done (Flow.ret v)/\ah (model prog w) A (pure (Z v)) Q E s') (λe s'=>ah (model prog w) A (do if<-isInstance e (.type "StopIteration")then pure J else throw e) Q E s') s:=λsl tk e hi'=>by
  subst e;refine ag (Nv x hm hi' (λv nx ev m=>?_) λev=>?_)
  .calc ag (eS hoi hdi (by simp) ?_);have g1:=eG (h:=s.heap) (fQ (·.setIfInBounds 0 (rawInt (nx:Int)))) hoi (hX (dH hdi _))
   have d1:=dH hdi (·.setIfInBounds 0 (rawInt (nx:Int)))
   calc ag (eS g1 d1 (by simp) ?_);have g2:=eG (fQ (·.setIfInBounds 1 (rawInt ((i:Int)+1)))) g1 (hX (dH d1 _))
   have d2:=dH d1 (·.setIfInBounds 1 (rawInt ((i:Int)+1)))
   have sb:=(c7 s.heap I (fQ (·.setIfInBounds 0 (rawInt (nx:Int))))).trans (c7 _ I (fQ (·.setIfInBounds 1 (rawInt ((i:Int)+1)))))
   refine au ⟨v,O,au (hQ v _ ev sb ⟨⟨_,.int nx 0,g2,(jf ..).trans ((jf ..).trans hci),?_,m.mv⟩,?_,x.d,x.f⟩)⟩
   .rw[d2];simp[rawInt]
   .rw[sb.2 S hS];show x.at_
  .calc ag (eS hoi hdi (by simp) ?_);show OH (by simp[hh]) λh' k=>hN h' ev λb o hb e=>k b o (by rw[(c7 ..).2 b hb];show e)
 cases hm with
 |txt h1 h2=>show byint _ _ O (.inr h1)
 |one h1 h2 h3 h4 h5 h6=>show byint _ _ O (.inl ())
 |@drw ps vs ot nt h1 h2 h3 h4 h5 h6 h7=>
  change ah _ _ (seqItems? (.ref TP)>>=_) _ _ s;calc ag (ee h2 h4 ?_);have al:∀p∈ps,∃v,(es[p]?.map bS)=Z v:=λp hp=>by have:=cu.mp (h6.mem_iff.mp hp);show⟨es[p].2,by rw[Array.getElem?_eq_getElem this];rfl⟩
  have eg:ord[i]?=ps[i]?.bind λp=>es[p]?.map bS:=by rw[h7];show SF _ ps al i
  have ev:vs[i]?=ps[i]?.map λp:Nat=>rawInt p:=by rw[h5,j9,bC]
  cases ep':ps[i]? with
  |none=>
   rw[ep']at ev eg;dsimp only;rw[ev];calc ag (eS hoi hdi (by simp) ?_);have g1:=eG (h:=s.heap) (fQ (·.setIfInBounds 0 (rawInt 0))) hoi (hX (dH hdi _))
   have d1:=dH hdi (·.setIfInBounds 0 (rawInt 0))
   calc ag (eS g1 d1 (by simp) ?_);show OH (by simp[hh]) λh' k=>hN h' eg λb o hb e=>k b o (by rw[(c7 ..).2 b hb,(c7 ..).2 b hb];show e)
  |some p=>
   rw[ep']at ev eg;let#v[v,e1]:=al p (cG ep');dsimp only;rw[ev];change ah _ _ (setNextDrawn S (p:Int).toNat ep>>=_) _ _ s;rw[d5];calc ag ?_;delta setNextDrawn;calc ag (dc x.at_ x.d x.f ?_);dsimp only;rw[ak (by simp)];cases e2:es[p]? with
   |none=>rw[e2]at e1;cases e1
   |some q=>
    rw[e2]at e1;calc au ?_;calc ag (eS hoi hdi (by simp) ?_);have g1:=eG (h:=s.heap) (fQ (·.setIfInBounds 1 (rawInt ((i:Int)+1)))) hoi (hX (dH hdi _))
    have d1:=dH hdi (·.setIfInBounds 1 (rawInt ((i:Int)+1)))
    have sb:=c7 s.heap I (fQ (·.setIfInBounds 1 (rawInt ((i:Int)+1))))
    refine au ⟨_,O,au (hQ _ _ (by rw[eg];change es[p]?.map bS=_;rw[e2];rfl) sb ⟨⟨_,.ref TP,g1,(jf ..).trans hci,?_,.drw h1 (by rw[sb.2 TP hT];show h2) h3 h4 h5 h6 h7⟩,?_,x.d,x.f⟩)⟩
    .rw[d1];simp[rawInt]
    .rw[sb.2 S hS];show x.at_
end
def Jc:entryFor table "set_iterator.__iter__" = Z cU.«dict_keyiterator.__iter__»:=pD (id':="dict_keyiterator.__iter__") (by kernel_rfl) O (by decide +kernel) (by kernel_rfl)
def KP(a:ae):argsOk "set_iterator.__iter__" ⟨[a],[]⟩:=by delta argsOk;rw[pP (id:="set_iterator.__iter__") (n:=['_','_','r','e','t','i','_','_']) (o:=['r','o','t','a','r','e','t','i','_','t','e','s']) (by kernel_rfl) L7];kernel_rfl
section
variable{prog:aO}{w:aF}{A:aP}{E:ae->af->Prop}{s:af}{I S TP:Addr}{ord:List ae}{o:Obj}{es:Array (Int×ae)}{ep:Nat}{t:bU}
def Md.at{h':Heap}(m:Md w h S TP i ord es ep t f)(k:∀o,h.get? TP=Z o->h'.get? TP=Z o):Md w h' S TP i ord es ep t f:=by
 cases m with
 |txt h1 h2=>show .txt h1 h2
 |one h1 h2 h3 h4 h5 h6=>show .one h1 h2 h3 h4 h5 h6
 |drw h1 h2 h3 h4 h5 h6 h7=>show .drw h1 (k _ h2) h3 h4 h5 h6 h7
def aao(hh:A.handled=J)(hS:S≠I)(hT:TP≠I):Walks prog w A I [I,S,TP] [I] ord.length (λi v=>ord[i]?=Z v) (λi h=>ItS w I S TP ord o es ep t i h/\i<=ord.length) where
 sub:=λb hb=>by simp at hb;simp[hb]
 frame:=λi h h' st hk=>by let#v[#v[#v[oi,f,h1,h2,h3,hm],h4,h5,h6],h7]:=st;show⟨⟨⟨oi,f,hk I (by simp) _ h1,h2,h3,hm.at λo e=>hk TP (by simp) o e⟩,hk S (by simp) _ h4,h5,h6⟩,h7⟩
 item:=λi s Q E hi st hQ=>SG hh st.1 st.2 hS hT (λv h' ev sb x=>hQ v h' s.toks ev ⟨x,by omega⟩ λb o hb e=>by rw[sb.2 b λz=>hb (by simp[z])];show e) λh' en _=>by rw[bg hi]at en;ext en
 done:=λs Q E st hQ=>SG hh st.1 st.2 hS hT (λv h' ev _ _=>by rw[gf (aS _)]at ev;ext ev) λh' _ k=>hQ h' s.toks λb o hb e=>k b o (λz=>hb (by simp[z])) e
 self:=λi s Q E st h=>by calc oE st.1.ty Eh (d7 Eh st.1.ty Jc ?_ (KP _));change ah _ _ (ret (.ref I)) _ _ s;show au ⟨_,O,"set_iterator", _,st.1.ty,xR.lookup,h⟩
end
end L4
namespace L4
open PySem PySem.Spec PySem.Calls PyProof.Rows PySem.W L2 L3
section
variable{X:Cx}{G:Bg}{H:Hp}{pins:cJ}{σ:St}{s:af}
def Inv.drw(I:Inv X pins σ H s)(d:Drawn):Inv X pins σ H { s with drawn:=d }:=⟨I.ok,I.os,I.bare,I.base,I.loc,I.cell,I.free,I.freeC,I.pin,I.hok,I.len⟩
end
noncomputable abbrev cS(s:Str):FE:=cC (.str s)
noncomputable abbrev a1(e:FE):FA:=aCons e uk
section
variable{X:Cx}{G:Bg}{C:Addr}{x:Str}{p pos:Pos}{e:Expr}{c:Nat}
structure Mk0(K:av)(C:Addr):Prop where
 makes:makesIn K C=γ
 init:findIn K (.ref C) "__init__" = Z (Z (.builtin "object.__init__"))
 kp:keepIn K (.ref C)=γ
def Qn(M:Mk0 X.K C)(hg:Gl X x)(hm:X.mg x=Z (.ref C))(hdb:(x==("__debug__" : Str))=δ):PE X (.Call (.Name x p) [] [] pos) (λσ H Q=>∀y dx,H y=J->H dx=J->dx≠y->Q (.ref y) (upd (upd H dx (.own y)) y (.ins C dx []))):=by
 sleep 11
 calc dG (DV I hg hm ?_ hdb);calc lj I.kIn M.kp ?_;have hq:=h (~~~s+1) (~~~s) (I.hok.fresh (iB _)) (I.hok.fresh (aS _)) (aV (dq _));have I2:=Inv.made (C:=C) I;have Y:=l8 (M:=model X.prog X.w) I.kIn M.makes;calc jv (Pn I.kIn M.makes M.init (λself=>Looks.of_pure (oi_bind self)) ?_);have e2:((s.heap.push emptyDict).push (instObj C (~~~s))).get? (~~~s+1)=Z (instObj C (~~~s)):=by rw[<-b9 s.heap emptyDict];show bq _ O
 have t2:Looks (model X.prog X.w) ((s.heap.push emptyDict).push (instObj C (~~~s))) (isInstance (.ref (~~~s+1)) (.type "object")) γ:=
  ((Looks.ld e2).andThen .now:Looks (model X.prog X.w) _ (typeOf (.ref (~~~s+1))) (.ref C)).andThen (Y.top.keeps λb o e=>aC _ (aC _ e))
 calc nF oi_plain entry_oi (check_slot oi_kind oi_split t2 (oi_args _) ?_);rw[oi_run];show au (And.intro rfl ⟨V.ref (~~~s+1),_,I2,rfl,hq⟩)
def cNew(c:Nat):FE:=λρ=>Z (.obj c [] [],ρ)
def Qo(h:PE X e (λσ H Q=>∀y dx,H y=J->H dx=J->dx≠y->Q (.ref y) (upd (upd H dx (.own y)) y (.ins (G.ca c) dx [])))):PE X e (tF G (cNew c)):=PE.weak h λσ H Q hh=>by
 sleep 9
 ext e;intro x dx hx hdx ne;have hx2:(upd H dx (.own x)) x=J:=by rw[tT (λz=>ne z.symm)];show hx
 have sx:ue H (upd (upd H dx (.own x)) x (.ins (G.ca c) dx [])):=(ui hdx _).trans (ui hx2 _);have R2:=R.grow sx (λ_ _ e=>e) (R.sub.trans sx) (λb o e=>.inl e);have h0:=R.h0none hx;have R3:=R2.freeze tU h0 (R.bNone hx) (λi t ei to z=>R.apart hx i t ei to z);calc k _ _ _ (ui h0 _) R3 ?_;delta Rep;show⟨x,dx,[],O,tU,O,uy⟩
end
section
variable{X:Cx}{B:Bz}{k:Nat}{p pos:Pos}{x:Str}{c:Nat}
class K0f(B:Bz)(x:Str)(c:Nat):Prop where p:Mk0 B.G.K (B.G.ca c)/\B.mg x=Z (.ref (B.G.ca c))
def aaq [C:Cz X B k][Q:K0f B x c](hg:Gz X x)(hd:(x==("__debug__" : Str))=δ):ZE X B (.Call (.Name x p) [] [] pos) (cNew c):=⟨Qo (Qn (by rw[C.K];show Q.p.1) hg (by rw[C.mg];show Q.p.2) hd)⟩
end
end L4
namespace L4
open PySem PySem.Spec PyProof.Rows L2 L3
section
variable{X:Cx}{B:Bz}{k j i m:Nat}{x:Str}{e e':Expr}{es:List Expr}{d:D}{p pos:Pos}{g:D->D->Option D}
def acd:ZB X B l Vr:=⟨λpins s σ H D I h=>by
 let#v[F,ρ,H0,o,R,e,_]:=h;ext e⟩
end
theorem A7.mono(M:A7 G P w mg base j m c h)(hk:fX j k=γ):A7 G P w mg base k m c h:=by let#v[f,fd,ps,a,b,c,F]:=M;show⟨f,fd,ps,a,b,c,F.mono (fT.mp hk)⟩
mutual
def HI:D->Bool
 |.non=>γ
 |.bl _=>γ
 |.int _=>γ
 |.str _=>γ
 |.tup ds=>HJ ds
 |.lst ds=>HJ ds
 |_=>δ
def HJ:bw->Bool
 |[]=>γ
 |d::ds=>HI d&&HJ ds
end
mutual
theorem Rep.but(e:∀b o,H b=Z o->(∀u kvs,o≠HO.frz u (.dK kvs))->H1 b=Z o):∀(d:D) (v:V),HI d=γ->Rep G H d v->Rep G H1 d v
 |.non,v,_,h=>by delta Rep at h ⊢;show h
 |.bl b,v,_,h=>by delta Rep at h ⊢;show h
 |.int i,v,_,h=>by delta Rep at h ⊢;show h
 |.str x,v,_,h=>by delta Rep at h ⊢;show h
 |.tup ds,v,n,h=>by
  delta Rep at h ⊢;delta HI at n;let#v[a,xs,rfl,h1,h2]:=h;calc⟨a,xs,O,?_,Reps.but e ds xs n h2⟩;rcases h1 with (h|⟨o,h⟩)|h
  .show .inl (.inl (e _ _ h λ_ _ z=>nomatch z))
  .show .inl (.inr ⟨o,e _ _ h λ_ _ z=>nomatch z⟩)
  .show .inr h
 |.lst ds,v,n,h=>by delta Rep at h ⊢;delta HI at n;let#v[a,xs,rfl,h1,h2]:=h;show⟨a,xs,O,e _ _ h1 (λ_ _ z=>nomatch z),Reps.but e ds xs n h2⟩
 |.fzl ds,v,n,h=>by delta HI at n;cases n
 |.obj c ns ds,v,n,h=>by delta HI at n;cases n
 |.dic ks ds,v,n,h=>by delta HI at n;ext n
theorem Reps.but(e:∀b o,H b=Z o->(∀u kvs,o≠HO.frz u (.dK kvs))->H1 b=Z o):∀(ds:bw) (xs:bN),HJ ds=γ->Reps G H ds xs->Reps G H1 ds xs
 |[],xs,_,h=>by delta Reps at h ⊢;show h
 |d::ds,xs,n,h=>by delta Reps at h ⊢;delta HJ at n;rw[aW]at n;let#v[v,r,rfl,h1,h2]:=h;show⟨v,r,O,Rep.but e d v n.1 h1,Reps.but e ds r n.2 h2⟩
end
section
variable{t:bU}{m n:Nat}
def tM(m:Nat):bU:=⟨m,[].toArray,[].toArray,0,δ,0,δ⟩
def Wy(m:Nat)(A':Nat->Prop)(j:Nat):Nat->iw->Prop
 |0,_=>False
 |f+1,p=>p.j=j\/(A' p.j/\Wy m A' j f ((tM m).advance p))
end
def Mm(m:Nat):Prop:=m=7\/m=31\/m=127
section
variable{κ α:Type}[DecidableEq κ]
def uqK(l:List κ):List κ:=l.foldl (λacc k=>if k∈acc then acc else acc++[k]) []
theorem GK:∀(l acc:List κ),acc.Nodup->(l.foldl (λacc k=>if k∈acc then acc else acc++[k]) acc).Nodup/\∀x,x∈l.foldl (λacc k=>if k∈acc then acc else acc++[k]) acc ↔ x∈acc\/x∈l
 |[],acc,h=>⟨h,λx=>⟨.inl,λh=>h.resolve_right (by simp)⟩⟩
 |k::l,acc,h=>by
  rw[kR];split
  .rename_i hk;let#v[h1,h2]:=GK l acc h;calc⟨h1,λx=>(h2 x).trans ⟨λh=>h.imp id (aU _),λh=>?_⟩⟩;rcases h with h|h
   .show .inl h
   .rcases aQ.mp h with rfl|h
    .show .inl hk
    .show .inr h
  .rename_i hk;let#v[h1,h2]:=GK l (acc++[k]) (cq.mpr ⟨h,dg.mpr ⟨cw,.nil⟩,λa ha b hb e=>hk (by rw[<-aY.mp hb,<- e];show ha)⟩);calc⟨h1,λx=>(h2 x).trans ?_⟩;rw[ba,aY,aQ,or_assoc]
def Nw(l:List κ):(uqK l).Nodup:=(GK l [] .nil).1
def KQ{l:List κ}{x:κ}:x∈uqK l ↔ x∈l:=((GK l [] .nil).2 x).trans ⟨λh=>h.resolve_left (by simp),.inr⟩
end
end L4
namespace L4
open PySem PySem.Spec PySem.Calls PyProof.Rows PySem.W L2 L3
section
variable{prog:aO}{w:aF}{A:aP}{E:ae->af->Prop}{s:af}
theorem Qp(h:Q 0xFCA86420 { s with toks:=s.toks+1 }):ah (model prog w) A (pyHash .none) Q E s:=by
 change ah _ _ (pyHashByItsType .none) Q E s;delta pyHashByItsType;calc ag ?_;rw[cRoomFor,ak (by rw[show [Value.none].any Value.onHeap=δ from O];show bA)];calc au ?_;calc ag (iq (jt s) i3.lookup ?_);change ah _ _ (if (Z (Value.builtin "NoneType.__hash__")==Z Value.none)=γ then _ else _) Q E s;rw[ak (by rw[beq_builtin_none];show bA)];calc ag (iq (jt s) i3.lookup ?_);change ah _ _ (callSpecialIfBoundUnlessNone? .none "__hash__" _>>=_) Q E s;refine ag (wpAny_callSpecialIfBoundUnlessNone?_slot (jt s) i3
  (d7 i3 (jt s) F.entry_NoneType_hash
   (show ah _ _ (do ret (<-mkInt 0xFCA86420)) _ _ s from wpAny_ret_mkInt ?_) (F.args_NoneType_hash_1 _)))
 show au h
def VZ(h:Q γ s):ah (model prog w) A (eqBool .none .none) Q E s:=by delta eqBool;calc cA ?_;rw[ao (show (Value.none==Value.none)=γ from O)];show ag (fi (au h))
def oIs:Option Key->ae->Bool
 |none,.none=>γ
 |none,_=>δ
 |some k,v=>GV k v
def zd(h:oIs k v=γ):(k=J/\v=.none)\/(∃i t,k=Z (Sum.inl i)/\v=Value.int i t)\/∃x t,k=Z (Sum.inr x)/\v=Value.str x t:=by
 cases k with
 |none=>ext v<;>first|show .inl ⟨O,O⟩|cases h
 |some k=>
  rcases uU (k:=k) h with ⟨i,t,rfl,rfl⟩|⟨x,t,rfl,rfl⟩
  .show .inr (.inl ⟨i,t,O,O⟩)
  .show .inr (.inr ⟨x,t,O,O⟩)
def optKind(prog:aO)(w:aF):pE prog w (Option Key) where
 is:=oIs
 hash:=λk=>match k with|none=>0xFCA86420|some k=>keyH w k
 inj:=λv a b ha hb=>by rcases zd ha with ⟨rfl,rfl⟩|⟨i,t,rfl,rfl⟩|⟨x,t,rfl,rfl⟩<;>rcases zd hb with ⟨rfl,e⟩|⟨j,u,rfl,e⟩|⟨y,u,rfl,e⟩<;>first|rfl|(ext e;rfl)|ext e
 byValue:=λk v h=>by rcases zd h with ⟨rfl,rfl⟩|⟨i,t,rfl,rfl⟩|⟨x,t,rfl,rfl⟩<;>rfl
 pyHash:=λ{A E s k v Q} hv h=>by
  cases k with
  |some k=>show(um prog w).pyHash (k:=k) hv h
  |none=>
   rcases zd hv with ⟨_,rfl⟩|⟨i,t,e,_⟩|⟨x,t,e,_⟩
   .show Qp h
   .ext e
   .ext e
 eqBool:=λ{A E s a b u v Q} hu hv h=>by
  rcases zd hu with ⟨rfl,rfl⟩|⟨i,t,rfl,rfl⟩|⟨x,t,rfl,rfl⟩<;>rcases zd hv with ⟨rfl,rfl⟩|⟨j,u,rfl,rfl⟩|⟨y,u,rfl,rfl⟩
  .show VZ h
  .show nL j u _ _ _ _ h
  .show nM y u _ _ _ _ h
  .show nN i t _ _ _ _ h
  .show(um prog w).eqBool (a:=Sum.inl i) (b:=Sum.inl j) hu hv (by exists h)
  .show(um prog w).eqBool (a:=Sum.inl i) (b:=Sum.inr y) hu hv (by exists h)
  .show nO x t _ _ _ _ h
  .show(um prog w).eqBool (a:=Sum.inr x) (b:=Sum.inl j) hu hv (by exists h)
  .show(um prog w).eqBool (a:=Sum.inr x) (b:=Sum.inr y) hu hv (by exists h)
 «strs»:=λk x t v h=>by
  cases k with
  |none=>cases h
  |some k=>show(um prog w).strs k x t v h
def V0{h:Heap}(m:h.MapOf (um prog w) a f):h.MapOf (optKind prog w) a (λk=>match k with|none=>J|some k=>f k):=by
 let#v[o,es,ep,h1,h2,h3,h4,h5]:=m;refine⟨o,es,ep,h1,h2,h3,λe he=>?_,λk=>?_⟩
 .let#v[k,k1,k2]:=h4 e he;show⟨Z k,k1,k2⟩
 .cases k with
  |some k=>show h5 k
  |none=>
   delta findBy;rw[Array.find?_eq_none.mpr λe he=>?_]
   .rfl
   .let#v[k,k1,_]:=h4 e he;rcases uU k1 with ⟨i,t,_,e1⟩|⟨x,t,_,e1⟩<;>(rw[e1];show bA)
end
section
variable{X:Cx}{G:Bg}{H:Hp}{pins:cJ}{σ:St}{s:af}
def aar(I:Inv X pins σ H s)(e:Rd H a (.dK kvs))(h:∀s',Inv X pins σ H s'->Q .none s'):ah (model X.prog X.w) A (call (.builtin "dict.get") [.ref a,.none]) Q E s:=by let#v[z,hd,vs,rel,dd]:=Fv I.hok e;show gw eO dd.typeIs il (kF _ _) (ph (optKind X.prog X.w) a (k:=J) O hd) ⟨_,V0 dd.mapOf,h _ (I.tok _)⟩
def aas(td ty:TE):TE:=λσ H Q=>td σ H λx H1=>∃a,x=.ref a/\IsD H1 a/\ty σ H1 λy H2=>(∃o,DGet H2 a y o/\Q (o.getD .non) H2)\/(y=.non/\(∃kvs,Rd H2 a (.dK kvs))/\Q .non H2)
def SI(hu:X.A.units+1<cLine)(ho:PE X o td)(he:PE X e ty)(m:M1 X o "get" apos e cpos):PE X (.Call (.Attribute o "get" apos) [e] [] cpos) (aas td ty):=by
 sleep 11
 calc jc m.base m.few m.line je eO kO (thn (ho pins s σ H _ I h) λu s1 hh=>?_);let#v[x,H1,I1,rx,a,ex,d,q1]:=hh;subst ex;obtain rfl:u=Value.ref a:=rx;let#v[t1,t2,_]:=Ks I1 d;calc⟨t1,t2,?_⟩;rw[m.trees];calc hJ O (ia (dZ (thn (he pins s1 σ H1 _ I1 q1) λiv s2 hh=>fD ?_)));obtain⟨y,H2,I2,ry,⟨ov,g,q2⟩|⟨rfl,⟨kvs,e⟩,q2⟩⟩:=hh
 .show Q5 hu I2 g ry λw' s3 I3 rw'=>⟨_,H2,I3,rw',q2⟩
 .obtain rfl:iv=.none:=ry;show aar I2 e λs3 I3=>⟨.non,H2,I3,O,q2⟩
def L8:D->D->Option D:=λx y=>match y with
 |.non=>match x with
  |.dic _ _=>Z .non
  |_=>J
 |y=>BB x y
def SJ(hu:X.A.units+1<cLine)(ha:PE X a (tF G f))(hb:PE X b (tF G f'))(m:M1 X a "get" apos b cpos):PE X (.Call (.Attribute a "get" apos) [b] [] cpos) (tF G (c2 L8 f f')):=PE.weak (SI hu ha hb m) λσ H Q hh=>by
 sleep 9
 let#v[x,y,ρ1,e1,e2,e3]:=GB e;cases x with
 |dic ks ds=>
  calc⟨F,ρ,H0,_,ρ1,R,e1,λv H1 H1' s1 R1 r1=>?_⟩;have r1':=r1;delta Rep at r1';let#v[p,ob,xs,rfl,h1,h2,h3]:=r1';calc⟨p,O,.inl ⟨_,.inr ⟨_,R1.sub _ _ h1⟩⟩,F,ρ1,H1,y,ρ',R1,e2,λu H2 H2' s2 R2 r2=>?_⟩;by_cases hy:y=.non
  .subst hy;ext e3;delta Rep at r2;subst r2;show .inr ⟨O,⟨_,.inr ⟨_,R2.sub _ _ (s2 _ _ h1)⟩⟩,k _ H2 H2' (s1.trans s2) R2 zP⟩
  .left;have e3:BB (.dic ks ds) y=Z d:=by
    delta L8 at e3;split at e3
    .show ar O hy
    .show e3
   delta BB at e3;cases ek:AA y with
   |none=>erw[ek]at e3;cases e3
   |some j=>
    erw[ek]at e3;ext e3;have lv:=BW (ks:=ks) j (Reps.mono s2 _ _ h3) h2;refine⟨xG (ks.zip xs) j,?_,?_⟩
    .rw[A8 r2 ek];show DGet.kf (R2.sub _ _ (s2 _ _ h1))
    .cases el:vp ks ds j with
     |none=>rw[el]at lv k;rw[lv];show k _ H2 H2' (s1.trans s2) R2 zP
     |some z=>rw[el]at lv k;let#v[w,w1,w2]:=lv;rw[w1];show k _ H2 H2' (s1.trans s2) R2 w2
 |_=>
  delta L8 at e3;split at e3
  .ext e3
  .delta BB at e3;ext e3
end
section
variable{X:Cx}{B:Bz}{k:Nat}{e e':Expr}{f f':FE}{apos pos:Pos}
def aat [C:Cz X B k](ha:ZE X B e f)(hb:ZE X B e' f')(h1:Az X e "get")(h2:Ez apos pos)(h3:S1 X e'):ZE X B (.Call (.Attribute e "get" apos) [e'] [] pos) (c2 L8 f f'):=⟨SJ (Lu C.r) ha.p hb.p ⟨h1,by rw[h3];rfl,h2,by rw[h3];rfl⟩⟩
end
def tOr(t t':Ty->Option Bool):Ty->Option Bool:=λy=>match t y with
 |some γ=>match t' y with
  |some _=>Z γ
  |none=>J
 |some δ=>t' y
 |none=>J
def inst_or(h:Hu G c t)(h':Hu G c' t'):Oq G [c,c'] (tOr t t'):=by
 refine⟨λy b e=>?_,λj b e=>?_⟩
 .delta tOr at e;change kitAny G.K (y.val G) [.ref (G.ca c),.ref (G.ca c')]=Z b;delta kitAny;cases e1:t y with
  |none=>erw[e1]at e;cases e
  |some v=>
   erw[e1]at e;rw[h.1 y v e1];cases v with
   |true=>
    cases e2:t' y with
    |none=>erw[e2]at e;cases e
    |some w=>erw[e2]at e;ext e;rfl
   |false=>simp only at e;delta kitAny;simp only;rw[h'.1 y b e];ext b<;>rfl
 .delta tOr at e;cases e1:t (.c j)with
  |none=>erw[e1]at e;cases e
  |some v=>show h.2 j v e1
section
variable{X:Cx}{B:Bz}{k:Nat}{e:Expr}{f:FE}{p p2 p3 p4 pos:Pos}{x y:Str}
def zr_i2I{z1}[Q:Ic B x t][Q':Ic B y t'][C:Cz X B k][N:Nb B "isinstance"](hi:Gz X "isinstance")(hg:Gz X x)(hg':Gz X y)(hs:aG [e,.Tuple [.Name x p2,.Name y p3] z1 p4] X.env=[(δ,eval e X.env),(δ,eval (.Tuple [.Name x p2,.Name y p3] z1 p4) X.env)])(hs':S1 X (.Tuple [.Name x p2,.Name y p3] z1 p4))(hs2:aG [.Name x p2,.Name y p3] X.env=[(δ,eval (.Name x p2) X.env),(δ,eval (.Name y p3) X.env)])(hs3:S1 X (.Name y p3))(ha:ZE X B e f)(hd:Dz x)(hd':Dz y):ZE X B (.Call (.Name "isinstance" p) [e,.Tuple [.Name x p2,.Name y p3] z1 p4] [] pos) (c1 (uF (tOr t t')) f):=by
 let#v[c,q1,q2]:=Q.p;let#v[c',r1,r2]:=Q'.p;refine⟨Sb (cs:=[c,c']) (DZ (M8 (inst_or q1 r1) C.K) hi (C.mg▸N.p) kW (wu ha.p (wu (QV (wu (GA (v:=.ref (B.G.ca c)) hg (C.mg▸q2) O hd) (wu (GA (v:=.ref (B.G.ca c')) hg' (C.mg▸r2) O hd') zq hs3) ?_)) zq hs') ?_) #[] #[] ?_ ?_) (by change 2<=1000;decide)⟩
 .rw[hs2,hs3]
 .rw[hs,hs']
 .rw[hs,hs']
 .rw[hs'];rfl
end
section
variable{P:aO}{w:aF}{mg:Str->Option ae}{base:Heap}{G:Bg}{x:Str}
def GX(K:av)(x s:Str):Prop:=∃t:Tok,nsIn K aX x=Z (Z (.str s t))
def const_str(X:G.K.In h)(Gn:h.Ns aX mg)(e:nsIn G.K aX x=Z (Z (.str z t))):zR G mg x (.str z):=
 ⟨.str z,_,iH X Gn e,⟨_,O⟩,λ_=>A2 _⟩
def Yw.cx(y:Yw P w mg base G)(q:GX G.K x s):zR G mg x (.str s):=by let#v[h,X,Gn]:=y.m;let#v[t,e]:=q;show const_str X Gn e
end
section
variable{X:Cx}{B:Bz}{k i:Nat}{e:Expr}{f:FE}{a:FA}{x:Str}{p p2 p3 pos apos:Pos}
def zr_xeI [C:Cz X B k](h:sees X i x=γ)(hb:Az X (.Name x p) "extend")(hl:Ez apos pos)(hs:S1 X e)(ha:ZN X B e a):ZE X B (.Call (.Attribute (.Name x p) "extend" apos) [e] [] pos) (Hg i a):=
 ⟨PR (bmI hb hl hs jg i8 n5 Px (pvI h) (wu ha.p zq hs))⟩
end
def sOf:ae->Str
 |.str x _=>x
 |_=>""
structure SetX(w:aF)(h:Heap)(S:Addr)(ss:aH)(led:Bool)(o:Obj)(es:Array (Int×ae))(ep:Nat)(t:bU):Prop where
 at_:h.get? S=Z o
 ex:o.ExactSet
 d:o.data=.set es ep t
 f:t.fits es.size=γ
 led:t.led=led
 pl:0<ss.length->t.plain=δ
 el:∀e∈es.toList,∃x tk,e=(hashStr w x,Value.str x tk)
 p:(es.toList.map λe=>sOf e.2).Perm ss
def SetX.sz{w:aF}{h:Heap}{S:Addr}{ss:aH}{led:Bool}{o:Obj}{es:Array (Int×ae)}{ep:Nat}{t:bU}(x:SetX w h S ss led o es ep t):es.size=ss.length:=by have:=x.p.length_eq;rw[aq,cM]at this;show this
def lay_led(t:bU)(es:Array (Int×ae))(h:Int)(x:ae):(layNew t es h x).2.1.led=t.led/\(t.plain=δ->(layNew t es h x).2.1.plain=δ):=by
 delta layNew;split
 .rename_i sl wd e;change ((t.put sl).1.orStandIn _).led=_/\(_->((t.put sl).1.orStandIn _).plain=δ);delta SetTable.orStandIn;split
  .show⟨O,id⟩
  .show⟨O,λ_=>O⟩
 .show⟨O,λ_=>O⟩
def relay_led(t:bU)(es:Array (Int×ae))(n:Nat):(relayAll t es n).2.1.led=t.led/\(t.plain=δ->(relayAll t es n).2.1.plain=δ):=by
 delta relayAll;split
 .rename_i t' order e;delta SetTable.relaid SetTable.laid at e;let#v[ow,_,e]:=Option.bind_eq_some_iff.mp e;ext e;dsimp only;split
  .show⟨O,id⟩
  .show⟨O,λ_=>O⟩
 .show⟨O,λ_=>O⟩
section
variable{prog:aO}{w:aF}{A:aP}{E:ae->af->Prop}{s:af}{S:Addr}{o:Obj}{es:Array (Int×ae)}{ep:Nat}{t:bU}{ss:aH}{led:Bool}
def SetX.elems(x:SetX w s.heap S ss led o es ep t):ElemsOf (dO prog w) es.toList:=λe he=>by let#v[z,tk,rfl]:=x.el e he;show⟨⟨z,by simp[dO,gq],O⟩,O⟩
def SetX.mem(x:SetX w s.heap S ss led o es ep t)(z:Str):z∈ss ↔ ∃e∈es.toList,(dO prog w).is z e.2=γ:=by
 rw[<-x.p.mem_iff,ay];constructor
 .rintro⟨e,he,rfl⟩;let#v[y,tk,rfl]:=x.el e he;show⟨_,he,by simp[dO,gq,sOf]⟩
 .rintro⟨e,he,h⟩;let#v[y,tk,rfl]:=x.el e he;show⟨_,he,by simpa [dO,gq,sOf]using h⟩
def SetX.stored(x:SetX w s.heap S ss led o es ep t){es':Array (Int×ae)}{t':bU}{ss':aH}(f:t'.fits es'.size=γ)(l:t'.led=led)(pl:0<ss'.length->t'.plain=δ)(el:∀e∈es'.toList,∃x tk,e=(hashStr w x,Value.str x tk))(p:(es'.toList.map λe=>sOf e.2).Perm ss'):
  SetX w (s.heap.update S (gz es' t')) S ss' led { o with data:=.set es' (ep+1) t' } es' (ep+1) t':=
 ⟨M9 x.at_ x.d,x.ex,O,f,l,pl,el,p⟩
def tail_x{g:Bool->Sem Unit}(hg:∀(b:Bool) (s₁:af) (Q':Unit->af->Prop),Q' Unit.unit s₁->ah (model prog w) A (g b) Q' E s₁)(X:SetX w s.heap S ss led o es ep t)
  {es1:Array (Int×ae)} {t2:bU} {ss':aH} (f:t2.fits es1.size=γ) (l:t2.led=led) (pl:t2.plain=δ) (el:∀e∈es1.toList,∃x tk,e=(hashStr w x,Value.str x tk)) (p:(es1.toList.map λe=>sOf e.2).Perm ss') (hb:es1.size<scanBound)
  {wasDummy:Bool} {R:Option Bool->af->Prop} (h:∀h' o' es' ep' t',dt S s.heap h'->SetX w h' S ss' led o' es' ep' t'->R (Z γ) { s with heap:=h' }):
  ah (model prog w) A (do
    storeSet S es1 t2
    if (!wasDummy&&t2.tooFull)=γ then do
      g (relayAll t2 es1 (eQ es1.size)).2.2
      storeSet S (relayAll t2 es1 (eQ es1.size)).1 (relayAll t2 es1 (eQ es1.size)).2.1
      pure (Z γ)
     else pure (Z γ)) R E s:=by
 calc ag (kG X.at_ X.d ?_ (oF hb));have X1:=X.stored (ss':=ss') f l (λ_=>pl) el p;have hsb1:=c7 s.heap S (gz es1 t2);split
 .have hp:=relayAll_perm t2 es1 (eQ es1.size);have hfr:=relayAll_fits t2 es1 (eQ es1.size);have hl:=relay_led t2 es1 (eQ es1.size);generalize relayAll t2 es1 (eQ es1.size)=Rl at hp hfr hl ⊢;let#v[es2,t3,gave2]:=Rl;dsimp only at hp hfr hl ⊢;have hsz:es2.size=es1.size:=by rw[<-cM,hp.length_eq,cM]
  calc ag (hg _ _ _ ?_);calc ag (kG X1.at_ X1.d ?_ (oF (by rw[hsz];show hb)));show au (h _ _ _ _ _ (hsb1.trans (c7 _ S _)) (SetX.stored (s:={ s with heap:=s.heap.update S (gz es1 t2) }) (ss':=ss') X1 hfr (hl.1.trans l) (λ_=>hl.2 pl) (λe he=>el e (hp.mem_iff.mp he)) ((hp.map _).trans p)))
 .show au (h _ _ _ _ _ hsb1 X1)
def add_x(X:SetX w s.heap S ss led o es ep t)(hb:ss.length+1<scanBound)
  (h1:x∈ss->Q δ s)
  (h2:x∉ss->∀h' o' es' ep' t',dt S s.heap h'->SetX w h' S (ss++[x]) led o' es' ep' t'->Q γ { s with heap:=h' }):ah (model prog w) A (setAddHashed S (.str x tk) (hashStr w x)) Q E s:=by
 have sz:=X.sz;have hkey:(dO prog w).is x (.str x tk)=γ:=by simp[dO,gq]
 delta setAddHashed setAddHashedIn;calc cA (ag (dc X.at_ X.d X.f ?_));dsimp only;rw[byScan_of (knd:=dO prog w) O () X.elems];simp only[↓reduceIte];delta setAddByScan;calc ag ?_;calc ag (fi ?_);calc ag (wpAny_setScan_of (knd:=dO prog w) hkey X.at_ X.d X.f X.elems ?_);cases hr:List.findIdx? (λe=>(dO prog w).is x e.2) es.toList with
 |some j=>dsimp only;let#v[hj,hpj,_]:=List.findIdx?_eq_some_iff_getElem.mp hr;show au (au (h1 ((X.mem (prog:=prog) x).mpr ⟨es.toList[j],fH hj,hpj⟩)))
 |none=>
  dsimp only;have nin:x∉ss:=λhx=>by let#v[e,he,hp]:=(X.mem (prog:=prog) x).mp hx;have:=List.findIdx?_eq_none_iff.mp hr e he;rw[hp]at this;show Bool.noConfusion this
  have hgw:∀(b:Bool) {s₁:af} {Q':Unit->af->Prop},Q' Unit.unit s₁->ah (model prog w) A (match b with|true=>rule "set.scan.the-table-gave-way" |false=>pure Unit.unit) Q' E s₁:=
   λb s₁ Q' hq=>by ext b<;>first|show au hq|show fi hq
  have hperm:=layNew_perm t es (hashStr w x) (.str x tk);have hfits:=layNew_fits t es (hashStr w x) (.str x tk);have hled:=lay_led t es (hashStr w x) (.str x tk);change ah _ _ (match layNew t es (hashStr w x) (.str x tk)with|(es,t,wasDummy,gave)=>_) _ _ _;generalize layNew t es (hashStr w x) (.str x tk)=L at hperm hfits hled ⊢;let#v[es1,t1,wasDummy,gave]:=L;dsimp only at hperm hfits hled ⊢;rw[oA]at hperm;have el1:∀e∈es1.toList,∃x tk,e=(hashStr w x,Value.str x tk):=λe he=>by
   rcases ba.mp (hperm.mem_iff.mp he)with he|he
   .show X.el e he
   .rw[aY]at he;show⟨x,tk,he⟩
  have p1:(es1.toList.map λe=>sOf e.2).Perm (ss++[x]):=by have:=hperm.map λe:Int×ae=>sOf e.2;rw[bK]at this;show this.trans (X.p.append_right _)
  have hb1:es1.size<scanBound:=by rw[<-cM,hperm.length_eq,aM,cM,sz];show hb
  calc ag (hgw _ ?_);have end_:∀(h':Heap) (o':Obj) (es':Array (Int×ae)) (ep':Nat) (t':bU),dt S s.heap h'->SetX w h' S (ss++[x]) led o' es' ep' t'->Q γ { s with heap:=h' }:=h2 nin;split
  .calc ag ?_;rw[hashByValue_scannable 8 O];calc au ?_;change ah _ _ (storeSet S es1 { t1 with plain:=δ }>>=_) _ _ _;refine tail_x ?_ X (SetTable.fits_plain_off hfits) (hled.1.trans X.led) O el1 p1 hb1 ?_
   .intro b s₁ Q' hq;ext b<;>first|show au hq|show fi hq
   .intro h' o' es' ep' t' sb X';dsimp only;show au (end_ h' o' es' ep' t' sb X')
  .rename_i hpl;calc ag (au ?_);simp only[↓reduceIte];refine tail_x ?_ X hfits (hled.1.trans X.led) (by exists hpl) el1 p1 hb1 ?_
   .intro b s₁ Q' hq;ext b<;>first|show au hq|show fi hq
   .intro h' o' es' ep' t' sb X';dsimp only;show au (end_ h' o' es' ep' t' sb X')
end
section
variable{prog:aO}{w:aF}{A:aP}{E:ae->af->Prop}{s:af}{S:Addr}{o:Obj}{es:Array (Int×ae)}{ep:Nat}{t:bU}
theorem iter_X(x:SetX w s.heap S ss (!w.params.followText "set-order") o es ep t)(hl:ss.length<64)
  (hQ:∀(h':Heap) (I TP:Addr) (ord:List ae) (d:Drawn),~~~s<=I->I<h'.objs.size->TP≠I->(TP=S\/ ~~~s<=TP)->(∀b o,s.heap.get? b=Z o->h'.get? b=Z o)->ItS w I S TP ord o es ep t 0 h'->ord.Perm (es.toList.map bS)->Q (.ref I) { s with heap:=h',drawn:=d }):
  ah (model prog w) A (pyIter (.ref S)) Q E s:=by
 have hf:=x.f;have ty:s.TypeIs (.ref S) "set" := ⟨o,x.at_,x.ex.1⟩;have hlt:=aK x.at_;calc oE ty pd (d7 pd ty KO ?_ (F.args_set_iter_1 _));delta cU.«frozenset.__iter__»;calc ag (m:=rS _ _) (au ?_);calc ag ?_;delta rQ setEntries;calc ag (ag (dc x.at_ x.d hf (au ?_)));calc au ?_;calc ag ?_;delta setDrawn;calc ag (dc x.at_ x.d hf ?_);dsimp only;calc ag (E9 ?_);calc au ?_;have plain0:(w.params.followText "set-order" = γ\/(w.params.followText "set-order" = δ/\es.size<=1))->ah (model prog w) A.in1 (do
   let first<-pure (rawInt 0)
   let e<-setEpoch S;let r<-newFields "set_iterator" [first,rawInt 0,Value.ref S,rawInt ↑es.size,rawInt ↑e]
   ret r) (λfin s'=>∃v,fin=Fin.done (Flow.ret v)/\∃T' r,s'.TypeIs v T'/\typeLookup (Value.type T') (gr "__next__")=pure (Z r)/\Q v s') E s:=λc=>by
  calc ag (au ?_);calc ag (oG x.at_ x.d hf ?_);calc ag (eL ?_);have kk:∀(o':Obj) (b:Addr) (o:Obj),s.heap.get? b=Z o->(s.heap.push o').get? b=Z o:=λo' b o e=>aC _ e;have it:∀ord,Md w (s.heap.push { cls:=.type "set_iterator", data:=.fields [rawInt 0,rawInt 0,Value.ref S,rawInt ↑es.size,rawInt ↑ep].toArray }) S S 0 ord es ep t (.int 0 0)->ord.Perm (es.toList.map bS)->_:=λord m p=>au (M:=model prog w) (A:=A.in1) (E:=E) (Q:=λfin s'=>∃v,fin=Fin.done (Flow.ret v)/\∃T' r,s'.TypeIs v T'/\typeLookup (Value.type T') (gr "__next__")=pure (Z r)/\Q v s') ⟨.ref (~~~s),O,"set_iterator", _,⟨_,bq _ O,O⟩,xR.lookup,hQ _ (~~~s) S ord s.drawn (aS _) (by rw[b9];show dq _) (aV hlt) (.inl O) (kk _) ⟨⟨_,.int 0 0,bq _ O,O,O,m⟩,kk _ _ _ x.at_,x.d,hf⟩ p⟩;rcases c with c|⟨c1,c2⟩
  .show it _ (.txt c O) ((JG _ es).map _)
  .show it _ (.one c1 c2 (by rw[x.led,c1];rfl) (λ_=>O) (λj e=>by ext e) O) (.refl _)
 cases c:w.params.followText "set-order" with
 |true=>rw[ak (by simp)];show plain0 (.inl c)
 |false=>
  by_cases h1:es.size<=1
  .rw[ak λhh=>by
    have:(!δ&&(!t.plain&&decide (es.size > 1)))=γ:=hh;simp at this;omega]
   show plain0 (.inr ⟨c,h1⟩)
  .have pl:t.plain=δ:=x.pl (by have:=x.sz;omega);rw[ao (by change (!δ&&(!t.plain&&decide (es.size > 1)))=γ;rw[pl];simp;omega)];calc ag (OG es.size _ s cN λys d p=>?_);refine ag (kZ ?_ (by
    rw[aq,p.length_eq,cN,x.sz,bR];omega))
   calc ag (oG (aC _ x.at_) x.d hf ?_);calc ag (eL ?_);have kk:∀(o1 o2:Obj) (b:Addr) (o:Obj),s.heap.get? b=Z o->((s.heap.push o1).push o2).get? b=Z o:=λo1 o2 b o e=>aC _ (aC _ e);have ord:(ys.filterMap λp=>es[p]?.map bS).Perm (es.toList.map bS):=by calc(p.filterMap _).trans ?_;rw[show (bu es.size).filterMap (λp=>es[p]?.map bS)=((bu es.size).filterMap λp=>es[p]?).map bS from(n6 ..).symm,mY]
   refine au ⟨_,O,"set_iterator", _,⟨_,bq _ O,O⟩,xR.lookup,hQ _ _ (~~~s) _ d ?_ ?_ ?_ (.inr (aS _)) (kk _ _) ⟨⟨_,.ref (~~~s),bq _ O,O,O,.drw c (aC _ (bq _ O)) O O O p O⟩,kk _ _ _ _ x.at_,x.d,hf⟩ ord⟩
   .rw[b9];show iB _
   .show Nat.lt_of_lt_of_eq (dq _) (b9 _ _).symm
   .rw[b9];show aV (dq _)
end
section
variable{prog:aO}{w:aF}{A:aP}{E:ae->af->Prop}{s:af}{S:Addr}{o:Obj}{es:Array (Int×ae)}{ep:Nat}{t:bU}{ss:aH}
def SetX.kept{h h':Heap}{led:Bool}(x:SetX w h S ss led o es ep t)(k:∀o,h.get? S=Z o->h'.get? S=Z o):SetX w h' S ss led o es ep t:={ x with at_:=k _ x.at_ }
theorem collect_X(hh:A.handled=J)(x:SetX w s.heap S ss (!w.params.followText "set-order") o es ep t)(hl:ss.length<64)
  (hQ:∀h2 k2 d2 acc,~~~s<=h2.objs.size->(∀b o,s.heap.get? b=Z o->h2.get? b=Z o)->acc.Perm (es.toList.map bS)->Q acc { s with heap:=h2,toks:=k2,drawn:=d2 }):ah (model prog w) A (collect (.ref S)) Q E s:=by
 have hlt:=aK x.at_;have n9:es.size<=63:=by have:=x.sz;omega
 let lO:Obj:={ cls:=.type "list", data:=.seq ([]:List ae).toArray };delta collect;calc ag (pj (gm F.entry_proto_collect ?_));rw[hZ F.plain_proto_collect _];change ah _ A.in1 (newList []>>=λl=>again (.builtin "list.__iadd__" ⟨[l,.ref S],[]⟩)) _ _ s;calc ag (eL ?_);calc au ⟨eA oH _,gm F.entry_list_iadd ?_⟩;rw[hZ oH _];change ah _ A.in1 (mM (.ref (~~~s)) (.ref S) (.ref (~~~s))) _ _ _;have ez:(s.heap.push lO).objs.size= ~~~s+1:=b9 _ _;have x1:SetX w (s.heap.push lO) S ss (!w.params.followText "set-order") o es ep t:=x.kept λo e=>aC _ e;have T1:lp { s with heap:=s.heap.push lO } (.ref S) "set" := ⟨o,x1.at_,x.ex.1⟩;delta mM;calc ag (lQ T1 ?_);rw[ak (by
  have:mZ (.ref (~~~s)) (.ref S)=δ:=by simp[mZ];show λe=>ar e (dQ hlt)
  rw[this];decide)]
 calc ag (iter_X (s:={ s with heap:=s.heap.push lO }) x1 hl λh3 I TP ord d3 hI1 hI2 hTI hTP kk it po=>?_);have hI: ~~~s+1<=I:=by rw[<-ez];show hI1
 have L3:h3.get? (~~~s)=Z lO:=kk _ _ (bq _ O);have T3:lp { s with heap:=h3,drawn:=d3 } (.ref S) "set" := ⟨o,it.at_,x.ex.1⟩;have K3:∀b o,s.heap.get? b=Z o->h3.get? b=Z o:=λb o e=>kk b o (aC _ e);change ah _ A.in1 (holding [.ref I] (mO (.ref S))>>=_) _ _ { s with heap:=h3,drawn:=d3 };calc ag (cA ?_);delta mO;calc ag (iq T3 F.slot_set_len.lookup ?_);generalize hid:("set.__len__" : String)=id0;wp_delta;rw[show splitId id0=Z ("set", "__len__") from by subst hid;decide +kernel];subst hid;calc ag (kK T3 sub_set_self ?_);dsimp only;rw[ak #[],ao (by decide +kernel)];calc ag (lQ T3 ?_);calc au ?_;rw[ao (by decide +kernel)];calc ag (fi ?_);calc ag ?_;change ah _ A.in1 (updateSeq (~~~s) (·.push .none)>>=λ_=>updateSeq (~~~s) (·.pop)) _ _ _
 calc ag (kT L3 O ?_);have S2:=eG (dA (·.push Value.none)) L3 O
 calc kT S2 O ?_;have S3:=eG (dA (·.pop)) S2 O
 have oth:∀b o,b≠~~~s->h3.get? b=Z o->((h3.update (~~~s) (dA (·.push Value.none))).update (~~~s) (dA (·.pop))).get? b=Z o:=
  λb o hb e=>(hU _ _ (dD hb)).trans ((hU _ _ (dD hb)).trans e)
 have hSI:S≠I:=aV (bY hlt (oI hI));have hSf: ~~~s∉[I,S,TP]:=by
  intro z;rcases aQ.mp z with z|z
  .show ar z (aV hI)
  .rcases aQ.mp z with z|z
   .show ar z (dQ hlt)
   .rw[aY]at z;rcases hTP with e|e
    .show ar (z.trans e) (dQ hlt)
    .rw[<-z,ez]at e;show ar e (Nat.not_succ_le_self _)
 have W:=aao (prog:=prog) (w:=w) (A:=A.in1) (I:=I) (S:=S) (TP:=TP) (ord:=ord) (o:=o) (es:=es) (ep:=ep) (t:=t) (by simp[hh]) hSI hTI;have ol:ord.length<=63:=by rw[po.length_eq,aq,cM];show n9
 refine au ⟨eA F.plain_extend_loop _,codeAny_extend_loopS W.toS (by rw[bR];omega) _ hSf _ ord.length 0 _ _ _ O (cc _)
  (W.frame 0 h3 _ ⟨it,cc _⟩ λb hb o e=>oth b o (λz=>hSf (by rw[<-z];show hb)) e) S3 (ItemsOf.nil _) λs' acc' c' hm hS' hacc=>?_⟩
 change ah _ A (load (~~~s)>>=_) _ _ s';calc ag (wpAny_load hS' ?_);have ea:acc'.toList=ord:=by
  apply kC;intro j;cases e:acc'.toList[j]? with
  |none=>rw[List.getElem?_eq_none_iff,cM,hacc.1]at e;show(gf e).symm
  |some v=>rw[j8]at e;show(hacc.2 j v e).symm
 let#v[h2,g2,d2,k2,o2]:=s';have eg:g2=s.gens:=hm.gens;have eo:o2=s.os:=hm.os;subst eg eo;calc au (hQ h2 k2 d2 acc'.toList (gu (aK hS')) (λb o e=>?_) (by rw[ea];show po));have hb:=aK e;show hm.heap b o (λz=>by
  rcases aQ.mp z with z|z
  .show ar z (aV hb)
  .show ar (aY.mp z) (aV (bY hb (oI hI)))) (oth b o (aV hb) (K3 b o e))
def set_loopX(W:jE prog w A.in1 I fp wr GG n PP SS)(hSf:S∉fp)(ks:aH)(hn:ks.length=n)(h64:n<64)
  (hval:∀i v,PP i v->∃x tk,ks[i]?=Z x/\v=.str x tk):∀(k i:Nat) (s:af) (o:Obj) (es:Array (Int×ae)) (ep:Nat) (t:bU),n - i=k->i<=n->SS i s->SetX w s.heap S (uqK (ks.take i)) led o es ep t->
   (∀s' o es ep t,gM (S::wr) GG s s'->SetX w s'.heap S (uqK ks) led o es ep t->R (.ok (.ret .none)) s')->
   cf (model prog w) A (.builtin "set.update.loop" ⟨[.ref S,.ref I],[]⟩) R s:=by
 have hSw:S∉wr:=λz=>hSf ((W).sub _ z);have up:∀b∈wr,b∈S::wr:=λb z=>aU _ z;intro k
 induction k with
 |zero=>
  intro i s o es ep t hk hi hst x hR;obtain rfl:i=n:=by omega
  sleep 10
  change ah _ A.in1 (pyNext (.ref I)>>=_) _ _ s;calc ag (W.done s _ _ hst λs' hm=>?_);change ah _ A.in1 (ret Value.none) _ _ s';rw[m9 ()]at x;show au (hR s' o es ep t (hm.mono up) { x with at_:=hm.heap S _ hSw x.at_ })
 |succ k ih=>
  intro i s o es ep t hk hi hst x hR;have hlt:i<n:=by omega
  sleep 10
  change ah _ A.in1 (pyNext (.ref I)>>=_) _ _ s;calc ag (W.item i s _ _ hlt hst λv s' hP hst' hm=>?_);let#v[q,tk,eq,rfl]:=hval i v hP;change ah _ A.in1 (holding _ (setAdd S _)>>=_) _ _ s';calc ag (cA ?_);delta setAdd;calc cA ?_;calc ag (oJ ?_);have split:uqK (ks.take (i+1))=if q∈uqK (ks.take i)then uqK (ks.take i)else uqK (ks.take i)++[q]:=by delta uqK;rw[om,eq,oo];rfl
  have x':SetX w s'.heap S (uqK (ks.take i)) led o es ep t:={ x with at_:=hm.heap S _ hSw x.at_ };have ul:(uqK (ks.take i)).length<=i:=by have h1:=OE (Nw (ks.take i)) λz hz=>KQ.mp hz;rw[cO]at h1;omega
  refine add_x (s:={ s' with toks:=s'.toks+1 }) x' (by delta scanBound;omega) (λinn=>?_) λnin h' o' es' ep' t' b1 y=>?_
  .have e:uqK (ks.take (i+1))=uqK (ks.take i):=by rw[split,ao inn]
   calc au ⟨eA eF _,ih (i+1) _ o es ep t () hlt (W.frame _ s' s'.heap _ hst' (de _ _) λb z o e=>e) (by rw[e];show x') λs'' o2 es2 ep2 t2 hm'' x2=>?_⟩;show hR s'' o2 es2 ep2 t2 (gx W.gtrans ((hm.mono up).then_heap (de _ _) λb o z e=>e) hm'') x2
  have e:uqK (ks.take (i+1))=uqK (ks.take i)++[q]:=by rw[split,ak nin]
  refine au ⟨eA eF _,ih (i+1) _ _ _ _ _ () hlt (W.frame _ s' h' _ hst' (de _ _) λb z o e=>?_) (by rw[e];show y) λs'' o2 es2 ep2 t2 hm'' x2=>?_⟩
  .rw[b1.2 b (λy:b=S=>hSf (by rw[<-y];show z))];show e
  .calc hR s'' o2 es2 ep2 t2 (gx W.gtrans ((hm.mono up).then_heap (de _ _) λb o z e=>?_) hm'') x2;rw[b1.2 b (λy:b=S=>z (by rw[y];show aR))];show e
def set_X{ks:aH}(I:Inv X pins σ H s)(hh:A.handled=J)(hq:SqL X.K H a (ks.map V.str))(h64:ks.length<64)
  (h:∀h2 k2 o es ep t,SetX X.w h2 (~~~s) (uqK ks) (!X.w.params.followText "set-order") o es ep t->(∀b o,b< ~~~s->s.heap.get? b=Z o->h2.get? b=Z o)->Q (.ref (~~~s)) { s with heap:=h2,toks:=k2 }):
  ah (model X.prog X.w) A (call (.type "set") [.ref a]) Q E s:=by
 have h3:A.in1.in1.in1.handled=J:=by simp[hh]
 let#v[its,r,pp,_]:=I.list hq;let#v[o,ho,hc,n,hd]:=pp.isList;have hlt:=aK ho;have hne:a≠~~~s+1:=aV (dj hlt);have li:ks.length=its.length:=by have:=r.length;rw[aq]at this;show this
 refine BY (PS:=λh2=>∃o es ep t,SetX X.w h2 (~~~s) (uqK ks) (!X.w.params.followText "set-order") o es ep t) ho hc jq iZ #[] (itO:={ cls:=.type "list_iterator", data:=.fields #[.ref a,.int 0 0] })
  (λA Q E s1 e k=>eK ⟨o,e,hc,n,hd⟩ k) (λtk' R hR=>?_) λh2 k2 ⟨o,es,ep,t,x'⟩ kk=>h h2 k2 o es ep t x' kk
 have ke:∀{b:Addr} {o':Obj},s.heap.get? b=Z o'->((s.heap.push (zu (!X.w.params.followText "set-order"))).push { cls:=.type "list_iterator", data:=.fields #[.ref a,.int 0 0] }).get? b=Z o':=λe=>aC _ (aC _ e);have it:((s.heap.push (zu (!X.w.params.followText "set-order"))).push { cls:=.type "list_iterator", data:=.fields #[.ref a,.int 0 0] }).get? (~~~s+1)=Z { cls:=.type "list_iterator", data:=.fields #[.ref a,.int 0 0] }:=by rw[show ~~~s+1=(s.heap.push (zu (!X.w.params.followText "set-order"))).objs.size from(b9 _ _).symm];show bq _ O
 have W:=(gy (prog:=X.prog) (w:=X.w) (A:=A.in1.in1.in1) h3 (~~~s+1) a hne its.toArray).toS;have notin: ~~~s∉[~~~s+1,a]:=by
  intro z;rcases aQ.mp z with z|z
  .show ar z (aV (dq _))
  .show ar (aY.mp z) (dQ hlt)
 refine set_loopX (S:= ~~~s) (led:=!X.w.params.followText "set-order") W notin ks (by rw[bB,li]) (by rw[bB,<- li];show h64) ?_ (its.toArray.size - 0) 0 _ (zu (!X.w.params.followText "set-order")) [].toArray 0 (.fresh 0 0 (!X.w.params.followText "set-order")) O (cc _) ⟨⟨_,it,O,O⟩,⟨o,ke ho,hc,n,hd⟩⟩ ⟨aC _ (bq _ O),⟨O,O,O⟩,O,O,O,λz=>ar z (dN 0),λe he=>(by ext he),.nil⟩ λs2 o2 es2 ep2 t2 mv S2=>?_
 .intro i v e;rw[j9]at e;have hi:i<ks.length:=by rw[li];show(ck.mp e).1
  let#v[u,e2,tk,ru]:=r.get (i:=i) (x:=V.str ks[i]) (by rw[bC,bg hi];rfl);rw[e]at e2;ext e2;show⟨ks[i],tk,bg hi,ru⟩
 .let#v[h2,g2,d2,k2,o2']:=s2;have eg:g2=s.gens:=mv.gens;have ed:d2=s.drawn:=mv.drawn;have eo:o2'=s.os:=mv.os;subst eg ed eo;calc hR h2 k2 ⟨o2,es2,ep2,t2,S2⟩ λb o hb e=>mv.heap b o (λz=>?_) (ke e);rcases aQ.mp z with z|z
  .show ar z (aV hb)
  .show ar (aY.mp z) (aV (dj hb))
end
section
variable{prog:aO}{w:aF}{A:aP}{E:ae->af->Prop}{s:af}
theorem strs_map:∀(l:List ae),(∀v∈l,∃x tk,v=.str x tk)->km l (l.map sOf)
 |[],_=>.nil
 |v::l,h=>by let#v[x,tk,rfl]:=h v aR;show .cons x tk (strs_map l λu hu=>h u (aU _ hu))
def sort_strs(sa:km vs ss)(h64:vs.length<64)(ho:s.heap.get? l=Z (seqObj "list" vs.toArray n))
  (h:∀h' e out,CG l s.heap h'->Vals ((B4 ss).map V.str) out->h'.get? l=Z (seqObj "list" out.toArray e)->P (.done (.ret .none)) { s with heap:=h' }):
  ah (model prog w) A (cU.«list.sort» ⟨[.ref l],[]⟩) P E s:=by
 calc list_sort_treeK strKind_oneLt ho sa.keysOf (λv₁ v₂ rest e=>keyKind_strs (by rw[<-e];show sa)) h64 λst' a1 a2=>?_;let#v[ss',b1,b2,b3]:=sorted_out_str sa a1 a2;let#v[e,he]:=sortedHeap_at (vs:=vs) (out:=(arrOf st').map (·.2)) ho
 refine h _ e ((arrOf st').map (·.2)).toList (λb o hb z=>by rw[sortedHeap_old hb (aK z)];show z) ?_ (by rw[Array.toArray_toList];show he)
 rw[<-Np b2 b3];show WK b1
def sorted_X(hh:A.handled=J)(X:SetX w s.heap S ss (!w.params.followText "set-order") o es ep t)(hl:ss.length<64)
  (hQ:∀(p:Addr) (h2:Heap) (k2:Nat) (d2:Drawn) (e:Nat) (out:List ae),~~~s<=p->(∀b o,s.heap.get? b=Z o->h2.get? b=Z o)->Vals ((B4 ss).map V.str) out->h2.get? p=Z (seqObj "list" out.toArray e)->Q (.ref p) { s with heap:=h2,toks:=k2,drawn:=d2 }):
  ah (model prog w) A (call (.builtin "sorted") [.ref S]) Q E s:=by
 calc mU kind_sorted plain_sorted entry_sorted (args_sorted1 _) ?_;delta cU.«sorted»;calc ag (m:=checkCount "sorted" 1 1 _) (au ?_);calc ag (collect_X (by simp[hh]) X hl λg k2 d2 acc hz kk pa=>?_);have al:acc.length<64:=by rw[pa.length_eq,aq,cM,X.sz];show hl
 have sa:=strs_map acc λv hv=>by let#v[e,he,rfl]:=ay.mp (pa.mem_iff.mp hv);let#v[x,tk,rfl]:=X.el e he;show⟨x,tk,O⟩
 have es:B4 (acc.map sOf)=B4 ss:=by
  have p1:(acc.map sOf).Perm ss:=by have:=pa.map sOf;rw[br]at this;show this.trans X.p
  show j4 (λa b _ _=>HE a b) (iW HD GH _) (iW HD GH ss) ((ic _ leS).trans (p1.trans (ic ss leS).symm))
 calc ag (lu ?_ (by rw[bR];omega));have on:(g.push (seqObj "list" acc.toArray 0)).get? g.objs.size=Z (seqObj "list" acc.toArray 0):=bq _ O;change ah _ _ _ _ _ { s with heap:=g.push (seqObj "list" acc.toArray 0),toks:=k2,drawn:=d2 };calc ag (cA (d7 pz ⟨_,on,O⟩ o8 ?_ (pA _)));calc sort_strs (s:={ s with heap:=g.push (seqObj "list" acc.toArray 0),toks:=k2,drawn:=d2 }) sa al on λh' e out kb vo he=>?_;rw[es]at vo;show⟨_,O,au ⟨_,O,hQ g.objs.size h' k2 d2 e out hz (λb o z=>kb b o (aV (aK (kk b o z))) (aC _ (kk b o z))) vo he⟩⟩
end
section
variable{X:Cx}{G:Bg}
def tSortX(K:av)(te:TE):TE:=λσ H Q=>te σ H λx H1=>∃(a:Addr) (ks:aH),x=.ref a/\SqL K H1 a (ks.map V.str)/\ks.length<64/\∀(p:Addr),H1 p=J->Q (.ref p) (upd H1 p (.lst ((B4 (uqK ks)).map V.str)))
def pe_sortX{p2 p3:Pos}(hc:X.calm=γ)(g1:Gl X "sorted")(m1:X.mg "sorted" = J)(g2:Gl X "set")(m2:X.mg "set" = J)(he:PE X e te)
  (z1:aG [Expr.Call (.Name "set" p2) [e] [] p3] X.env=[(δ,eval (.Call (.Name "set" p2) [e] [] p3) X.env)]:=by rfl) (z2:aG [e] X.env=[(δ,eval e X.env)]:=by rfl):PE X (.Call (.Name "sorted" p1) [.Call (.Name "set" p2) [e] [] p3] [] p4) (tSortX X.K te):=by
 sleep 11
 calc dG (AX I g1 m1 boot_sorted ?_ #[] #[]);calc callWith_builtin1 ?_ z1 O;rw[z1];change ah _ _ (spliced [(δ,eval (.Call (.Name "set" p2) [e] [] p3) X.env)]) _ _ s;calc dZ ?_;calc dG (AX I g2 m2 qd ?_ #[] #[]);refine callWith_type1 (thn (wu he zq z2 p3 pins s σ H (λvs H1=>match vs with
  |[x]=>∃(a:Addr) (ks:aH),x=.ref a/\SqL X.K H1 a (ks.map V.str)/\ks.length<64/\∀(p:Addr),H1 p=J->Q (.ref p) (upd H1 p (.lst ((B4 (uqK ks)).map V.str)))
  |_=>False) I h) λus s1 hh=>?_) z2 O
 let#v[vs,H1,I1,r1,q1]:=hh
 match vs,r1,q1 with
 |[x],r1,q1=>
 let#v[a,ks,e1,hq,h64,q]:=q1;subst e1;let#v[u,rfl,ru]:=vals1 r1;ext ru;have ul:(uqK ks).length<64:=ja (OE (Nw ks) λz hz=>KQ.mp hz) h64;calc set_X I1 (I1.ok.hd hc) hq h64 λh2 k2 o es ep t x kk=>?_;calc fD ?_;have I2:Inv X pins σ H1 { s1 with heap:=h2,toks:=k2 }:=I1.kept λb o e=>kk b o (aK e) e;calc sorted_X (s:={ s1 with heap:=h2,toks:=k2 }) (I1.ok.hd hc) x ul λp h3 k3 d3 e out hp k4 vo hg=>?_;have I3:=I2.laid (t':=k3) (o:=.lst ((B4 (uqK ks)).map V.str)) k4 hp ⟨by
  rw[aq,bR,show (B4 (uqK ks)).length=_ from(ic _ leS).length_eq];omega,out,e,vo,hg⟩
 show⟨.ref p,_,Inv.drw I3 d3,O,q p (I2.hok.fresh hp)⟩
def cSortX(f:FE):FA:=λρ=>match f ρ with
 |some (.lst ds,ρ')=>match FJ ds with
  |some ss=>if ss.length<64 then Z ((B4 (uqK ss)).map D.str,ρ')else J
  |none=>J
 |_=>J
def pfn_sortX(h:PE X e (tSortX G.K (tF G f))):PE X e (tFN G (cSortX f)):=PE.weak h λσ H Q hh=>by
 let#v[F,ρ,H0,es,ρ',R,e,k]:=hh;delta cSortX at e;split at e
 .rename_i ds ρ1 e1;cases e2:FJ ds with
  |none=>erw[e2]at e;cases e
  |some ss=>
   erw[e2]at e;split at e
   .rename_i h64
    sleep 6
    let#v[a,xs,rfl,h1,h2]:=r;have hx:=Hz h2 e2;subst hx;show⟨a,ss,O,SqL.of (R'.sub _ _ h1),h64,λp hp=>k p _ _ _ s (R'.newOwn hp _) tU (R'.h0none hp) (R'.bNone hp) (R'.apart hp) (HF _)⟩
   .ext e
 .ext e
end
section
variable{X:Cx}{B:Bz}{k:Nat}{e:Expr}{f:FE}{p p2 p3 pos:Pos}
def zr_wxI [C:Cz X B k][N:Nb B "sorted"][N':Nb B "set"](hs:S1 X e)(hg:Gz X "sorted")(hg':Gz X "set")(ha:ZE X B e f)(z:aG [Expr.Call (.Name "set" p2) [e] [] p3] X.env=[(δ,eval (.Call (.Name "set" p2) [e] [] p3) X.env)]):ZN X B (.Call (.Name "sorted" p) [.Call (.Name "set" p2) [e] [] p3] [] pos) (cSortX f):=⟨pfn_sortX (by rw[<-C.K];show pe_sortX C.c hg (C.mg▸N.p) hg' (C.mg▸N'.p) ha.p z hs)⟩
end
end L4
namespace L4
open PySem PySem.Spec PyProof.Rows L2 L3
section
variable{B:Bz}[Y:Yb B]{x m qual:Str}{st s0:Stmt}{l:List Stmt}{k c c0 np n:Nat}{b:FS}{p:Str}{ps xs:aH}{N:aH}
omit Y in
end
def dV(g:bw->Option (Option D)):bw->Option D:=λds=>match g ds with
 |some (Z d)=>Z d
 |_=>J
mutual
def noFz:D->Bool
 |.fzl _=>δ
 |.tup ds=>noFzs ds
 |.lst ds=>noFzs ds
 |.obj _ _ ds=>noFzs ds
 |.dic _ ds=>noFzs ds
 |_=>γ
def noFzs:bw->Bool
 |[]=>γ
 |d::ds=>noFz d&&noFzs ds
end
mutual
theorem Rep.butL{G:Bg}{H H1:Hp}(e:∀b o,H b=Z o->(∀u xs,o≠HO.frz u (.lst xs))->H1 b=Z o):∀(d:D) (v:V),noFz d=γ->Rep G H d v->Rep G H1 d v
 |.non,v,_,h=>by delta Rep at h ⊢;show h
 |.bl b,v,_,h=>by delta Rep at h ⊢;show h
 |.int i,v,_,h=>by delta Rep at h ⊢;show h
 |.str x,v,_,h=>by delta Rep at h ⊢;show h
 |.tup ds,v,n,h=>by
  delta Rep at h ⊢;delta noFz at n;let#v[a,xs,rfl,h1,h2]:=h;calc⟨a,xs,O,?_,Reps.butL e ds xs n h2⟩;rcases h1 with (h|⟨o,h⟩)|h
  .show .inl (.inl (e _ _ h λ_ _ z=>nomatch z))
  .show .inl (.inr ⟨o,e _ _ h λ_ _ z=>nomatch z⟩)
  .show .inr h
 |.lst ds,v,n,h=>by delta Rep at h ⊢;delta noFz at n;let#v[a,xs,rfl,h1,h2]:=h;show⟨a,xs,O,e _ _ h1 (λ_ _ z=>nomatch z),Reps.butL e ds xs n h2⟩
 |.fzl ds,v,n,h=>by delta noFz at n;cases n
 |.obj c ns ds,v,n,h=>by delta Rep at h ⊢;delta noFz at n;let#v[a,dx,ys,rfl,h1,h2,h3]:=h;show⟨a,dx,ys,O,e _ _ h1 (λ_ _ z=>nomatch z),h2,Reps.butL e ds ys n h3⟩
 |.dic ks ds,v,n,h=>by delta Rep at h ⊢;delta noFz at n;let#v[a,o,xs,rfl,h1,h2,h3]:=h;show⟨a,o,xs,O,e _ _ h1 (λ_ _ z=>nomatch z),h2,Reps.butL e ds xs n h3⟩
theorem Reps.butL{G:Bg}{H H1:Hp}(e:∀b o,H b=Z o->(∀u xs,o≠HO.frz u (.lst xs))->H1 b=Z o):∀(ds:bw) (xs:bN),noFzs ds=γ->Reps G H ds xs->Reps G H1 ds xs
 |[],xs,_,h=>by delta Reps at h ⊢;show h
 |d::ds,xs,n,h=>by delta Reps at h ⊢;delta noFzs at n;rw[aW]at n;let#v[v,r,rfl,h1,h2]:=h;show⟨v,r,O,Rep.butL e d v n.1 h1,Reps.butL e ds r n.2 h2⟩
end
section
variable{G:Bg}
def dShrI:=dI (λ_ b=>decide (0<=b)) λa b=>.int (a / 2 ^ b.toNat)
def dAndI:=dI (λ_ _=>γ) λa b=>.int (iu a b)
def od_shr:OpD G (rI (λ_ j=>0<=j) λi j=>.int (i / 2 ^ j.toNat)) dShrI:=LL (λa b h=>by exists h) λ_ _=>⟨O,O⟩
def od_and:OpD G (rI0 λi j=>.int (iu i j)) dAndI:=Du λ_ _=>⟨O,O⟩
end
instance in104:OpC .RShift dShrI:=⟨λ_ _=>⟨_,XG,od_shr⟩⟩
instance in105:OpC .BitAnd dAndI:=⟨λ_ _=>⟨_,XH,od_and⟩⟩
section
variable{prog:aO}{w:aF}{A:aP}{R:fY->af->Prop}{I:Addr}{fp wr:List Addr}{GG:Array fW->Array fW->Prop}{PP:Nat->ae->Prop}{SS:Nat->af->Prop}
def set_loop1(W:jE prog w A.in1 I fp wr GG 1 PP SS){S a1:Addr}{k1:List Key}{o:Obj}{ep:Nat}{led:Bool}{s:af}(hSf:S∉fp)(n1:a1∉S::wr)(p1:∀v,PP 0 v->v=.ref a1)(hu:A.in1.units<cLine)
  (hst:SS 0 s) (t1:TK prog w s.heap k1 a1) (ho:s.heap.get? S=Z o) (hx:o.ExactSet) (hd:o.data=.set [].toArray ep (.fresh 0 0 led)) (hR:∀s',gM (S::wr) GG s s'->VC s'.heap S 1->R (.ok (.ret .none)) s'):
   cf (model prog w) A (.builtin "set.update.loop" ⟨[.ref S,.ref I],[]⟩) R s:=by
 have hSw:S∉wr:=λz=>hSf ((W).sub _ z);have up:∀b∈wr,b∈S::wr:=λb z=>aU _ z
 sleep 3
 have u1:TK prog w s1.heap k1 a1:=t1.kept λo=>m1.heap a1 o λz=>n1 (up _ z);calc ag (kB hu u1 ?_);calc Jz (m1.heap S _ hSw ho) hd u1 λh' j pl hb hg=>?_;calc au ⟨eA eF _,?_⟩;have st1':=W.frame (0+1) s1 h' _ st1 (de _ (k1.length+1)) λb z o e=>by rw[hb.2 b (λy:b=S=>hSf (by rw[<-y];show z))];show e
 have m1':gM (S::wr) GG s { s1 with heap:=h',toks:=s1.toks+(k1.length+1) }:=(m1.mono up).then_heap (de _ _) λb o z e=>by rw[hb.2 b (λy:b=S=>z (by rw[y];show aR))];show e
 sleep 10
 change ah _ A.in1 (pyNext (.ref I)>>=_) _ _ _;calc ag (W.done _ _ _ st1' λs3 m3=>?_);change ah _ A.in1 (ret Value.none) _ _ s3;calc au (hR s3 (gx W.gtrans m1' (m3.mono up)) ?_);show⟨_,_,_,_,m3.heap S _ hSw hg,hx,O,(show 1<scanBound by decide),O,O⟩
end
section
variable{X:Cx}{G:Bg}{H:Hp}{pins:cJ}{σ:St}{s:af}
def SrcS1(K:av)(H:Hp)(a:Addr)(n:Nat):Prop:=YL K H a n\/∃(p:Addr) (k1:List Key),SqL K H a [.ref p]/\SqT K H p (k1.map kV)/\n=1
def set_V1:VG X (SrcS1):=by
 intro pins σ H s A E Q a n I hh hu hq h;rcases hq with hq|⟨p,k1,hq,h1,rfl⟩
 .show abY I hh hu hq h
 have h3:A.in1.in1.in1.handled=J:=by simp[hh]
 sleep 5
 let#v[u,rfl,ru]:∃u,its=[u]/\RelV (.ref p) u:=by cases r with|cons c1 r=>ext r;show⟨_,O,c1⟩
 ext ru;have t1:=Sf I h1;have far:∀{b:Addr} {ks:List Key},TK X.prog X.w s.heap ks b->b∉~~~s::[~~~s+1]:=λ{b ks} t z=>by
  let#v[o,_,_,e,_]:=t;have:=aK e;rcases aQ.mp z with z|z
  .show ar z (aV this)
  .show ar (aY.mp z) (aV (dj this))
 have notin: ~~~s∉[~~~s+1,a]:=by
  intro z;rcases aQ.mp z with z|z
  .show ar z (aV (dq _))
  .show ar (aY.mp z) (dQ (aK ho))
 refine BY ho hc jq iZ #[] (itO:={ cls:=.type "list_iterator", data:=.fields #[.ref a,.int 0 0] })
  (λA Q E s1 e k=>eK ⟨o,e,hc,n,hd⟩ k) (λtk R hR=>?_) h
 have ke:∀{b:Addr} {o':Obj},s.heap.get? b=Z o'->((s.heap.push (zu (!X.w.params.followText "set-order"))).push { cls:=.type "list_iterator", data:=.fields #[.ref a,.int 0 0] }).get? b=Z o':=λe=>aC _ (aC _ e);refine set_loop1 (gy h3 _ a hne #[.ref p]).toS notin (far t1) (λv e=>(cy e).symm) (by change A.units+1+1+1<cLine;omega) ⟨⟨_,it O,O,O⟩,⟨o,ke ho,hc,n,hd⟩⟩ (t1.kept λo=>ke)
  (aC _ (bq _ O)) ⟨O,O,O⟩ O λs2 mv S2=>?_
 let#v[h2,g2,d2,k2,o2]:=s2;have eg:g2=s.gens:=mv.gens;have ed:d2=s.drawn:=mv.drawn;have eo:o2=s.os:=mv.os;subst eg ed eo;show hR h2 k2 S2 λb o hb e=>mv.heap b o (λz=>by
  rcases aQ.mp z with z|z
  .show ar z (aV hb)
  .show ar (aY.mp z) (aV (dj hb))) (ke e)
def oneD:bw->Option D
 |[.tup x]=>match BZ x with
  |some _=>Z (.int 1)
  |none=>J
 |ds=>YM ds
def one_src(hK:X.K=G.K):∀{ds d H1 H1' a xs},oneD ds=Z d->SqL X.K H1' a xs->Reps G H1 ds xs->ue H1 H1'->∃n:Nat,SrcS1 X.K H1' a n/\d=.int n:=λ{ds d H1 H1' a xs} e2 hq h2 s=>by
 delta oneD at e2;split at e2
 .rename_i x;split at e2
  .rename_i k1 f1;ext e2;delta Reps Reps at h2;let#v[v1,r1,rfl,c1,rfl]:=h2;delta Rep at c1;let#v[p,ys,rfl,d1,d2]:=c1;rw[<-hK,AC d2 f1]at d1;show⟨1,.inr ⟨p,k1,hq,SqT.mono s d1,O⟩,O⟩
  .ext e2
 .let#v[n,h,e]:=VI hK e2 hq h2 s;show⟨n,.inl h,e⟩
end
section
variable{X:Cx}{B:Bz}{k:Nat}{e:Expr}{f:FE}{p p2 p3 pos:Pos}
def zr_l1I [C:Cz X B k][N:Nb B "len"][N':Nb B "set"](hs:S1 X e)(hg:Gz X "len")(hg':Gz X "set")(ha:ZE X B e f)(z:aG [Expr.Call (.Name "set" p2) [e] [] p3] X.env=[(δ,eval (.Call (.Name "set" p2) [e] [] p3) X.env)]):ZE X B (.Call (.Name "len" p) [.Call (.Name "set" p2) [e] [] p3] [] pos) (c1 (Ec oneD) f):=⟨Nd C.K (λh=>.inl (.inl h)) (one_src C.K) (Qa set_V1 C.r.units C.c hg (C.mg▸N.p) hg' (C.mg▸N'.p) ha.p z hs)⟩
end
end L4
namespace K91x
open PySem L2 L3 L4
abbrev D:=L4.D
def top(i:Nat):Stmt:=PySem.Challenge.pw_tellworld_k91_whole_one_place_and_no_rin.main.body.getD i (.Pass ⟨0,0,0,0⟩)
def AE:Nat->Bool:=λc=>c==14
def AF:Nat->Bool:=λc=>c==13
def yB:Nat->Bool:=λc=>c==2
def Fb:Nat->Bool:=λc=>c==9
def vP:Nat->Bool:=λc=>c==2
def CY:Nat->Bool:=λc=>c==14
def zv:Nat->Bool:=λc=>c==14
def vK:Nat->Bool:=λc=>c==14
def B7:Nat->Bool:=λc=>c==14
def Ag:Nat->Bool:=λc=>c==14
def ua:Nat->Bool:=λc=>c==0||c==7
def zw:Nat->Bool:=λc=>c==1
def zS:Nat->Bool:=λc=>c==14
def uc:Nat->Bool:=λc=>c==0||c==1||c==2
def GL:Nat->Bool:=λc=>c==10
def CH:Nat->Bool:=λc=>c==10
def wG:Nat->Bool:=λc=>c==2
def CJ:Nat->Bool:=λc=>c==3||c==11
def yC:Nat->Bool:=λc=>c==13
def xS:Nat->Bool:=λc=>c==14
def AG:Nat->Bool:=λc=>c==14
def AH:Nat->Bool:=λc=>c==14
def vg:Nat->Bool:=λc=>c==0||c==1
def AI:Nat->Bool:=λc=>c==3||c==4||c==5||c==6||c==7||c==11||c==12
def CK:Nat->Bool:=λc=>c==13
def Ei:Nat->Bool:=λc=>c==13
def zx:Nat->Bool:=λc=>c==14
def CL:Nat->Bool:=λc=>c==6||c==12
def xT:Nat->Bool:=λc=>c==13
def zT:Nat->Bool:=λc=>c==14
def HK:Nat->Bool:=λc=>c==8
def wq:Nat->Bool:=λc=>c==0
def Ah:Nat->Bool:=λc=>c==14
abbrev t_At:Ty->Option Bool:=xP 16 3
abbrev Nx:Ty->Option Bool:=xP 16 10
abbrev WN:Ty->Option Bool:=xP 16 4
abbrev SK:Ty->Option Bool:=xP 16 7
abbrev WO:Ty->Option Bool:=xP 16 15
abbrev SL:Ty->Option Bool:=xP 16 1
abbrev L9:Ty->Option Bool:=xP 16 6
abbrev SM:Ty->Option Bool:=xP 16 11
abbrev SN:Ty->Option Bool:=xP 16 9
abbrev WQ:Ty->Option Bool:=xP 16 12
abbrev SO:Ty->Option Bool:=xP 16 13
abbrev SQ:Ty->Option Bool:=xP 16 5
abbrev OI:Ty->Option Bool:=xP 16 0
abbrev SR:Ty->Option Bool:=xP 16 2
abbrev SU:Ty->Option Bool:=xP 16 8
def B8:L4.D:=(D.int 8)
def B9:L4.D:=(D.int 12)
def HL:L4.D:=(D.tup [(D.str "it"),(D.str "other"),(D.str "here"),(D.str "the"),(D.str "a"),(D.str "undo"),(D.str "restart")])
def HM:L4.D:=(D.tup [(D.str "the"),(D.str "a")])
def BC:L4.D:=(D.str "Nothing comes of it.")
def FK:L4.D:=(D.str "That cannot be.")
def GN:L4.D:=(D.tup [(D.str "room"),(D.str "plain"),(D.str "fixed"),(D.str "box"),(D.str "lamp"),(D.str "you")])
def OJ:L4.D:=(D.tup [(D.str "alone"),(D.str "one"),(D.str "two"),(D.str "way")])
def zU:L4.D:=(D.tup [(D.str "room"),(D.str "box"),(D.str "you")])
def zV:L4.D:=(D.tup [(D.str "box"),(D.str "lamp")])
def CZ:L4.D:=(D.tup [(D.str "room"),(D.str "you")])
def Ej:L4.D:=(D.int 5)
def Ek:L4.D:=(D.int 4)
def FL:L4.D:=(D.int 4)
def El:L4.D:=(D.int 60)
def zW:L4.D:=(D.int 3)
def Em:L4.D:=(D.int 5)
def Da:L4.D:=(D.int 7)
def yW:L4.D:=(D.int 4)
def Ca:L4.D:=(D.int 3)
def Cb:L4.D:=(D.int 10)
def En:L4.D:=(D.int 6)
def Eo:L4.D:=(D.int 4)
def zy:L4.D:=(D.tup [(D.str "the"),(D.str "a"),(D.str "undo"),(D.str "restart")])
def Ep:L4.D:=(D.int 20)
abbrev ab:=(cV 0)
abbrev ai:=(cV 1)
abbrev aI:=(cC (.int 1))
def zz:FS:=(tG (uH (c1 (uF (uY "str")) ab) (uH (w5 yx yx aI (c1 vv ab) ai) (c1 yy (cL (tR 1 [] (iS ab) (gN 0) uQ (w5 RF RF (cS "a") ab (cS "z"))))))))
def xq:=fnD 2 2 zz
def JH:FS:=(tG (uH (tq xq (aCons ab (a1 (cC B8)))) (c2 (dIn γ) ab (cC HL))))
def wN:=fnD 1 1 JH
def JI:FS:=(tG (uH (tq xq (aCons ab (a1 (cC B9)))) (c2 (dIn γ) ab (cC HM))))
def wQ:=fnD 1 1 JI
def FM:FS:=(tG (uH (c1 (uF (uY "str")) ab) (c2 (dIn δ) ab ai)))
def uI:=fnD 2 2 FM
def HN:FS:=(tG (uH (c1 (uF (uY "int")) ab) (Gs (c1 (uF (uY "bool")) ab))))
def xt:=fnD 1 1 HN
def BD:FS:=(tG (uH (c1 (uF (uY "list")) ab) (c2 yx (c1 vv ab) ai)))
def uK:=fnD 2 2 BD
def HP:FS:=(tG (cIf (cT (c1 (uF (uY "list")) ab)) (cL (zQ ab)) ab))
def DA:=fnD 1 1 HP
abbrev aj:=(cV 2)
abbrev aw:=(cV 3)
abbrev az:=(cV 4)
def Bc:FS:=(tw (uC 0 0 "name" ai)
 (tw (uC 0 0 "words" aj)
 (tw (uC 0 0 "kind" aw)
 (uC 0 0 "start" az))))
def v8:=fnI 0 4 5 Bc
def FN:FS:=(tw (uC 1 0 "name" ai)
 (tw (uC 1 0 "start" aj)
 (uC 1 0 "most" aw)))
def Cc:=fnI 1 3 4 FN
abbrev aE:=(cC D.non)
def Cd:FS:=(tw (uC 2 0 "name" ai)
 (tw (uC 2 0 "others" (cIf (cT (c2 xN aj aE)) (uv uk) aj))
 (tw (uC 2 0 "form" aw)
 (uC 2 0 "joining" az))))
def vq:=fnI 2 4 5 Cd
def JJ:FS:=(tw (uC 3 0 "term" ai)
 (uC 3 0 "place" aj))
def CM:=fnI 3 2 3 JJ
def HQ:FS:=(uC 4 0 "term" ai)
def yc:=fnI 4 1 2 HQ
def FP:FS:=(uC 5 0 "term" ai)
def FQ:=fnI 5 1 2 FP
def Dc:FS:=(tw (uC 6 0 "term" ai)
 (uC 6 0 "value" aj))
def uL:=fnI 6 2 3 Dc
def FR:FS:=(tw (uC 7 0 "term" ai)
 (uC 7 0 "kind" aj))
def wH:=fnI 7 2 3 FR
def FU:FS:=(uC 8 0 "word" ai)
def Ce:=fnI 8 1 2 FU
def HR:FS:=(uC 9 0 "inner" ai)
def vR:=fnI 9 1 2 HR
def FV:FS:=(tw (uC 10 0 "one" ai)
 (uC 10 0 "other" aj))
def FW:=fnI 10 2 3 FV
def FX:FS:=(tw (uC 11 0 "term" ai)
 (uC 11 0 "place" aj))
def wI:=fnI 11 2 3 FX
def HS:FS:=(tw (uC 12 0 "term" ai)
 (uC 12 0 "value" aj))
def xu:=fnI 12 2 3 HS
abbrev bf:=(cV 5)
abbrev bP:=(a1 aj)
abbrev b7:=(a1 aw)
def FY:FS:=(tw (uC 13 0 "verb" ai)
 (tw (uC 13 0 "tests" (tq DA bP))
 (tw (uC 13 0 "deeds" (tq DA b7))
 (tw (uC 13 0 "text" az)
 (uC 13 0 "refuses" bf)))))
def wJ:=fnI 13 5 6 FY
def AJ:FS:=(tG (c2 (dIn δ) (c1 (tI ua "kind") ab) (cC zU)))
def yd:=fnD 1 1 AJ
def uJ:Nat->Option (List D->Option D):=λc=>match c with
 |0=>Z yd
 |_=>J
def AK:FS:=(tG (c2 (dIn δ) (c1 (tI ua "kind") ab) (cC zV)))
def AL:=fnD 1 1 AK
def vY:Nat->Option (List D->Option D):=λc=>match c with
 |0=>Z AL
 |_=>J
def zA:FS:=(tG (c2 (dIn γ) (c1 (tI ua "kind") ab) (cC CZ)))
def xw:=fnD 1 1 zA
def uP:Nat->Option (List D->Option D):=λc=>match c with
 |0=>Z xw
 |_=>J
def BE:FS:=(sIf (uE (cT ab)) Vr tN)
def tS:=fnD 2 2 BE
def HU:FS:=(tG (c1 vv (cL (tR 1 [1] (iL ab) (gN 0) (cT (c2 (dEq δ) (c1 (tI ua "kind") ab) ai)) ab))))
def Bd:=fnD 2 2 HU
def Er:FS:=(vz (tR 1 [] (iL ab) (gN 0) (cT (tK uP "is_plainly" ab uk)) ab))
def wR:=fnN 1 1 Er
abbrev aA:=(cC (.int 0))
abbrev bz:=(cC (.bl δ))
def Fc:FS:=(tw (sIf (vS (uE (cT (c1 (uF SL) ab))) (vS (uE (cT (tq xt (a1 (c1 (tI vg "start") ab))))) (uE (cT (tq xt (a1 (c1 (tI zw "most") ab))))))) (tG bz) tN)
 (tG (uH (w5 yx yx aI (c1 (tI zw "most") ab) (cC Ca)) (w5 yx yx aA (c1 (tI vg "start") ab) (c1 (tI zw "most") ab)))))
def Fd:=fnD 1 1 Fc
abbrev bX:=(cS "room")
abbrev mi:=(a1 (cS "you"))
abbrev bI:=(a1 ab)
abbrev hE:=(a1 bX)
def zB:FS:=(tw (tV 1 (uH (c1 (uF (uY "list")) ab) (c1 yy (cL (tR 1 [] (iL ab) (gN 0) uQ (c1 (uF OI) ab))))))
 (tw (uq (tq tS (aCons ai (a1 (cS "things are a list of things")))))
 (tw (uq (tq tS (aCons (c1 yy (cL (tR 1 [] (iL ab) (gN 0) uQ (tq uI (aCons (c1 (tI ua "kind") ab) (a1 (cC GN))))))) (a1 (cS "a thing is of no kind")))))
 (tw (uq (tq tS (aCons (w5 yx yx aI (tq Bd (aCons ab hE)) (cC Em)) (a1 (cS "a world has 1 to 5 rooms")))))
 (tw (uq (tq tS (aCons (c2 (dEq δ) (tq Bd (aCons ab mi)) aI) (a1 (cS "a world has just one you")))))
 (uq (tq tS (aCons (c2 yx (c1 vv (cL (uN wR bI))) (cC Da)) (a1 (cS "a world has at most 7 things beside rooms and you"))))))))))
def zC:=fnD 1 2 zB
def Ai:FS:=(tw (tV 1 (uH (tq uK (aCons ab (a1 (cC yW)))) (c1 yy (cL (tR 1 [] (iL ab) (gN 0) uQ (tq Fd bI))))))
 (uq (tq tS (aCons ai (a1 (cS "marks are a list of at most 4 marks, each from 0 to at most 3"))))))
def Aj:=fnD 1 2 Ai
def Es:FS:=(tG (c2 (dEq δ) (c1 (Ec oneD) ab) (c1 vv ab)))
def wa:=fnD 1 1 Es
def Ak:FS:=(tw (tV 2 (cL (xn (cL (tR 1 [] (iL ab) (gN 0) uQ (c1 (tI uc "name") ab))) (cL (tR 1 [] (iL ai) (gN 0) uQ (c1 (tI uc "name") ab))))))
 (tw (uq (tq tS (aCons (c1 yy (cL (tR 1 [] (iL aj) (gN 0) uQ (tq wN bI)))) (a1 (cS "a name is no name")))))
 (uq (tq tS (aCons (tq wa bP) (a1 (cS "two things or marks have one name")))))))
def Al:=fnD 2 3 Ak
def Et:FS:=(vz (xn (cL (tR 1 [] (iL ab) (gN 0) (cT (tK vY "has_mark" ab uk)) (c1 (tI uc "name") ab))) (cL (tR 1 [] (iL ai) (gN 0) uQ (c1 (tI uc "name") ab)))))
def wU:=fnN 2 2 Et
def DB:FS:=(tw (sIf (cT (c2 (dEq δ) (c1 (tI ua "kind") ai) bX)) (tG (c2 xN (c1 (tI vg "start") ai) aE)) tN)
 (tw (sIf (cT (c2 (dEq δ) (c1 (tI ua "kind") ai) (cS "you"))) (tG (tq uI (aCons (c1 (tI vg "start") ai) (a1 (cL (tR 1 [] (iL ab) (gN 0) (cT (c2 (dEq δ) (c1 (tI ua "kind") ab) bX)) (c1 (tI uc "name") ab))))))) tN)
 (tG (tq uI (aCons (c1 (tI vg "start") ai) (a1 (cL (tR 1 [] (iL ab) (gN 0) (cT (tK uJ "can_hold" ab uk)) (c1 (tI uc "name") ab)))))))))
def DC:=fnD 2 2 DB
abbrev cI:=(cC (.bl γ))
def xU:FS:=(tw (tV 2 (c2 CV ab ai))
 (tw (wC (iR1 (c1 vv ab)) (gN 3) (tw (sIf (cT (c2 xN aj aE)) (tG cI) tN)
 (tV 2 (c2 CV ab aj))))
 (tG (c2 xN aj aE))))
def wb:=fnD 2 4 xU
abbrev dF:=(aCons ai bI)
def zD:FS:=(tw (uq (tq tS (aCons (c1 yy (cL (tR 1 [0] (iL ab) (gN 0) uQ (tq DC dF)))) (a1 (cS "a start is none")))))
 (tw (Ht 1)
 (tw (wC (iL ab) (gN 2) (ya 1 (c1 (tI uc "name") aj) (c1 (tI vg "start") aj)))
 (uq (tq tS (aCons (c1 yy (cL (tR 1 [1] (iD (cFz 1)) (gN 0) uQ (tq wb dF)))) (a1 (cS "a thing starts within itself"))))))))
def zF:=fnD 1 3 zD
def FZ:FS:=(tw (sIf (vS (uE (cT (c1 (uF (uY "tuple")) ab))) (uE (cT (w5 yx yx aI (c1 vv ab) (cC Eo))))) (tG bz) tN)
 (tG (uH (c1 yy (cL (tR 1 [] (iT ab) (gN 0) uQ (tq wQ bI)))) (tq wa bI))))
def zX:=fnD 1 1 FZ
def JK:FS:=(tG (c1 yy (cL (tR 1 [0] (iT ai) (gN 0) uQ (c2 (dIn δ) ab ai)))))
def AM:=fnD 2 2 JK
def yN:FS:=(tw (tV 2 (cL (tR 1 [1] (iL ab) (gN 0) (cT (c2 (dEq γ) (c1 (tI uc "name") ab) (c1 (tI uc "name") ai))) ab)))
 (tG (Gs (c1 Gv (cL (tR 1 [1] (iL aj) (gN 0) uQ (tq AM (aCons (c1 (tI wq "words") ab) (a1 (c1 (tI wq "words") ai))))))))))
def yO:=fnD 2 3 yN
def vZ:FS:=(tw (uq (tq tS (aCons (c1 yy (cL (tR 1 [] (iL ab) (gN 0) uQ (tq zX (a1 (c1 (tI wq "words") ab)))))) (a1 (cS "a thing has 1 to 4 unlike words, as a tuple")))))
 (tw (tV 1 (cL (uN wR bI)))
 (uq (tq tS (aCons (c1 yy (cL (tR 1 [1] (iL ai) (gN 0) uQ (tq yO dF)))) (a1 (cS "one thing has all words of another")))))))
def v3:=fnD 1 2 vZ
abbrev b0:=(aCons ab (a1 ai))
def Be:FS:=(tw (tV 2 (uH (c1 (uF (uY "list")) ab) (uH (c1 yy (cL (tR 1 [1] (iL ab) (gN 0) uQ (tq uI b0)))) (tq wa bI))))
 (uq (tq tS (aCons aj (a1 (cS "dark is a list of rooms' names, each once"))))))
def Bf:=fnD 2 3 Be
abbrev bp:=(cC (.int 2))
abbrev bx:=(cC (.int 3))
abbrev dX:=(cC (.int 4))
abbrev bG:=(a1 ai)
abbrev qR:=(aCons (c2 dIx ab bx) bP)
def HV:FS:=(tw (sIf (vS (uE (cT (c1 (uF (uY "tuple")) ab))) (cT (c2 (dEq γ) (c1 vv ab) dX))) (tG bz) tN)
 (tw (tV 3 (cOr (c2 xN (c2 dIx ab bx) aE) (tq uI qR)))
 (tG (uH (tq uI (aCons (c2 dIx ab aA) bG)) (uH (tq wQ (a1 (c2 dIx ab aI))) (uH (tq uI (aCons (c2 dIx ab bp) bG)) aw))))))
def HW:=fnD 3 4 HV
abbrev cj:=(aCons ai bP)
abbrev fq:=(aCons ab cj)
def Bh:FS:=(tw (tV 3 (uH (tq uK (aCons ab (a1 (cC Cb)))) (c1 yy (cL (tR 1 [1,2] (iL ab) (gN 0) uQ (tq HW fq))))))
 (tw (uq (tq tS (aCons aw (a1 (cS "ways are a list of at most 10 tuples (room, word, room, mark)")))))
 (uq (tq tS (aCons (tq wa (a1 (cL (tR 1 [] (iL ab) (gN 0) uQ (uv (aCons (c2 dIx ab aA) (a1 (c2 dIx ab aI)))))))) (a1 (cS "two ways lead from one room by one word")))))))
def Bi:=fnD 3 4 Bh
abbrev gV:=(cS "two")
abbrev my:=(a1 (c1 (tI uc "name") ab))
def JL:FS:=(tw (sIf (vS (uE (cT (c1 (uF SR) ab))) (vS (uE (cT (tq wN my))) (uE (cT (c1 (uF (uY "tuple")) (c1 (tI wG "others") ab)))))) (tG bz) tN)
 (tw (sIf (vS (uE (cT (c1 yy (cL (tR 1 [] (iT (c1 (tI wG "others") ab)) (gN 0) uQ (tq wN bI)))))) (uE (cT (tq uI (aCons (c1 (tI yB "form") ab) (a1 (cC OJ))))))) (tG bz) tN)
 (tG (cIf (cT (c2 (dEq δ) (c1 (tI yB "form") ab) gV)) (tq wQ (a1 (c1 (tI vP "joining") ab))) (c2 xN (c1 (tI vP "joining") ab) aE)))))
def JM:=fnD 1 1 JL
def De:FS:=(tw (tV 1 (uH (tq uK (aCons ab (a1 (cC En)))) (c1 yy (cL (tR 1 [] (iL ab) (gN 0) uQ (tq JM bI))))))
 (uq (tq tS (aCons ai (a1 (cS "verbs are a list of at most 6 verbs"))))))
def yq:=fnD 1 2 De
def F0:FS:=(tG (Gs (c1 Gv (cL (tR 1 [1] (iL ab) (gN 0) uQ (c2 (dIn δ) ab ai))))))
def yD:=fnD 2 2 F0
abbrev bb:=(cV 6)
abbrev bH:=(cV 7)
abbrev jP:=(a1 (c1 (tI uc "name") bb))
def xx:FS:=(tw (x8 3 (uw uk))
 (tw (wC (iL (cL (uN wR bI))) (gN 4) (uq (BX 3 (c1 (tI wq "words") az))))
 (tw (x8 5 (uw uk))
 (tw (wC (iL aj) (gN 6) (uq (BX 5 (FC (uv jP) (c1 (tI wG "others") bb)))))
 (tw (tV 7 (cL (xn (cL (tR 1 [] (iL aj) (gN 0) (cT (c2 vX (c1 (tI vP "joining") ab) aE)) (c1 (tI vP "joining") ab))) (cL (tR 1 [] (iL ai) (gN 0) uQ (c2 dIx ab aI))))))
 (tw (uq (tq tS (aCons (tq wa (a1 (cFz 5))) (a1 (cS "two verbs' names are alike")))))
 (tw (uq (tq tS (aCons (tq yD (aCons (cL (xn (cFz 5) bH)) (a1 (cFz 3)))) (a1 (cS "a verb's, way's or joining word is a word of a thing")))))
 (tw (uq (tq tS (aCons (tq yD (aCons (cL (xn (cFz 5) bH)) (a1 (cC zy)))) (a1 (cS "the, a, undo or restart is a word of the world")))))
 (uq (tq tS (aCons (tq yD (aCons bH (a1 (cFz 5)))) (a1 (cS "a way's or joining word is a verb's name")))))))))))))
def wc:=fnD 3 8 xx
abbrev dY:=(a1 az)
def Am:FS:=(tw (uq (tq zC bI))
 (tw (uq (tq Aj bG))
 (tw (uq (tq Al b0))
 (tw (uq (tq zF bI))
 (tw (uq (tq v3 bI))
 (tw (tV 6 (cL (tR 1 [] (iL ab) (gN 0) (cT (c2 (dEq δ) (c1 (tI ua "kind") ab) bX)) (c1 (tI uc "name") ab))))
 (tw (uq (tq Bf (aCons aj (a1 bb))))
 (tw (uq (tq Bi (aCons aw (aCons bb (a1 (cL (uN wU b0)))))))
 (tw (uq (tq yq dY))
 (uq (tq wc (aCons ab (aCons aw (a1 (cL (xn az bf))))))))))))))))
def An:=fnD 6 7 Am
def SV:FS:=(tG (uj 13 (λds=>wJ (ds++[])) (aCons ab (aCons ai (aCons aj (aCons aw (a1 bz)))))))
def zG:=fnD 4 4 SV
def JN:FS:=(tG (uj 13 (λds=>wJ (ds++[])) (aCons ab (aCons ai (aCons (cL (uw uk)) (aCons aj (a1 cI)))))))
def uZ:=fnD 3 3 JN
abbrev cB:=(cS "it")
abbrev gY:=(cS "take")
def Eu:FS:=(vz (uw (aCons (tq uZ (aCons gY (aCons (cL (uw (a1 (uj 7 (λds=>wH (ds++[])) (aCons cB (a1 (cS "fixed"))))))) (a1 (cS "That stays."))))) (aCons (tq uZ (aCons gY (aCons (cL (uw (a1 (uj 3 (λds=>CM (ds++[])) (aCons cB bI))))) (a1 (cS "You have that."))))) (aCons (tq zG (aCons gY (aCons (cL (uw uk)) (aCons (cL (uw (a1 (uj 11 (λds=>wI (ds++[])) (aCons cB bI))))) (a1 (cS "Taken.")))))) (aCons (tq zG (aCons (cS "drop") (aCons (cL (uw (a1 (uj 4 (λds=>yc (ds++[])) (a1 cB))))) (aCons (cL (uw (a1 (uj 11 (λds=>wI (ds++[])) (aCons cB (a1 (cS "here"))))))) (a1 (cS "Dropped.")))))) (a1 (tq uZ (aCons (cS "drop") (aCons (cL (uw uk)) (a1 (cS "You lack that."))))))))))))
def Bj:=fnN 1 1 Eu
abbrev eE:=(cS "box")
abbrev gO:=(cS "other")
abbrev iM:=(cS "put")
abbrev gX:=(aCons cB (a1 gO))
abbrev iQ:=(a1 eE)
def F1:FS:=(vz (uw (aCons (tq uZ (aCons iM (aCons (cL (uw (a1 (uj 9 (λds=>vR (ds++[])) (a1 (uj 4 (λds=>yc (ds++[])) (a1 cB))))))) (a1 (cS "You lack that."))))) (aCons (tq uZ (aCons iM (aCons (cL (uw (a1 (uj 9 (λds=>vR (ds++[])) (a1 (uj 7 (λds=>wH (ds++[])) (aCons gO iQ))))))) (a1 (cS "It holds nothing."))))) (aCons (tq uZ (aCons iM (aCons (cL (uw (a1 (uj 6 (λds=>uL (ds++[])) (aCons gO (a1 aA)))))) (a1 (cS "It is shut."))))) (a1 (tq zG (aCons iM (aCons (cL (uw uk)) (aCons (cL (uw (a1 (uj 11 (λds=>wI (ds++[])) gX)))) (a1 (cS "Done."))))))))))))
def Cf:=fnN 0 0 F1
abbrev qC:=(a1 aI)
abbrev jR:=(aCons cB (a1 aA))
abbrev gZ:=(cS "open")
abbrev jW:=(aCons cB qC)
def F2:FS:=(vz (uw (aCons (tq uZ (aCons gZ (aCons (cL (uw (a1 (uj 9 (λds=>vR (ds++[])) (a1 (uj 7 (λds=>wH (ds++[])) (aCons cB iQ))))))) (a1 (cS "It has no lid."))))) (aCons (tq uZ (aCons gZ (aCons (cL (uw (a1 (uj 6 (λds=>uL (ds++[])) jW)))) (a1 (cS "It is open."))))) (aCons (tq zG (aCons gZ (aCons (cL (uw uk)) (aCons (cL (uw (a1 (uj 12 (λds=>xu (ds++[])) jW)))) (a1 (cS "Opened.")))))) (aCons (tq uZ (aCons (cS "shut") (aCons (cL (uw (a1 (uj 9 (λds=>vR (ds++[])) (a1 (uj 7 (λds=>wH (ds++[])) (aCons cB iQ))))))) (a1 (cS "It has no lid."))))) (aCons (tq uZ (aCons (cS "shut") (aCons (cL (uw (a1 (uj 6 (λds=>uL (ds++[])) jR)))) (a1 (cS "It is shut."))))) (a1 (tq zG (aCons (cS "shut") (aCons (cL (uw uk)) (aCons (cL (uw (a1 (uj 12 (λds=>xu (ds++[])) jR)))) (a1 (cS "Shut."))))))))))))))
def Cg:=fnN 0 0 F2
abbrev gQ:=(a1 (cS "lamp"))
def Dg:FS:=(vz (uw (aCons (tq uZ (aCons (cS "light") (aCons (cL (uw (a1 (uj 9 (λds=>vR (ds++[])) (a1 (uj 7 (λds=>wH (ds++[])) (aCons cB gQ))))))) (a1 (cS "It burns not."))))) (aCons (tq uZ (aCons (cS "light") (aCons (cL (uw (a1 (uj 6 (λds=>uL (ds++[])) jW)))) (a1 (cS "It is lit."))))) (aCons (tq zG (aCons (cS "light") (aCons (cL (uw uk)) (aCons (cL (uw (a1 (uj 12 (λds=>xu (ds++[])) jW)))) (a1 (cS "Lit.")))))) (aCons (tq uZ (aCons (cS "douse") (aCons (cL (uw (a1 (uj 9 (λds=>vR (ds++[])) (a1 (uj 7 (λds=>wH (ds++[])) (aCons cB gQ))))))) (a1 (cS "It burns not."))))) (aCons (tq uZ (aCons (cS "douse") (aCons (cL (uw (a1 (uj 6 (λds=>uL (ds++[])) jR)))) (a1 (cS "It is out."))))) (a1 (tq zG (aCons (cS "douse") (aCons (cL (uw uk)) (aCons (cL (uw (a1 (uj 12 (λds=>xu (ds++[])) jR)))) (a1 (cS "Doused."))))))))))))))
def Ao:=fnN 0 0 Dg
abbrev f6:=(a1 (c2 dIx ai aA))
abbrev mC:=(a1 (c2 dIx ai aI))
def F3:FS:=(tw (x8 2 (uw (aCons (uj 3 (λds=>CM (ds++[])) (aCons ab f6)) (a1 (uj 8 (λds=>Ce (ds++[])) mC)))))
 (tw (sIf (cT (c2 vX (c2 dIx ai bx) aE)) (uq (zt 2 (uj 9 (λds=>vR (ds++[])) (a1 (uj 6 (λds=>uL (ds++[])) (aCons (c2 dIx ai bx) (a1 aA))))))) tN)
 (vz (Hk 2))))
def Ci:=fnN 2 3 F3
def DE:FS:=(tw (tV 2 (cL (tR 1 [0] (iL ai) (gN 0) uQ (tq zG (aCons (cS "go") (aCons (cL (uN Ci dF)) (aCons (cL (uw (a1 (uj 11 (λds=>wI (ds++[])) (aCons ai (a1 (c2 dIx ab bp))))))) (a1 (cS "You go.")))))))))
 (vz (xn aj (cL (uw (a1 (tq uZ (aCons (cS "go") (aCons (cL (uw uk)) (a1 (cS "No way there.")))))))))))
def DF:=fnN 2 3 DE
def Ew:FS:=(vz (uw (a1 (tq zG (aCons (cS "wait") (aCons (cL (uw uk)) (aCons (cL (uw uk)) (a1 (cS "Time goes by.")))))))))
def Ex:=fnN 0 0 Ew
def Cj:FS:=(vz (xn (cL (xn (cL (xn (cL (xn (cL (xn (cL (uN Bj bI)) (cL (uN Cf uk)))) (cL (uN Cg uk)))) (cL (uN Ao uk)))) (cL (uN DF b0)))) (cL (uN Ex uk))))
def zH:=fnN 2 2 Cj
abbrev gW:=(cS "way")
def Ck:FS:=(vz (xn (cL (tR 1 [] (iT (uv (aCons gY (aCons (cS "drop") (aCons gZ (aCons (cS "shut") (aCons (cS "light") (a1 (cS "douse"))))))))) (gN 0) uQ (uj 2 (λds=>vq (ds++[D.non,(D.str "one"),D.non])) bI))) (cL (uw (aCons (uj 2 (λds=>vq (ds++[])) (aCons iM (aCons (uv uk) (aCons gV (a1 (cS "in")))))) (aCons (uj 2 (λds=>vq (ds++[D.non])) (aCons (cS "go") (aCons (uv uk) (a1 gW)))) (a1 (uj 2 (λds=>vq (ds++[D.non])) (aCons (cS "wait") (aCons (uv uk) (a1 (cS "alone"))))))))))))
def xV:=fnN 0 0 Ck
def Fe:FS:=(tw (Ht 1)
 (tw (wC (iL ab) (gN 2) (ya 1 (c1 (tI uc "name") aj) aj))
 (tG (cFz 1))))
def Fg:=fnD 1 3 Fe
def yP:FS:=(tw (Ht 2)
 (tw (wC (iL ab) (gN 3) (sIf (cT (tK vY "has_mark" aw uk)) (ya 2 (c1 (tI uc "name") aw) aI) tN))
 (tw (wC (iL ai) (gN 4) (ya 2 (c1 (tI uc "name") az) (c1 (tI zw "most") az)))
 (tG (cFz 2)))))
def yQ:=fnD 2 5 yP
def BF:FS:=(tw (Ht 1)
 (tw (wC (iL ab) (gN 2) (wC (iT (FC (uv (a1 (c1 (tI uc "name") aj))) (c1 (tI wG "others") aj))) (gN 3) (ya 1 aw aj)))
 (tG (cFz 1))))
def yR:=fnD 1 4 BF
def JO:FS:=(Nh (tI xT "verb"))
def JP:=fnD 1 3 JO
def BG:FS:=(vz (tR 1 [1] (iL (c1 (tI vK "kept_things") ab)) (gN 0) (cT (c2 (dEq δ) (c1 (tI ua "kind") ab) ai)) (c1 (tI uc "name") ab)))
def yS:=fnD 2 2 BG
def vC:Nat->Option (List D->Option D):=λc=>match c with
 |14=>Z yS
 |_=>J
def zY:FS:=(vz (xn (c1 (tI B7 "kept_verbs") ab) (c1 (tI AH "shared_verbs") ab)))
def wz:=fnD 1 1 zY
def wj:Nat->Option (List D->Option D):=λc=>match c with
 |14=>Z wz
 |_=>J
def Cn:FS:=(tG (uH (c1 (uF (uY "str")) ab) (c2 (dEq δ) ab ai)))
def vF:=fnD 2 2 Cn
def JQ:FS:=(tG (uj 13 (λds=>wJ (ds++[])) (aCons (c1 (tI xT "verb") ab) (aCons (c1 (tI CK "tests") ab) (aCons (c1 (tI AF "deeds") ab) (aCons (c1 (tI Ei "text") ab) (a1 (c1 (tI yC "refuses") ab))))))))
def Fh:=fnD 1 1 JQ
def AN:FS:=(tG (c2 L8 (c1 (tI zx "things_by_name") ab) ai))
def vh:=fnD 2 2 AN
def tJ:Nat->Option (List D->Option D):=λc=>match c with
 |14=>Z vh
 |_=>J
def BH:FS:=(tG (c2 BB (c1 (tI zS "mosts_by_name") ab) ai))
def u6:=fnD 2 2 BH
def uM:Nat->Option (List D->Option D):=λc=>match c with
 |14=>Z u6
 |_=>J
def BI:FS:=(tG (c2 BB (c1 (tI zT "verbs_by_word") ab) ai))
def vL:=fnD 2 2 BI
def uR:Nat->Option (List D->Option D):=λc=>match c with
 |14=>Z vL
 |_=>J
def F4:FS:=(tG (c1 (tI Ah "your_name") ab))
def F5:=fnD 1 1 F4
def xB:Nat->Option (List D->Option D):=λc=>match c with
 |14=>Z F5
 |_=>J
def BJ:FS:=(tw (sIf (cT (tq vF (aCons ai (a1 cB)))) (tG (c2 (dIn δ) ab (uv (aCons (cS "one") (a1 gV))))) tN)
 (tG (uH (tq vF (aCons ai (a1 gO))) (c2 (dEq δ) ab gV))))
def uS:=fnD 2 2 BJ
def JR:FS:=(tG (uH (c2 vX ab aE) (tq vF (aCons ai (a1 (cS "here"))))))
def ye:=fnD 2 2 JR
def OK:FS:=(tG (cIf (cT (c1 (uF (uY "str")) ai)) (tK tJ "thing_of" ab bG) aE))
def yX:=fnD 2 2 OK
def Ey:FS:=(tG (uH (c2 vX (tq yX b0) aE) (c2 (dEq δ) (c1 (tI ua "kind") (tq yX b0)) aj)))
def yY:=fnD 3 3 Ey
abbrev cE:=(aCons ab bP)
def JS:FS:=(tG (cOr (tq uS cj) (cOr (tq ye cj) (c2 vX (tq yX cE) aE))))
def AO:=fnD 3 3 JS
def DG:FS:=(tw (sIf (vS (cT (tq uS cj)) (cT (tq ye cj))) (tG cI) tN)
 (tG (uH (c2 vX (tq yX cE) aE) (tK uJ "can_hold" (tq yX cE) uk))))
def Bk:=fnD 3 3 DG
def DH:FS:=(tw (sIf (cT (tq uS cj)) (tG cI) tN)
 (tG (uH (c2 vX (tq yX cE) aE) (Gs (tq yY (aCons ab (aCons aj hE)))))))
def DI:=fnD 3 3 DH
def xi:FS:=(tw (sIf (vS (uE (cT (tq xt b7))) (cT (c2 MX aw aA))) (tG bz) tN)
 (tw (sIf (cT (tq uS cj)) (tG (c2 yx aw (cC zW))) tN)
 (tw (tV 4 (cIf (cT (c1 (uF (uY "str")) aj)) (tK uM "most_of" ab bP) aE))
 (tG (uH (c2 vX az aE) (c2 yx aw az))))))
def xj:=fnD 4 5 xi
abbrev jM:=(aCons ab (aCons ai (a1 (c1 (tI AI "term") aj))))
abbrev qF:=(aCons ab (aCons ai (a1 (c1 (tI CJ "place") aj))))
def Fi:FS:=(tw (sIf (vS (uE (cT (tq DI jM))) (uE (cT (tq Bk qF)))) (tG bz) tN)
 (tG (cOr (c2 (dEq γ) (c1 (tI AI "term") aj) (tK xB "you" ab uk)) (tq yY (aCons ab (aCons (c1 (tI CJ "place") aj) hE))))))
def Fj:=fnD 3 3 Fi
def JT:FS:=(tG (uH (c1 (uF (uY "str")) ab) (w5 yx yx aI (c1 vv ab) (cC El))))
def AQ:=fnD 1 1 JT
def Cp:FS:=(tG (uH (tq wN bG) (uH (c2 vX (tK uR "verb_of" ab bG) aE) (c2 (dEq δ) (c1 (tI uc "name") (tK uR "verb_of" ab bG)) ai))))
def zI:=fnD 2 2 Cp
def zZ:FS:=(tG (uH (c1 (uF (uY "bool")) (c1 (tI yC "refuses") ab)) (cOr (Gs (c1 (tI yC "refuses") ab)) (c2 (dEq δ) (c1 (tI AF "deeds") ab) (cL (uw uk))))))
def xW:=fnD 1 1 zZ
abbrev qz:=(aCons ab (aCons ai (aCons (c1 (tI AI "term") aj) (a1 (c1 (tI CL "value") aj)))))
def vw:FS:=(tw (sIf (cT (c1 (uF t_At) aj)) (tG (uH (tq AO jM) (tq Bk qF))) tN)
 (tw (sIf (cT (c1 (uF (tOr WN SQ)) aj)) (tG (tq AO jM)) tN)
 (tw (sIf (cT (c1 (uF L9) aj)) (tG (tq xj qz)) tN)
 (tw (sIf (cT (c1 (uF SK) aj)) (tG (uH (tq AO jM) (tq uI (aCons (c1 (tI ua "kind") aj) (a1 (cC GN)))))) tN)
 (tw (sIf (cT (c1 (uF SU) aj)) (tG (uH (c2 (dEq δ) ai gW) (tq wQ (a1 (c1 (tI HK "word") aj))))) tN)
 (tG (c1 (uF WO) aj)))))))
def yT:=fnD 3 3 vw
abbrev mB:=(a1 (c2 Od aw aI))
def xC(g:List D->Option D):FS:=(tw (sIf (cT (c2 (dEq δ) aw aA)) (tG bz) tN)
 (tw (sIf (cT (c1 (uF SN) aj)) (tG (tq g (aCons ab (aCons ai (aCons (c1 (tI Fb "inner") aj) mB))))) tN)
 (tw (sIf (cT (c1 (uF Nx) aj)) (tG (uH (tq g (aCons ab (aCons ai (aCons (c1 (tI GL "one") aj) mB)))) (tq g (aCons ab (aCons ai (aCons (c1 (tI CH "other") aj) mB)))))) tN)
 (tG (tq yT fq)))))
def xD:Nat->List D->Option D
 |0=>fnD 4 4 Vr
 |n+1=>fnD 4 4 (xC (xD n))
def CN:FS:=(tw (sIf (cT (c1 (uF WQ) aj)) (tG (tq xj qz)) tN)
 (tG (uH (c1 (uF SM) aj) (tq Fj fq))))
def Fk:=fnD 3 3 CN
def F6:FS:=(tG (uH (tq uK (aCons aj (a1 (cC Ej)))) (c1 yy (cL (tR 1 [0,1] (iL aj) (gN 0) uQ (tq (xD 4) (aCons ai (aCons aj (aCons ab (a1 (cC FL)))))))))))
def Cq:=fnD 3 3 F6
abbrev jT:=(aCons ai (aCons aj bI))
def F7:FS:=(tG (uH (tq uK (aCons aj (a1 (cC Ek)))) (c1 yy (cL (tR 1 [0,1] (iL aj) (gN 0) uQ (tq Fk jT))))))
def Cr:=fnD 3 3 F7
abbrev qJ:=(a1 (c1 (tI xT "verb") ai))
def Fl:FS:=(tw (sIf (vS (uE (cT (c1 (uF SO) ai))) (vS (uE (cT (tq zI (aCons ab qJ)))) (uE (cT (tq AQ (a1 (c1 (tI Ei "text") ai))))))) (tG bz) tN)
 (tw (tV 2 (c1 (tI yB "form") (tK uR "verb_of" ab qJ)))
 (tG (uH (tq Cq (aCons ab (aCons aj (a1 (c1 (tI CK "tests") ai))))) (uH (tq Cr (aCons ab (aCons aj (a1 (c1 (tI AF "deeds") ai))))) (tq xW bG))))))
def Fm:=fnD 2 3 Fl
def xX:FS:=(tw (uq (tq An (aCons ai (aCons aj (aCons aw (aCons az (aCons bf (a1 (cL (uN xV uk))))))))))
 (tw (uC 14 0 "kept_things" (cL (zQ ai)))
 (tw (uC 14 0 "kept_marks" (cL (zQ aj)))
 (tw (uC 14 0 "kept_dark" (cL (zQ aw)))
 (tw (uC 14 0 "kept_ways" (cL (zQ az)))
 (tw (uC 14 0 "kept_verbs" (cL (zQ bf)))
 (tw (uC 14 0 "shared_verbs" (cL (uN xV uk)))
 (tw (uC 14 0 "your_name" (CW 16 (c2 dIx (tK vC "of_kind" ab mi) aA)))
 (tw (uC 14 0 "things_by_name" (tq Fg bG))
 (tw (uC 14 0 "mosts_by_name" (tq yQ cj))
 (tw (uC 14 0 "verbs_by_word" (CW 16 (tq yR (a1 (tK wj "all_verbs" ab uk)))))
 (tw (tV 7 (CW 16 (uH (tq uK (aCons bb (a1 (cC Ep)))) (c1 yy (cL (tR 1 [0] (iL bb) (gN 0) uQ (tq Fm dF)))))))
 (tw (uq (tq tS (aCons bH (a1 (cS "rules are a list of at most 20 rules, each as it may be")))))
 (tw (uC 14 0 "kept_rules" (cL (zQ bb)))
 (tw (uC 14 0 "shared_rules" (CW 16 (cL (uN zH (aCons (c1 (tI Ah "your_name") ab) dY)))))
 (tw (uC 14 0 "copied_rules" (cL (tR 1 [] (iL bb) (gN 0) uQ (tq Fh bI))))
 (uC 14 0 "rules_by_verb" (CW 16 (tq JP (a1 (cL (xn (c1 (tI AE "copied_rules") ab) (c1 (tI AG "shared_rules") ab)))))))))))))))))))))))
def xY:=fnI 14 6 8 xX
def BK:FS:=(tG (c2 (dIn δ) ai (c1 (tI CY "kept_dark") ab)))
def Gw:=fnD 2 2 BK
def yt:Nat->Option (List D->Option D):=λc=>match c with
 |14=>Z Gw
 |_=>J
def z6:FS:=(vz (zQ (c1 (tI zv "kept_marks") ab)))
def EA:=fnD 1 1 z6
def yU:Nat->Option (List D->Option D):=λc=>match c with
 |14=>Z EA
 |_=>J
def Dh:FS:=(vz (tR 1 [] (iL (c1 (tI vK "kept_things") ab)) (gN 0) uQ (c1 (tI uc "name") ab)))
def Ap:=fnD 1 1 Dh
def u7:Nat->Option (List D->Option D):=λc=>match c with
 |14=>Z Ap
 |_=>J
def z7:FS:=(vz (cSortX (cL (tR 1 [] (iL (c1 (tI Ag "kept_ways") ab)) (gN 0) uQ (c2 dIx ab aI)))))
def xZ:=fnD 1 1 z7
def wm:Nat->Option (List D->Option D):=λc=>match c with
 |14=>Z xZ
 |_=>J
def yE:FS:=(vz (zQ (Jx (c1 (tI xS "rules_by_verb") ab) ai (cL (uw uk)))))
def vQ:=fnD 2 2 yE
def xy:Nat->Option (List D->Option D):=λc=>match c with
 |14=>Z vQ
 |_=>J
abbrev dE:=(cS "mark")
abbrev iK:=(cS "at")
abbrev qB:=(aCons (c1 (tI vK "kept_things") ab) (a1 (c1 (tI zv "kept_marks") ab)))
def Di:FS:=(tw (tV 1 (cL (tR 1 [] (iL (c1 (tI vK "kept_things") ab)) (gN 0) (cT (c2 (dEq γ) (c1 (tI ua "kind") ab) bX)) (uv (aCons iK my)))))
 (tw (tV 2 (cL (tR 1 [] (iL (cL (uN wU qB))) (gN 0) uQ (uv (aCons dE bI)))))
 (vz (E8 (cL (xn ai aj))))))
def vE:=fnD 1 3 Di
def uW:Nat->Option (List D->Option D):=λc=>match c with
 |14=>Z vE
 |_=>J
def EB:FS:=(tw (Ht 1)
 (tw (wC (iL (tK yU "own_marks" ab uk)) (gN 2) (ya 1 (c1 (tI uc "name") aj) (c1 (tI vg "start") aj)))
 (tG (cFz 1))))
def Bl:=fnD 1 3 EB
def Dj:FS:=(tw (sIf (cT (c2 (dEq δ) (c2 dIx aj aA) iK)) (tG (c1 (tI vg "start") (tK tJ "thing_of" ab (a1 (c2 dIx aj aI))))) tN)
 (tG (Jx ai (c2 dIx aj aI) aA)))
def w9:=fnD 3 3 Dj
abbrev qW:=(aCons ab (a1 (tq w9 jT)))
def Dk:FS:=(tw (tV 1 (tq Bl bI))
 (tG (Ea (cL (tR 1 [0,1] (iL (tK uW "parts" ab uk)) (gN 0) uQ (uv qW))))))
def xf:=fnD 1 2 Dk
def HX:FS:=(tw (wC (iT ab) (gN 2) (sIf (cT (c2 (dEq δ) (c2 dIx aj aA) ai)) (tG (c2 dIx aj aI)) tN))
 (tG aE))
def Bm:=fnD 2 3 HX
abbrev qU:=(a1 (uv (aCons iK bG)))
def OL:FS:=(tG (tq Bm (aCons ab qU)))
def vI:=fnD 2 2 OL
abbrev qV:=(a1 (uv (aCons dE bG)))
def JU:FS:=(tG (tq Bm (aCons ab qV)))
def xE:=fnD 2 2 JU
def F8:FS:=(tG (Ea (cL (tR 1 [1,2] (iT ab) (gN 0) uQ (cIf (cT (c2 (dEq δ) (c2 dIx ab aA) ai)) (uv cj) ab)))))
def v7:=fnD 3 3 F8
abbrev jV:=(aCons ai dY)
def EC:FS:=(tw (x8 3 (uw uk))
 (tw (tV 4 (tq vI cj))
 (tw (whL (cT (c2 vX az aE)) (tw (uq (zt 3 az))
 (tV 4 (tq vI jV))) 50)
 (vz (Hk 3)))))
def wV:=fnN 3 5 EC
abbrev jO:=(a1 (tK xB "you" ab uk))
def JV:FS:=(tG (tq vI (aCons ai jO)))
def zi:=fnD 2 2 JV
def WR:FS:=(tG (c2 (dIn δ) (tK xB "you" ab uk) (cL (uN wV fq))))
def SW:=fnD 3 3 WR
def JW:FS:=(tG (uH (c2 (dEq δ) (c1 (tI ua "kind") (tK tJ "thing_of" ab bP)) eE) (c2 (dEq δ) (tq xE cj) aA)))
def yf:=fnD 3 3 JW
abbrev mI:=(aCons ab jV)
def JX:FS:=(tw (wC (iL (cL (uN wV fq))) (gN 4) (tw (sIf (cT (c2 (dEq δ) az aw)) (tG cI) tN)
 (sIf (cT (tq yf mI)) (tG bz) tN)))
 (tG bz))
def yg:=fnD 4 5 JX
abbrev f7:=(aCons ai (aCons aj b7))
def HY:FS:=(tG (uH (c2 (dEq δ) (tq xE cj) aI) (tq yg (aCons ab f7))))
def zJ:=fnD 4 4 HY
abbrev qO:=(aCons ai (aCons aj (aCons ab b7)))
def Ma:FS:=(tw (tV 2 (tq zi b0))
 (tw (sIf (uE (cT (tK yt "is_dark" ab bP))) (tG cI) tN)
 (tG (c1 Gv (cL (tR 1 [0,1,2] (iL (tK vC "of_kind" ab gQ)) (gN 0) uQ (tq zJ qO)))))))
def ED:=fnD 2 3 Ma
abbrev qM:=(aCons ab (aCons ai (aCons aj (a1 (tq zi b0)))))
abbrev qP:=(aCons ab (aCons ai (aCons aj jO)))
def JY:FS:=(tw (tV 3 (tK tJ "thing_of" ab bP))
 (tw (sIf (vS (cT (c2 xN aw aE)) (uE (cT (tK uP "is_plainly" aw uk)))) (tG bz) tN)
 (tw (sIf (cT (tq yg qP)) (tG cI) tN)
 (tG (uH (tq yg qM) (tq ED b0))))))
def wt:=fnD 3 4 JY
def F9:FS:=(tw (tV 2 (cIf (cT (c2 xN ai aE)) aE (tK uR "verb_of" ab f6)))
 (tG (uH (c2 vX aj aE) (c2 (dEq δ) (c1 (tI yB "form") aj) gW))))
def yF:=fnD 2 3 F9
abbrev qG:=(aCons (c2 dIx ai aI) (a1 (c2 dIx ai bp)))
def Ga:FS:=(tw (sIf (vS (cT (c2 xN ai aE)) (cT (tq yF b0))) (tG (uv (aCons aE (a1 aE)))) tN)
 (tG (uv qG)))
def u9:=fnD 2 2 Ga
def OM:FS:=(tw (sIf (cT (c2 (dEq δ) aw (cS "here"))) (tG (tq zi b0)) tN)
 (tw (sIf (cT (c2 (dEq δ) aw cB)) (tG (c2 dIx (tq u9 cE) aA)) tN)
 (tw (sIf (cT (c2 (dEq δ) aw gO)) (tG (c2 dIx (tq u9 cE) aI)) tN)
 (tG aw))))
def vd:=fnD 4 4 OM
def HZ:FS:=(tw (tV 2 (tK tJ "thing_of" ab bG))
 (tG (cIf (vS (cT (c2 xN aj aE)) (cT (c2 (dEq δ) (c1 (tI ua "kind") aj) bX))) (cL (uw uk)) (cL (uw qU)))))
def DJ:=fnD 2 3 HZ
def EE:FS:=(tG (cIf (cT (c2 xN (tK uM "most_of" ab bG) aE)) (cL (uw uk)) (cL (uw qV))))
def yZ:=fnD 2 2 EE
def Mb:FS:=(tw (tV 3 (tK tJ "thing_of" ab bP))
 (tG (uH (c2 (dEq γ) (tq DJ b0) (cL (uw uk))) (uH (c2 vX aw aE) (uH (tK uJ "can_hold" aw uk) (c2 (dEq γ) aj ai))))))
def EF:=fnD 3 4 Mb
def Ia:FS:=(tG (uH (c2 (dEq γ) (tq yZ b0) (cL (uw uk))) (c2 yx aj (tK uM "most_of" ab bG))))
def DL:=fnD 3 3 Ia
abbrev fo:=(aCons ai (aCons aj (aCons aw (a1 (c1 (tI AI "term") ab)))))
abbrev mj:=(aCons ai (aCons aj (aCons aw (a1 (c1 (tI CJ "place") ab)))))
def Ib:FS:=(tw (tV 4 (tq vd fo))
 (tw (tV 5 (tq vI (aCons aj dY)))
 (tG (uH (c2 vX bf aE) (c2 (dEq δ) bf (tq vd mj))))))
def DM:=fnD 4 6 Ib
abbrev jU:=(aCons aj (a1 (tq vd fo)))
def Gb:FS:=(tG (tq SW (aCons ai jU)))
def Gc:=fnD 4 4 Gb
def EG:FS:=(tG (tq wt (aCons ai jU)))
def EH:=fnD 4 4 EG
def Cs:FS:=(tw (tV 4 (tq xE jU))
 (tG (uH (c2 vX az aE) (c2 (dEq δ) az (c1 (tI CL "value") ab)))))
def zK:=fnD 4 5 Cs
def EI:FS:=(tw (tV 4 (tK tJ "thing_of" ai (a1 (tq vd fo))))
 (tG (uH (c2 vX az aE) (c2 (dEq δ) (c1 (tI ua "kind") az) (c1 (tI ua "kind") ab)))))
def EJ:=fnD 4 5 EI
abbrev mG:=(aCons ai b7)
def EK:FS:=(tG (uH (tq yF mG) (c2 (dEq δ) (c2 dIx aw aI) (c1 (tI HK "word") ab))))
def EL:=fnD 4 4 EK
def Ge:FS:=(tG (tq ED cj))
def Gf:=fnD 4 4 Ge
def yG(g:Nat->Option (List D->Option D)):FS:=(tG (Gs (tK g "holds" (c1 (tI Fb "inner") ab) f7)))
def wW(g:Nat->Option (List D->Option D)):FS:=(tG (uH (tK g "holds" (c1 (tI GL "one") ab) f7) (tK g "holds" (c1 (tI CH "other") ab) f7)))
def Bn:Nat->Option (List D->Option D):=λc=>match c with
 |3=>Z DM
 |4=>Z Gc
 |5=>Z EH
 |6=>Z zK
 |7=>Z EJ
 |8=>Z EL
 |15=>Z Gf
 |_=>J
def ug:Nat->Nat->Option (List D->Option D)
 |0=>Bn
 |n+1=>λc=>match c with
  |9=>Z (fnD 4 4 (yG (ug n)))
  |10=>Z (fnD 4 4 (wW (ug n)))
  |c=>Bn c
abbrev jL:=(aCons ai (aCons aj (a1 bf)))
abbrev mm:=(a1 bf)
abbrev qS:=(aCons ai (aCons az mm))
def Gg:FS:=(tw (tV 4 (tq vd fo))
 (tw (tV 5 (tq vd mj))
 (tw (sIf (vS (uE (cT (tq EF qS))) (cT (c2 (dIn δ) az (cL (uN wV jL))))) (tG aE) tN)
 (tG (tq v7 (aCons aj (aCons (uv (aCons iK dY)) mm)))))))
def z8:=fnD 4 6 Gg
abbrev mx:=(a1 (c1 (tI CL "value") ab))
def Ie:FS:=(tw (tV 4 (tq vd fo))
 (tw (sIf (uE (cT (tq DL (aCons ai (aCons az mx))))) (tG aE) tN)
 (tG (tq v7 (aCons aj (aCons (uv (aCons dE dY)) mx))))))
def DN:=fnD 4 5 Ie
def yh:Nat->Option (List D->Option D):=λc=>match c with
 |11=>Z z8
 |12=>Z DN
 |_=>J
def Gh:FS:=(tw (tV 2 (cIf (cT (c1 (uF (uY "str")) ai)) (tK tJ "thing_of" ab bG) aE))
 (tG (uH (c2 vX aj aE) (tK uP "is_plainly" aj uk))))
def xF:=fnD 2 3 Gh
def Gi:FS:=(tw (sIf (cT (c2 (dEq δ) ai gV)) (tG (uH (tq xF cE) (tq xF (aCons ab b7)))) tN)
 (tw (sIf (cT (c2 vX aw aE)) (tG bz) tN)
 (tw (sIf (cT (c2 (dEq δ) ai gW)) (tG (uH (c1 (uF (uY "str")) aj) (c2 (dIn δ) aj (tK wm "way_words" ab uk)))) tN)
 (tG (cIf (cT (c2 (dEq δ) ai (cS "alone"))) (c2 xN aj aE) (tq xF cE))))))
def Ct:=fnD 4 4 Gi
def EM:FS:=(tw (sIf (vS (uE (cT (c1 (uF (uY "tuple")) ai))) (vS (cT (c2 (dEq γ) (c1 vv ai) bx)) (uE (cT (c1 (uF (uY "str")) (c2 dIx ai aA)))))) (tG bz) tN)
 (tw (tV 2 (tK uR "verb_of" ab f6))
 (tG (uH (c2 vX aj aE) (uH (c2 (dEq δ) (c1 (tI uc "name") aj) (c2 dIx ai aA)) (tq Ct (aCons ab (aCons (c1 (tI yB "form") aj) qG))))))))
def Bo:=fnD 2 3 EM
def BL:FS:=(sIf (uE (cT (tq Bo b0))) Vr tN)
def xk:=fnD 2 2 BL
def SX:FS:=(tw (wC (iL (c1 (tI CK "tests") aw)) (gN 4) (sIf (uE (cT (tK (ug 3) "holds" az fq))) (tG bz) tN))
 (tG cI))
def Fn:=fnD 4 5 SX
abbrev jG:=(cS "refused")
abbrev gU:=(cS "told")
abbrev qK:=(a1 (c1 (tI Ei "text") aw))
abbrev qL:=(aCons jG (a1 (cC FK)))
abbrev mH:=(aCons az bP)
def JZ:FS:=(tw (sIf (cT (c1 (tI yC "refuses") aw)) (tG (uv (aCons (uv (aCons jG qK)) bG))) tN)
 (tw (tV 4 ai)
 (tw (wC (iL (c1 (tI AF "deeds") aw)) (gN 5) (tw (tV 4 (tK yh "done" bf (aCons ab mH)))
 (sIf (cT (c2 xN az aE)) (tG (uv (aCons (uv qL) bG))) tN)))
 (tG (uv (aCons (uv (aCons gU qK)) dY))))))
def zj:=fnD 4 6 JZ
abbrev qr:=(cS "unseen")
abbrev jX:=(aCons ab jL)
abbrev qQ:=(aCons (uv (aCons qr dY)) bG)
def Ig:FS:=(tw (wC (iT (tq u9 cE)) (gN 4) (sIf (vV (cT (c2 vX az aE)) (cT (c2 (dIn γ) az aw))) (tG (uv qQ)) tN))
 (tw (wC (iL (tK xy "rules_to_try" ab (a1 (c2 dIx aj aA)))) (gN 5) (sIf (cT (tq Fn jX)) (tG (tq zj jX)) tN))
 (tG (uv (aCons (uv (aCons jG (a1 (cC BC)))) bG)))))
def DO:=fnD 4 6 Ig
def SY:FS:=(tw (uq (tq xk cE))
 (tw (tV 3 (cL (tR 1 [0,1] (iT (tq u9 cE)) (gN 0) (cT (tq wt jT)) ab)))
 (tG (tq DO (aCons ab f7)))))
def Bp:=fnD 3 4 SY
def wX:FS:=(tw (sIf (cT (c2 (dEq δ) ai (cS "alone"))) (vz (uw (a1 (uv (aCons aE (a1 aE)))))) tN)
 (tw (sIf (cT (c2 (dEq δ) ai gW)) (vz (tR 1 [] (iL (tK wm "way_words" ab uk)) (gN 0) uQ (uv (aCons ab (a1 aE))))) tN)
 (tw (tV 2 (cL (tR 1 [0] (iL (tK u7 "names" ab uk)) (gN 0) (cT (tK uP "is_plainly" (tK tJ "thing_of" ai bI) uk)) ab)))
 (tw (sIf (cT (c2 (dEq δ) ai (cS "one"))) (vz (tR 1 [] (iL aj) (gN 0) uQ (uv (aCons ab (a1 aE))))) tN)
 (tw (x8 3 (uw uk))
 (tw (wC (iL aj) (gN 4) (uq (Hg 3 (tR 1 [4] (iL aj) (gN 0) uQ (uv dF)))))
 (vz (Hk 3))))))))
def we:=fnN 2 5 wX
abbrev jF:=(A4 (gN 0) (A4 (gN 1) LD))
abbrev jN:=(aCons ab (a1 (c1 (tI yB "form") aj)))
abbrev jS:=(aCons (c1 (tI uc "name") aj) b0)
def DP:FS:=(tw (x8 1 (uw uk))
 (tw (wC (iL (tK wj "all_verbs" ab uk)) (gN 2) (uq (Hg 1 (tR 2 [2] (iL (cL (uN we jN))) (gT jF 2) uQ (uv jS)))))
 (vz (Hk 1))))
def Bq:=fnN 1 3 DP
def x3:FS:=(tw (tV 2 (tq vI b0))
 (tw (wC (iR1 (c1 vv ab)) (gN 3) (tw (sIf (cT (c2 xN aj aE)) (tG cI) tN)
 (tV 2 (tq vI cE))))
 (tG (c2 xN aj aE))))
def vB:=fnD 2 4 x3
def Mc:FS:=(tG (uH (c1 (uF (uY "tuple")) ab) (c2 (dEq δ) (c1 vv ab) bp)))
def AR:=fnD 1 1 Mc
def J0:FS:=(tG (uH (tq AR bI) (uH (tq vF (aCons (c2 dIx ab aA) f6)) (tq vF (aCons (c2 dIx ab aI) mC)))))
def AS:=fnD 2 2 J0
def Gj:FS:=(tw (tV 3 (cIf (cT (c1 (uF (uY "str")) aj)) (tK tJ "thing_of" ab bP) aE))
 (tw (sIf (cT (c2 xN aw aE)) (tG bz) tN)
 (tw (sIf (cT (c2 (dEq δ) ai (tK xB "you" ab uk))) (tG (c2 (dEq δ) (c1 (tI ua "kind") aw) bX)) tN)
 (tG (tK uJ "can_hold" aw uk)))))
def Cu:=fnD 3 4 Gj
def Ih:FS:=(tw (sIf (cT (c2 (dEq δ) (c2 dIx ai aA) dE)) (tG (uH (tq xt bP) (w5 yx yx aA aj (tK uM "most_of" ab mC)))) tN)
 (tG (tq Cu (aCons ab (aCons (c2 dIx ai aI) bP)))))
def yi:=fnD 3 3 Ih
abbrev mh:=(A4 (gN 3) (A4 (gN 4) LD))
abbrev mw:=(aCons ab (aCons az (a1 (c2 dIx aw aI))))
abbrev mF:=(aCons (c2 dIx aw aA) dY)
def Ii:FS:=(tw (tV 2 (tK uW "parts" ab uk))
 (tw (sIf (vS (uE (cT (c1 (uF (uY "tuple")) ai))) (cT (c2 (dEq γ) (c1 vv ai) (c1 vv aj)))) (tG bz) tN)
 (tw (wC (iZT cj) (gT mh 2) (sIf (vS (uE (cT (tq AR b7))) (vS (uE (cT (tq AS mF))) (uE (cT (tq yi mw))))) (tG bz) tN))
 (tG (c1 yy (cL (tR 1 [1] (iL (tK u7 "names" ab uk)) (gN 0) uQ (tq vB dF))))))))
def yj:=fnD 2 5 Ii
def Cv:FS:=(tw (sIf (cT (c2 MX ai (c1 vv ab))) (tG (c2 dIx ab ai)) tN)
 (tG aA))
def vt:=fnD 2 2 Cv
abbrev gS:=(cC (.int 720))
abbrev jH:=(cC (.int 2147483647))
abbrev jJ:=(cC (.int 10))
def y4:FS:=(tw (x8 2 (uw uk))
 (tw (sIf (cT (c2 Vm ab (c2 Oe jJ (cC (.int 18))))) (tw (wC (iR1 ai) (gN 3) (tw (uq (zt 2 (c2 uf ab gS)))
 (tV 0 (c2 uV ab gS))))
 (vz (Hk 2))) tN)
 (tw (wC (iR1 ai) (gN 3) (tw (tV 4 (c2 uf (c2 vM (c2 vm (c2 vm ab (c2 vM (cC (.int 7919)) aw)) aI) (cC (.int 48271))) jH))
 (tw (tV 4 (c2 uf (c2 vM az (c2 vm (c2 uV az (cC (.int 1009))) (cC (.int 69621)))) jH))
 (uq (zt 2 (c2 uf (c2 uf (c2 vM az (c2 vm (c2 uV az (cC (.int 2003))) (cC (.int 40692)))) (cC (.int 2147483399))) gS))))))
 (vz (Hk 2)))))
def y6:=fnN 2 5 y4
abbrev cg:=(cC (.int 6))
abbrev cD:=(cV 8)
abbrev gR:=(cC (.int 8))
abbrev qp:=(aCons (cS "hall") (aCons (cS "attic") (a1 (cS "cellar"))))
abbrev iJ:=(cS "self")
abbrev iR:=(a1 cD)
abbrev qw:=(aCons (c2 dIx (c2 dIx az bf) aA) (aCons (c2 dIx (c2 dIx az bf) aI) (aCons bH iR)))
abbrev qA:=(aCons (cS "plain") (aCons eE (aCons (cS "lamp") (aCons (cS "fixed") (aCons (cS "plain") iQ)))))
abbrev qD:=(aCons (c2 dIx ai ab) (aCons (uv (aCons (cS "big") hE)) hE))
abbrev qE:=(aCons aI (aCons bp (aCons bx (aCons gR (a1 (cC (.int 9)))))))
def Aq:FS:=(tw (tV 1 (cL (KE (cL (uw qp)) oNo (oAt (c2 vm aI (c2 uf (c2 dIx ab aA) bx))))))
 (tw (x8 2 (tR 1 [1] (iR1 (c1 vv ai)) (gN 0) uQ (uj 0 (λds=>v8 (ds++[D.non])) qD)))
 (tw (x8 3 (xn ai (cL (uw (a1 iJ)))))
 (tw (uq (zt 2 (uj 0 (λds=>v8 (ds++[])) (aCons iJ (aCons (uv (a1 iJ)) (aCons (cS "you") (a1 (c2 dIx ai (c2 uf (c2 uV (c2 dIx ab aA) bp) (c1 vv ai))))))))))
 (tw (tV 4 (cL (uw (aCons (uv (aCons (cS "pin") (a1 (uv (aCons (cS "red") (a1 (cS "key"))))))) (aCons (uv (aCons (cS "crate") (a1 (uv (aCons (cS "oak") (a1 (cS "key"))))))) (a1 (uv (aCons (cS "lantern") (a1 (uv (aCons (cS "tin") gQ)))))))))))
 (tw (tV 4 (cL (xn az (cL (uw (aCons (uv (aCons (cS "urn") (a1 (uv (aCons (cS "grey") (a1 (cS "stone"))))))) (a1 (uv (aCons (cS "o") (a1 (uv (aCons (cS "wet") (a1 (cS "stone"))))))))))))))
 (tw (wC (iR1 (c2 uf (c2 uV (c2 dIx ab aA) cg) cg)) (gN 5) (tw (tV 6 (c2 dIx ab (c2 dIx (cL (uw qE)) bf)))
 (tw (tV 7 (c2 dIx (cL (uw qA)) (c2 uf bb cg)))
 (tw (tV 8 (MZ (c2 dIx aw (c2 uf (c2 uV bb cg) (c1 vv aw)))))
 (tw (uq (zt 2 (uj 0 (λds=>v8 (ds++[])) qw)))
 (sIf (cT (c2 (dEq δ) bH eE)) (uq (zt 3 (c2 dIx (c2 dIx az bf) aA))) tN))))))
 (vz (Hk 2)))))))))
def Ar:=fnD 1 9 Aq
abbrev qo:=(aCons (cS "rub") (aCons gY (aCons gZ (a1 (cS "tie")))))
abbrev iI:=(cS "tie")
def Cw:FS:=(tw (sIf (vV (cT (c2 (dIn δ) ai (uv qo))) (cT (c2 (dEq δ) (c2 uf aj bx) aA))) (tG cB) tN)
 (tw (sIf (vV (cT (c2 (dEq δ) ai iI)) (cT (c2 (dEq δ) (c2 uf aj bx) aI))) (tG gO) tN)
 (tG (c2 dIx ab (c2 uf (c2 uV aj bx) (c1 vv ab))))))
def yH:=fnD 3 3 Cw
abbrev di:=(cC (.int 7))
abbrev fZ:=(cC (.int 5))
abbrev jK:=(aCons (c2 dIx aj (c2 uf (c2 uV az di) (c1 vv aj))) (a1 (c2 uf bf bp)))
abbrev iP:=(a1 bH)
abbrev qH:=(a1 (c2 uf (c2 uV bf bx) bp))
abbrev qT:=(aCons ab (aCons aw mm))
def z9:FS:=(tw (tV 6 (c2 uf az di))
 (tw (tV 7 (tq yH qT))
 (tw (sIf (vV (cT (c2 (dEq δ) aw (cS "peer"))) (cT (c2 IW bb bx))) (tG (uj 8 (λds=>Ce (ds++[])) (a1 (c2 dIx (cL (uw (aCons (cS "north") (a1 (cS "south"))))) (c2 uf (c2 uV az di) bp))))) tN)
 (tw (sIf (vV (cT (c2 (dIn δ) bH (uv gX))) (cT (c2 IW bb dX))) (tG (uj 6 (λds=>uL (ds++[])) (aCons bH qH))) tN)
 (tw (sIf (cT (c2 (dEq δ) bb aA)) (tG (uj 3 (λds=>CM (ds++[])) (aCons bH (a1 (c2 dIx ai (c2 uf (c2 uV az di) (c1 vv ai))))))) tN)
 (tw (sIf (cT (c2 (dEq δ) bb aI)) (tG (uj 4 (λds=>yc (ds++[])) iP)) tN)
 (tw (sIf (cT (c2 (dEq δ) bb bp)) (tG (uj 5 (λds=>FQ (ds++[])) iP)) tN)
 (tw (sIf (cT (c2 (dEq δ) bb bx)) (tG (cNew 15)) tN)
 (tw (sIf (cT (c2 (dEq δ) bb dX)) (tG (uj 9 (λds=>vR (ds++[])) (a1 (uj 6 (λds=>uL (ds++[])) jK)))) tN)
 (tw (sIf (cT (c2 (dEq δ) bb fZ)) (tG (uj 10 (λds=>FW (ds++[])) (aCons (uj 6 (λds=>uL (ds++[])) jK) (a1 (uj 9 (λds=>vR (ds++[])) (a1 (uj 4 (λds=>yc (ds++[])) iP))))))) tN)
 (tG (uj 6 (λds=>uL (ds++[])) jK))))))))))))
def Aa:=fnD 6 8 z9
def Ab:FS:=(tw (tV 6 (tq yH qT))
 (tw (sIf (vV (cT (c2 (dEq δ) aw iI)) (cT (c2 (dEq δ) (c2 uf az dX) aA))) (tG (uj 11 (λds=>wI (ds++[])) gX)) tN)
 (tw (sIf (vV (cT (c2 (dEq δ) (c2 uf az bp) aA)) (cT (c2 (dEq γ) bb iJ))) (tG (uj 11 (λds=>wI (ds++[])) (aCons bb (a1 (c2 dIx (cL (xn ai (cL (uw (a1 (cS "here")))))) (c2 uf (c2 uV az bp) (c2 vm (c1 vv ai) aI))))))) tN)
 (tw (sIf (cT (c2 (dIn δ) bb (uv gX))) (tG (uj 12 (λds=>xu (ds++[])) (aCons bb qH))) tN)
 (tG (uj 12 (λds=>xu (ds++[])) (aCons (c2 dIx aj (c2 uf (c2 uV az bp) (c1 vv aj))) (a1 (c2 uf bf bp)))))))))
def Ac:=fnD 6 7 Ab
abbrev qm:=(aCons (cS "pray") (aCons (cS "rub") (aCons (cS "pray") (aCons (cS "wait") (aCons gY (aCons gZ (aCons (cS "peer") (a1 (cS "tie")))))))))
abbrev sX:=(aCons (cS "Aye.") (aCons (cS "So.") (a1 (cS "Hm."))))
abbrev qt:=(aCons ai (aCons aj (aCons aw (aCons az (aCons (c2 dIx bf (c2 vm aI ab)) (a1 (c2 dIx bf (c2 vm bp ab))))))))
abbrev qu:=(aCons ai (aCons aj (aCons aw (aCons az (aCons (c2 dIx bf (c2 vm bx ab)) (a1 (c2 dIx bf (c2 vm dX ab))))))))
abbrev qv:=(aCons (cV 9) (aCons (cV 10) (aCons (cV 11) (aCons (c2 dIx (cL (uw sX)) (c2 uf (c2 dIx cD fZ) bx)) (a1 (cV 12))))))
abbrev jQ:=(aCons bX (aCons eE mi))
def Br:FS:=(tw (tV 3 (cL (tR 1 [] (iL ab) (gN 0) (cT (c2 (dEq γ) (c1 (tI ua "kind") ab) bX)) (c1 (tI uc "name") ab))))
 (tw (tV 4 (cL (tR 1 [] (iL ab) (gN 0) (cT (c2 (dIn δ) (c1 (tI ua "kind") ab) (uv jQ))) (c1 (tI uc "name") ab))))
 (tw (tV 5 (cL (xn ai (cL (tR 1 [] (iL ab) (gN 0) (cT (c2 (dIn δ) (c1 (tI ua "kind") ab) (uv (aCons eE gQ)))) (c1 (tI uc "name") ab))))))
 (tw (x8 6 (uw uk))
 (tw (wC (iR1 (c2 uf (c2 dIx aj dX) fZ)) (gN 7) (tw (tV 8 (cL (KE aj (oAt (c2 vm jJ (c2 vM cg bH))) (oAt (c2 vm (cC (.int 16)) (c2 vM cg bH))))))
 (tw (tV 9 (c2 dIx (cL (uw qm)) (c2 uf (c2 dIx cD aA) gR)))
 (tw (tV 10 (cL (tR 1 [3,4,5,9,8] (iR1 (c2 uf (c2 uV (c2 dIx cD aA) gR) bx)) (gN 0) uQ (tq Aa qt))))
 (tw (tV 11 (cL (tR 1 [3,4,5,9,8] (iR1 (c2 uf (c2 uV (c2 dIx cD aA) (cC (.int 24))) bx)) (gN 0) uQ (tq Ac qu))))
 (tw (tV 12 (c2 (dEq δ) (c2 uf (c2 uV (c2 dIx cD aA) (cC (.int 72))) fZ) dX))
 (tw (sIf (cT (cV 12)) (tV 11 (cL (uw uk))) tN)
 (uq (zt 6 (uj 13 (λds=>wJ (ds++[])) qv))))))))))
 (vz (Hk 6)))))))
def Bs:=fnD 3 13 Br
def Bt:FS:=(tw (tV 1 (cL (uN y6 (aCons ab (a1 (cC (.int 40)))))))
 (tw (tV 2 (tq Ar bG))
 (tw (tV 3 (cL (tR 1 [] (iL aj) (gN 0) (cT (c2 (dEq δ) (c1 (tI ua "kind") ab) bX)) (c1 (tI uc "name") ab))))
 (tw (tV 4 (cL (uw (aCons (uj 1 (λds=>Cc (ds++[])) (aCons (cS "tide") (aCons aA (a1 (c2 vm aI (c2 uf (c2 dIx ai fZ) bx)))))) (a1 (uj 1 (λds=>Cc (ds++[])) (aCons (cS "sun") (aCons (c2 uf (c2 uV (c2 dIx ai fZ) bx) bp) qC))))))))
 (tw (tV 5 (cL (tR 1 [3,1] (iR1 (c1 vv aw)) (gN 0) (cT (c2 (dEq δ) (c2 dAndI (c2 dShrI (c2 dIx aj cg) ab) aI) aI)) (c2 dIx ai ab))))
 (tw (x8 6 (uw uk))
 (tw (sIf (cT (c2 IW (c2 uf (c2 dIx ai di) bx) aA)) (uq (zt 6 (uv (aCons (c2 dIx aw aA) (aCons (cS "north") (aCons (c2 dIx aw (c1 JD aI)) (a1 (c2 dIx (cL (uw (aCons aE (a1 (cS "sun"))))) (c2 uf (c2 uV (c2 dIx ai di) bx) bp))))))))) tN)
 (tw (sIf (cT (c2 IW (c2 uf (c2 uV (c2 dIx ai di) cg) bx) aA)) (uq (zt 6 (uv (aCons (c2 dIx aw (c1 JD aI)) (aCons (cS "south") (aCons (c2 dIx aw aA) (a1 (c2 dIx (cL (uw (aCons aE (a1 (cS "tide"))))) (c2 uf (c2 uV (c2 dIx ai di) (cC (.int 18))) bp))))))))) tN)
 (tw (tV 7 (cL (uw (aCons (uj 2 (λds=>vq (ds++[D.non])) (aCons (cS "pray") (aCons (uv (a1 (cS "beg"))) (a1 (cS "alone"))))) (a1 (uj 2 (λds=>vq (ds++[D.non,(D.str "one"),D.non])) (a1 (cS "rub"))))))))
 (tw (tV 7 (cL (xn bH (cL (uw (aCons (uj 2 (λds=>vq (ds++[D.non])) (aCons (cS "peer") (aCons (uv (a1 (cS "gaze"))) (a1 gW)))) (a1 (uj 2 (λds=>vq (ds++[])) (aCons iI (aCons (uv uk) (aCons gV (a1 (cS "with")))))))))))))
 (tG (uj 14 (λds=>xY (ds++[])) (aCons aj (aCons az (aCons bf (aCons (cFz 6) (aCons bH (a1 (tq Bs (aCons aj (aCons (cL (uw (aCons (cS "tide") (a1 (cS "sun"))))) bG)))))))))))))))))))))
def Bu:=fnD 1 8 Bt
abbrev mq:=(aCons bb (a1 bH))
abbrev mE:=(a1 (c2 dIx bb aI))
abbrev jY:=(aCons aj mq)
def Bv:FS:=(tw (tV 2 (tq xf bI))
 (tw (tV 3 (cL (uN y6 (aCons ai (a1 (cC (.int 12)))))))
 (tw (tV 4 (cL (xn (cL (xn (tK vC "of_kind" ab hE) (cL (uw jO)))) (tK vC "of_kind" ab iQ))))
 (tw (wC (iR1 cg) (gN 5) (tw (tV 6 (c2 dIx (tK uW "parts" ab uk) (c2 uf (c2 dIx aw (c2 vM bp bf)) (c1 vv (tK uW "parts" ab uk)))))
 (tw (tV 7 (c2 dIx az (c2 uf (c2 dIx aw (c2 vm (c2 vM bp bf) aI)) (c1 vv az))))
 (tw (sIf (cT (c2 (dEq δ) (c2 dIx bb aA) dE)) (tV 7 (c2 uf (c2 dIx aw (c2 vm (c2 vM bp bf) aI)) (c2 vm (tK uM "most_of" ab mE) aI))) tN)
 (tw (tV 8 (tq v7 jY))
 (sIf (cT (tq yj (aCons ab iR))) (tV 2 cD) tN))))))
 (tG aj)))))
def y7:=fnD 2 9 Bv
def Cy:FS:=(tw (wC (iL (tK u7 "names" ab uk)) (gN 2) (tw (tV 3 aj)
 (tw (wC (iR1 (c1 vv (tK u7 "names" ab uk))) (gN 4) (sIf (cT (c2 (dEq γ) (c1 (tI ua "kind") (tK tJ "thing_of" ab b7)) bX)) (tw (tV 3 (tq vI mG))
 (sIf (cT (c2 (dIn γ) (c1 (tI ua "kind") (tK tJ "thing_of" ab b7)) (uv jQ))) (tG bz) tN)) tN))
 (sIf (cT (c2 (dEq γ) (c1 (tI ua "kind") (tK tJ "thing_of" ab b7)) bX)) (tG bz) tN))))
 (tG (c2 (dEq δ) (c1 (tI ua "kind") (tK tJ "thing_of" ab (a1 (tq vI (aCons ai jO))))) bX)))
def x4:=fnD 2 5 Cy
abbrev qq:=(A4 (gN 6) (A4 (gN 7) LD))
abbrev iN:=(aCons ai (aCons aw (a1 bf)))
abbrev iO:=(aCons ab (a1 aI))
abbrev qI:=(aCons gU (aCons jG (a1 qr)))
abbrev qN:=(aCons ai (a1 (c2 uV (tq vt iO) bp)))
abbrev jZ:=(aCons ai iP)
def ON:FS:=(tw (tV 1 (tq Bu (a1 (tq vt (aCons ab (a1 aA))))))
 (tw (tV 2 (cL (uN Bq bG)))
 (tw (tV 3 (tq xf bG))
 (tw (sIf (cT (c2 (dEq δ) (c2 uf (tq vt iO) bp) aI)) (tV 3 (tq y7 qN)) tN)
 (tw (wC (iL (cL (cSl ab (Z 2) (Z 42)))) (gN 4) (tw (tV 5 (c2 dIx aj (c2 uf az (c1 vv aj))))
 (tw (MV (tq Bp iN) (gT qq 2))
 (tw (sIf (vS (cT (c2 (dIn γ) (c2 dIx bb aA) (uv qI))) (cT (c2 (dEq γ) (c1 vv bb) bp))) (tG bz) tN)
 (tw (sIf (vS (uE (cT (tq yj jZ))) (uE (cT (tq x4 jZ)))) (tG bz) tN)
 (tw (sIf (vS (vV (cT (c2 (dEq γ) (c2 dIx bb aA) gU)) (cT (c2 (dEq γ) bH aw))) (cT (c2 (dEq γ) (tq Bp iN) (uv mq)))) (tG bz) tN)
 (tV 3 bH)))))))
 (tG cI))))))
def WS:=fnD 1 8 ON
section
variable{k:Nat}{cap:List Nat}{g:FG}{ft:FT}{fe e:FE}{s:FA}{ρ ρ1 ρ2:aJ}{α:Type}
def wg{m:L4.D}(h:e ρ=Z (.bl γ,ρ1)):uq (tq tS (aCons e (aCons (cC m) uk))) ρ=Z (.nx ρ1):=uX (tf (sZ h (sZ O O)) O)
def xg(dd h:α->L4.D)(l:List α)(hs:s ρ=Z (l.map dd,ρ1))(hl:l.length<=1000)(st:∀a∈l,∃ρ2 ρ3,g (dd a) (D7 k cap ρ1)=Z ρ2/\fe ρ2=Z (h a,ρ3)/\xM cap (ρ3.drop k) ρ1=Z ρ1):
  tR k cap s g uQ fe ρ=Z (l.map h,ρ1):=(Om hs (by rw[aq];show hl)).trans (VQ dd h l st)
def yk(dd h:α->L4.D)(p:α->Bool)(l:List α)(hs:s ρ=Z (l.map dd,ρ1))(hl:l.length<=1000)
  (st:∀a∈l,∃ρ2 ρ3,g (dd a) (D7 k cap ρ1)=Z ρ2/\ft ρ2=Z (p a,ρ3)/\(p a=γ->∃ρ4,fe ρ3=Z (h a,ρ4)/\xM cap (ρ4.drop k) ρ1=Z ρ1)/\(p a=δ->xM cap (ρ3.drop k) ρ1=Z ρ1)):
  tR k cap s g ft fe ρ=Z ((l.filter p).map h,ρ1):=(Om hs (by rw[aq];show hl)).trans (HB dd p h l st)
def ym(dd:α->L4.D)(l:List α)(hs:s ρ=Z (l.map dd,ρ1))(hl:l.length<=1000)(st:∀a∈l,∃ρ2 ρ3,g (dd a) (D7 k cap ρ1)=Z ρ2/\fe ρ2=Z (.bl γ,ρ3)/\xM cap (ρ3.drop k) ρ1=Z ρ1):
  c1 yy (cL (tR k cap s g uQ fe)) ρ=Z (.bl γ,ρ1):=
 uu (uT (xg dd (λ_=>.bl γ) l hs hl st)) ((OB l λ_=>γ).trans (by rw[bc.mpr λ_ _=>O]))
def SZ(dd:α->L4.D)(l:List α)(hs:s ρ=Z (l.map dd,ρ1))(hl:l.length<=1000)(st:∀a∈l,∃ρ2 ρ3,g (dd a) (D7 k cap ρ1)=Z ρ2/\fe ρ2=Z (.bl δ,ρ3)/\xM cap (ρ3.drop k) ρ1=Z ρ1):
  c1 Gv (cL (tR k cap s g uQ fe)) ρ=Z (.bl δ,ρ1):=
 uu (uT (xg dd (λ_=>.bl δ) l hs hl st)) ((OC l λ_=>δ).trans (by rw[oa.mpr λ_ _=>bA]))
end
inductive Kd where
 |room|you|plain|fixed|box|lamp
deriving DecidableEq
def Kd.s:Kd->Str
 |.room=>"room" |.you=>"you" |.plain=>"plain" |.fixed=>"fixed" |.box=>"box" |.lamp=>"lamp"
def Kd.pl:Kd->Bool
 |.room=>δ|.you=>δ|_=>γ
def Kd.hd:Kd->Bool
 |.room=>γ|.you=>γ|.box=>γ|_=>δ
def Kd.mk:Kd->Bool
 |.box=>γ|.lamp=>γ|_=>δ
structure Th where
 n:Str
 w:aH
 k:Kd
 s:Option Str
def oS:Option Str->L4.D
 |none=>.non
 |some x=>.str x
def thD(t:Th):L4.D:=.obj 0 ["name", "words", "kind", "start"] [.str t.n,.tup (t.w.map D.str),.str t.k.s,oS t.s]
def As(t:Th):tI uc "name" (thD t)=Z (.str t.n):=rfl
def KR(t:Th):tI wq "words" (thD t)=Z (.tup (t.w.map D.str)):=rfl
def yV(t:Th):tI ua "kind" (thD t)=Z (.str t.k.s):=rfl
def GO(t:Th):tI vg "start" (thD t)=Z (oS t.s):=rfl
def Dl(a b:Kd):dEq δ (.str a.s) (.str b.s)=Z (.bl (decide (a=b))):=by ext a<;>ext b<;>kernel_rfl
def GP(t:Th):yd [thD t]=Z (.bl t.k.hd):=by let#v[n,w,k,s]:=t;ext k<;>kernel_rfl
def OO(t:Th):AL [thD t]=Z (.bl t.k.mk):=by let#v[n,w,k,s]:=t;ext k<;>kernel_rfl
def EN(t:Th):xw [thD t]=Z (.bl t.k.pl):=by let#v[n,w,k,s]:=t;ext k<;>kernel_rfl
def V1(t:Th):uI [.str t.k.s,GN]=Z (.bl γ):=by let#v[n,w,k,s]:=t;ext k<;>kernel_rfl
abbrev TD(T:List Th):L4.D:=.lst (T.map thD)
def count_eq(T:List Th)(hl:T.length<=1000)(k:Kd):Bd [TD T,.str k.s]=Z (.int (T.filter λt=>decide (t.k=k)).length):=by calc tE (ρ:=[.im (TD T),.im (.str k.s)]) O ?_;calc tL (uu (uT (yk thD thD (λt=>decide (t.k=k)) T (ρ1:=[.im (TD T),.im (.str k.s)]) O hl λt _=>⟨[.im (thD t),.im (.str k.s)],[.im (thD t),.im (.str k.s)],O,uz (tD (uu O (yV t)) O (Dl t.k k)),λ_=>⟨_,O,O⟩,λ_=>O⟩)) ?_);change Z (D.int _)=_;rw[aq]
def Au(T:List Th)(hl:T.length<=1000):wR [TD T]=Z ((T.filter λt=>t.k.pl).map thD):=by calc yL (ρ:=[.im (TD T)]) O ?_;show xh (yk thD thD (λt=>t.k.pl) T (ρ1:=[.im (TD T)]) O hl λt _=>⟨[.im (thD t)],[.im (thD t)],O,uz (tW (xs:=[.str t.n,.tup (t.w.map D.str),.str t.k.s,oS t.s]) (ys:=[]) O O O O (EN t)),λ_=>⟨_,O,O⟩,λ_=>O⟩)
def EO{a b c:FE}{ρ:aJ}{x y z:Int}(h1:a ρ=Z (.int x,ρ))(h2:b ρ=Z (.int y,ρ))(h3:c ρ=Z (.int z,ρ))(hx:x<=y)(hy:y<=z):w5 yx yx a b c ρ=Z (.bl γ,ρ):=by
 delta w5;rw[h1];erw[h2];have e1:yx (.int x) (.int y)=Z (.bl γ):=by change Z (D.bl (decide (x<=y)))=_;rw[bh hx]
 have e2:yx (.int y) (.int z)=Z (.bl γ):=by change Z (D.bl (decide (y<=z)))=_;rw[bh hy]
 erw[e1,h3,e2]
def OP{a b:FE}{ρ:aJ}{x y:Int}(h1:a ρ=Z (.int x,ρ))(h2:b ρ=Z (.int y,ρ))(hx:x<=y):c2 yx a b ρ=Z (.bl γ,ρ):=tD h1 h2 (by
 change Z (D.bl (decide (x<=y)))=_;rw[bh hx])
def Gx(T:List Th)(hl:T.length<=1000)(h1:1<=(T.filter λt=>decide (t.k=.room)).length)(h5:(T.filter λt=>decide (t.k=.room)).length<=5)(hy:(T.filter λt=>decide (t.k=.you)).length=1)(h7:(T.filter λt=>t.k.pl).length<=7):
  zC [TD T]=Z .non:=by
 let ρ:aJ:=[.im (TD T),.im (.bl γ)];calc Ae (ρ:=ρ) O ?_;delta zB;rw[tu (show _=Z (Out.nx ρ) from(tQ ((tY O).trans (ym thD T (ρ1:=[.im (TD T),.un]) O hl λt _=>⟨_,_,O,O,O⟩))).trans O)];rw[tu (wg (ρ1:=ρ) O)];rw[tu (wg (ρ1:=ρ) (ym thD T O hl λt _=>⟨[.im (thD t)],[.im (thD t)],O,tf (sZ (uu O (yV t)) (sZ O O)) (V1 t),O⟩))];rw[tu (wg (ρ1:=ρ) (EO (x:=1) (y:=(T.filter λt=>decide (t.k=.room)).length) (z:=5) O (tf (ds:=[TD T,.str Kd.room.s]) O (count_eq T hl .room)) O () ()))];rw[tu (wg (ρ1:=ρ) (tD (ρ1:=ρ) (x:=.int (T.filter λt=>decide (t.k=.you)).length) (y:=.int 1) (tf (ds:=[TD T,.str Kd.you.s]) O (count_eq T hl .you)) O (by rw[hy];rfl)))];calc wg (ρ1:=ρ) (OP (x:=(T.filter λt=>t.k.pl).length) (y:=7) (uu (uT (tf O (Au T hl))) ?_) O ());change Z (D.int _)=_;rw[aq]
structure Mk where
 n:Str
 st:Int
 mo:Int
def mkD(m:Mk):L4.D:=.obj 1 ["name", "start", "most"] [.str m.n,.int m.st,.int m.mo]
def Mk.ok(m:Mk):Prop:=1<=m.mo/\m.mo<=3/\0<=m.st/\m.st<=m.mo
abbrev MD(M:List Mk):L4.D:=.lst (M.map mkD)
def KU(m:Mk):tI uc "name" (mkD m)=Z (.str m.n):=rfl
def Ny(m:Mk)(h:m.ok):Fd [mkD m]=Z (.bl γ):=by let#v[h1,h2,h3,h4]:=h;calc tE (ρ:=[.im (mkD m)]) O ?_;delta Fc;rw[tu (show _=Z (Out.nx [.im (mkD m)]) from O)];show tL ((tY (EO (x:=1) (y:=m.mo) (z:=3) O O O h1 h2)).trans (EO (x:=0) (y:=m.st) (z:=m.mo) O O O h3 h4))
def Ik(M:List Mk)(hl:M.length<=4)(h:∀m∈M,m.ok):Aj [MD M]=Z .non:=by
 let ρ:aJ:=[.im (MD M),.im (.bl γ)];calc Ae (ρ:=ρ) O ?_;delta Ai;have e0:uK [MD M,yW]=Z (.bl γ):=by calc tE (ρ:=[.im (MD M),.im (.int 4)]) O ?_;calc tL ((tY O).trans (OP (x:=M.length) (y:=4) ?_ O ()));calc uu O ?_;change Z (D.int _)=_;rw[aq]
 rw[tu (show _=Z (Out.nx ρ) from(tQ ((tY (tf (ds:=[MD M,yW]) O e0)).trans (ym mkD M (ρ1:=[.im (MD M),.un]) O () λm hm=>⟨[.im (mkD m)],[.im (mkD m)],O,tf O (Ny m (h m hm)),O⟩))).trans O)];show wg (ρ1:=ρ) O
def rmL:aH:=["hall", "attic", "cellar"]
def plL:List (Str×aH):=[("pin", ["red", "key"]),("crate", ["oak", "key"]),("lantern", ["tin", "lamp"]),("urn", ["grey", "stone"]),("o", ["wet", "stone"])]
def mkL:aH:=["tide", "sun"]
def nmL:aH:=rmL++("self" : Str)::plL.map jB++mkL
def Nm(x:Str):Prop:=x∈nmL
def isT:Option L4.D->Bool
 |some (.bl b)=>b
 |_=>δ
def CA{o:Option L4.D}(h:isT o=γ):o=Z (.bl γ):=by
 delta isT at h;split at h
 .rw[h]
 .ext h
def isF:Option L4.D->Bool
 |some (.bl b)=>!b
 |_=>δ
def NA{o:Option L4.D}(h:isF o=γ):o=Z (.bl δ):=by
 delta isF at h;split at h
 .rw[d6]at h;rw[h]
 .ext h
def NB{x:Str}(h:Nm x):wN [.str x]=Z (.bl γ):=CA (bc.mp (show (nmL.all λx=>isT (wN [.str x]))=γ by kernel_rfl) x h)
def DQ{l:aH}(h:l.Nodup)(hl:l.length<=1000):wa [.lst (l.map D.str)]=Z (.bl γ):=by
 calc tE (ρ:=[.im (.lst (l.map D.str))]) O ?_;refine tL (tD (x:=.int l.length) (y:=.int l.length) (uu O (VH (L0 h hl))) (uu O ?_) ?_)
 .change Z (D.int _)=_;rw[aq]
 .rw[yp];simp
def Il(T:List Th)(M:List Mk)(hT:T.length<=400)(hM:M.length<=400)(hn:∀x∈T.map Th.n++M.map Mk.n,Nm x)(nd:(T.map Th.n++M.map Mk.n).Nodup):Al [TD T,MD M]=Z .non:=by
 have hl:(T.map Th.n++M.map Mk.n).length<=1000:=by rw[aM,aq,aq];omega
 let ρ0:aJ:=[.im (TD T),.im (MD M),.un];let ρ:aJ:=[.im (TD T),.im (MD M),.im (.lst ((T.map Th.n++M.map Mk.n).map D.str))];calc Ae (ρ:=ρ) O ?_;delta Ak;have e1:tR 1 [] (iL ab) (gN 0) uQ (c1 (tI uc "name") ab) ρ0=Z (T.map λt=>D.str t.n,ρ0):=xg thD (λt=>D.str t.n) T O () λt _=>⟨_,_,O,uu O (As t),O⟩;have e2:tR 1 [] (iL ai) (gN 0) uQ (c1 (tI uc "name") ab) ρ0=Z (M.map λt=>D.str t.n,ρ0):=xg mkD (λt=>D.str t.n) M O () λt _=>⟨_,_,O,uu O (KU t),O⟩;have e3:=tQ (i:=2) (uT (w6 (uT e1) (uT e2) (by rw[aq,aq];omega)));refine(tu (ρ':=ρ) (e3.trans (by
  have:(T.map λt=>D.str t.n)++(M.map λt=>D.str t.n)=(T.map Th.n++M.map Mk.n).map D.str:=by rw[bK,br,br];rfl
  rw[this];rfl))).trans ?_
 rw[tu (wg (ρ1:=ρ) (ym D.str (T.map Th.n++M.map Mk.n) O hl λx hx=>⟨_,_,O,tf O (NB (hn x hx)),O⟩))];show wg (ρ1:=ρ) (tf O (DQ nd hl))
def rmN(T:List Th):aH:=(T.filter λt=>decide (t.k=.room)).map Th.n
def hdN(T:List Th):aH:=(T.filter λt=>t.k.hd).map Th.n
abbrev jI:=(cC (.str "room"))
def Im{ρ:aJ}(T:List Th)(hl:T.length<=1000){i:Nat}(hi:cV i ρ=Z (TD T,ρ)):tR 1 [] (iL (cV i)) (gN 0) (cT (c2 (dEq δ) (c1 (tI ua "kind") ab) jI)) (c1 (tI uc "name") ab) ρ=Z ((rmN T).map D.str,ρ):=by
 have hs:iL (cV i) ρ=Z (T.map thD,ρ):=by delta iL;rw[hi]
 have:=yk (k:=1) (cap:=[]) (g:=gN 0) (ft:=cT (c2 (dEq δ) (c1 (tI ua "kind") ab) jI)) (fe:=c1 (tI uc "name") ab) thD (λt=>D.str t.n) (λt=>decide (t.k=.room)) T hs hl λt _=>⟨[.im (thD t)],[.im (thD t)],O,uz (tD (uu O (yV t)) O (Dl t.k .room)),λ_=>⟨_,uu O (As t),O⟩,λ_=>O⟩
 rw[this];delta rmN;rw[br];rfl
def NC{ρ:aJ}(T:List Th)(hl:T.length<=1000){i:Nat}(hi:cV i ρ=Z (TD T,ρ)):tR 1 [] (iL (cV i)) (gN 0) (cT (tK uJ "can_hold" ab uk)) (c1 (tI uc "name") ab) ρ=Z ((hdN T).map D.str,ρ):=by
 have hs:iL (cV i) ρ=Z (T.map thD,ρ):=by delta iL;rw[hi]
 have:=yk (k:=1) (cap:=[]) (g:=gN 0) (ft:=cT (tK uJ "can_hold" ab uk)) (fe:=c1 (tI uc "name") ab) thD (λt=>D.str t.n) (λt=>t.k.hd) T hs hl λt _=>⟨[.im (thD t)],[.im (thD t)],O,uz (tW (xs:=[.str t.n,.tup (t.w.map D.str),.str t.k.s,oS t.s]) (ys:=[]) O O O O (GP t)),λ_=>⟨_,uu O (As t),O⟩,λ_=>O⟩
 rw[this];delta hdN;rw[br];rfl
def zk{x:Str}{l:aH}(h:x∈l):uI [.str x,.lst (l.map D.str)]=Z (.bl γ):=by calc tE (ρ:=[.im (.str x),.im (.lst (l.map D.str))]) O ?_;calc tL ((tY O).trans (tD O O ?_));rw[yz];simp[h]
def Jd(dk rm:aH)(hl:dk.length<=1000)(nd:dk.Nodup)(h:∀x∈dk,x∈rm):Bf [.lst (dk.map D.str),.lst (rm.map D.str)]=Z .non:=by let ρ0:aJ:=[.im (.lst (dk.map D.str)),.im (.lst (rm.map D.str)),.un];let ρ:aJ:=[.im (.lst (dk.map D.str)),.im (.lst (rm.map D.str)),.im (.bl γ)];calc Ae (ρ:=ρ) O ?_;delta Be;rw[tu (show _=Z (Out.nx ρ) from(tQ ((tY (ρ1:=ρ0) O).trans ((tY (ym D.str dk (ρ1:=ρ0) O hl λx hx=>⟨[.im (.str x),.im (.lst (rm.map D.str))],[.im (.str x),.im (.lst (rm.map D.str))],O,tf O (zk (h x hx)),O⟩)).trans (tf (ρ1:=ρ0) O (DQ nd hl))))).trans O)];show wg (ρ1:=ρ) O
def CO(T:List Th)(t:Th):Prop:=match t.k,t.s with
 |.room,J=>True
 |.room,Z _=>False
 |_,J=>False
 |.you,Z x=>x∈rmN T
 |_,Z x=>x∈hdN T
def Me(T:List Th)(hl:T.length<=1000)(t:Th)(h:CO T t):DC [TD T,thD t]=Z (.bl γ):=by
 calc tE (ρ:=[.im (TD T),.im (thD t)]) O ?_;delta DB;let#v[n,w,k,s]:=t;have els:∀k:Kd,k≠.room->k≠.you->∀x,x∈hdN T->(tw (sIf (cT (c2 (dEq δ) (c1 (tI ua "kind") ai) jI)) (tG (c2 xN (c1 (tI vg "start") ai) aE)) tN)
   (tw (sIf (cT (c2 (dEq δ) (c1 (tI ua "kind") ai) (cC (.str "you")))) (tG (tq uI (aCons (c1 (tI vg "start") ai) (aCons (cL (tR 1 [] (iL ab) (gN 0) (cT (c2 (dEq δ) (c1 (tI ua "kind") ab) jI)) (c1 (tI uc "name") ab))) uk)))) tN)
   (tG (tq uI (aCons (c1 (tI vg "start") ai) (aCons (cL (tR 1 [] (iL ab) (gN 0) (cT (tK uJ "can_hold" ab uk)) (c1 (tI uc "name") ab))) uk)))))) [.im (TD T),.im (thD ⟨n,w,k,Z x⟩)]=Z (.rt (.bl γ) [.im (TD T),.im (thD ⟨n,w,k,Z x⟩)]):=λk h1 h2 x hx=>by
  let ρ:aJ:=[.im (TD T),.im (thD ⟨n,w,k,Z x⟩)];rw[tu (show _=Z (Out.nx ρ) from(uo (ρ':=ρ) (uz (tD (ρ1:=ρ) (ρ2:=ρ) (uu O (yV _)) O ((Dl k .room).trans (by rw[bj h1]))))).trans O)];rw[tu (show _=Z (Out.nx ρ) from(uo (ρ':=ρ) (uz (tD (ρ1:=ρ) (ρ2:=ρ) (uu O (yV _)) O ((Dl k .you).trans (by rw[bj h2]))))).trans O)];show tL (tf (sZ (uu O (GO _)) (sZ (uT (NC T hl O)) O)) (zk hx))
 cases k with
 |room=>
  cases s with
  |none=>rfl
  |some x=>show h.elim
 |you=>
  cases s with
  |none=>show h.elim
  |some x=>let ρ:aJ:=[.im (TD T),.im (thD ⟨n,w,.you,Z x⟩)];rw[tu (show _=Z (Out.nx ρ) from O)];calc tZ ((ud (ρ':=ρ) O).trans ?_);show tL (tf (sZ (uu O (GO _)) (sZ (uT (Im T hl O)) O)) (zk h))
 |plain=>cases s with
  |none=>show h.elim
  |some x=>show els .plain #[] #[] x h
 |fixed=>cases s with
  |none=>show h.elim
  |some x=>show els .fixed #[] #[] x h
 |box=>cases s with
  |none=>show h.elim
  |some x=>show els .box #[] #[] x h
 |lamp=>cases s with
  |none=>show h.elim
  |some x=>show els .lamp #[] #[] x h
def kS(x:Str):Key:=Sum.inr x
def Mg{i:Nat}{fk fv:FE}{ρ:aJ}{ks:List Key}{ds:List L4.D}{x:Str}{d:L4.D}(h1:fv ρ=Z (d,ρ))(h2:ρ[i]?=Z (.dk ks ds))(h3:fk ρ=Z (.str x,ρ))(hn:kS x∉ks)(hl:ks.length<1000)(he:ds.length=ks.length):
  ya i fk fv ρ=Z (.nx (ρ.set i (.dk (ks++[kS x]) (ds++[d])))):=by
 have hk:Gu ks (kS x)=δ:=by delta Gu;rw[oq];intro z;let#v[y,hy,ey]:=ip.mp z;show hn (by rw[<-bF ey];show hy)
 delta ya;rw[h1];erw[h2,h3];rw[show AA (.str x)=Z (kS x) from O];simp only;rw[ao hl,ao he,hk];rfl
section
variable{α:Type}{g:FG}{i:Nat}{fk fv:FE}
theorem AU(dd:α->L4.D)(kf:α->Str)(vf:α->L4.D)(st:List Key->List L4.D->Sl->aJ)
  (hs:∀(a:α) (ks:List Key) (ds:List L4.D) (s:Sl),∃ρ1,g (dd a) (st ks ds s)=Z ρ1/\fv ρ1=Z (vf a,ρ1)/\ρ1[i]?=Z (.dk ks ds)/\fk ρ1=Z (.str (kf a),ρ1)/\∀ks' ds',∃s',ρ1.set i (.dk ks' ds')=st ks' ds' s'):
  ∀(l:List α) (ks:List Key) (ds:List L4.D) (s:Sl),(ks++l.map λa=>kS (kf a)).Nodup->ks.length+l.length<=1000->ds.length=ks.length->
   ∃s',forL g (ya i fk fv) (l.map dd) (st ks ds s)=Z (.nx (st (ks++l.map λa=>kS (kf a)) (ds++l.map vf) s'))
 |[],ks,ds,s,_,_,_=>⟨s,by rw[fR,fR,fR,bQ,bQ];rfl⟩
 |a::l,ks,ds,s,nd,hl,he=>by
  let#v[ρ1,h1,h2,h3,h4,h5]:=hs a ks ds s;let#v[s1,h6]:=h5 (ks++[kS (kf a)]) (ds++[vf a]);rw[aT]at hl;have nd':((ks++[kS (kf a)])++l.map λa=>kS (kf a)).Nodup:=by rw[cp];show nd
  have hn:kS (kf a)∉ks:=λz=>by rw[cq]at nd;show nd.2.2 _ z _ (by rw[aN];show aR) O
  let#v[s',h7]:=AU dd kf vf st hs l (ks++[kS (kf a)]) (ds++[vf a]) s1 nd' (by rw[aM,cW];omega) (by rw[aM,aM,he,cW,cW]);calc⟨s',?_⟩;rw[aN];delta forL;rw[h1];erw[Mg h2 h3 h4 hn () he,h6];rw[h7,aN,aN,cp,cp];rfl
end
def nK(T:List Th):List Key:=T.map λt=>kS t.n
def ND{a b:Str}(h:kS a=kS b):a=b:=iz h
def S4{T:List Th}(h:(T.map Th.n).Nodup):(nK T).Nodup:=by have:=AD h;rw[br]at this;show this
def ER{T:List Th}(h:(T.map Th.n).Nodup)(vf:Th->L4.D){t:Th}(ht:t∈T):vp (nK T) (T.map vf) (kS t.n)=Z (vf t):=by calc xQ (S4 h) ?_;delta nK;rw[eV];show bT (f:=λt=>(kS t.n,vf t)) ht
def KW(T:List Th)(r:Str->Nat):Prop:=∀t∈T,r t.n<T.length/\∀p,t.s=Z p->r p<r t.n/\∃u∈T,u.n=p
def stD(T:List Th):L4.D:=.dic (nK T) (T.map λt=>oS t.s)
def S5(T:List Th)(hl:T.length<=1000)(nd:(T.map Th.n).Nodup)(r:Str->Nat)(hr:KW T r)(t:Th)(ht:t∈T):wb [stD T,.str t.n]=Z (.bl γ):=by
 have loop:∀(m:Nat) (l:List L4.D),l.length=m->∀(a:Option Str) (s:Sl),(∀x,a=Z x->(∃u∈T,u.n=x)/\r x<m)->
   (∃ρ,forL (gN 3) (tw (sIf (cT (c2 xN aj aE)) (tG cI) tN) (tV 2 (c2 CV ab aj))) l [.im (stD T),.im (.str t.n),.im (oS a),s]=Z (.rt (.bl γ) ρ))\/
   (∃s',forL (gN 3) (tw (sIf (cT (c2 xN aj aE)) (tG cI) tN) (tV 2 (c2 CV ab aj))) l [.im (stD T),.im (.str t.n),.im (oS a),s]=Z (.nx [.im (stD T),.im (.str t.n),.im .non,s'])):=by
  intro m
  induction m with
  |zero=>
   intro l h a s ha;cases l with
   |cons d l=>cases h
   |nil=>
    cases a with
    |none=>show .inr ⟨s,O⟩
    |some x=>show ar (ha x O).2 (Nat.not_lt_zero _)
  |succ m ih=>
   intro l h a s ha;cases l with
   |nil=>cases h
   |cons d l=>
    cases a with
    |none=>calc .inl ⟨[.im (stD T),.im (.str t.n),.im .non,.im d],?_⟩;delta forL;rw[show gN 3 d [.im (stD T),.im (.str t.n),.im (oS J),s]=Z [.im (stD T),.im (.str t.n),.im .non,.im d] from O];rfl
    |some x=>
     let#v[#v[u,hu,rfl],hx]:=ha x O;have e:tw (sIf (cT (c2 xN aj aE)) (tG cI) tN) (tV 2 (c2 CV ab aj)) [.im (stD T),.im (.str t.n),.im (.str u.n),.im d]=Z (.nx [.im (stD T),.im (.str t.n),.im (oS u.s),.im d]):=by calc(tu (ρ':=[.im (stD T),.im (.str t.n),.im (.str u.n),.im d]) O).trans ?_;show(tQ (tD O O (ER nd (λt=>oS t.s) hu))).trans O
     have key:=ih l (by exists h) u.s (.im d) λy hy=>by let#v[h1,h2]:=hr u hu;let#v[h3,h4]:=h2 y hy;show⟨h4,by omega⟩
     delta forL;rw[show gN 3 d [.im (stD T),.im (.str t.n),.im (oS (Z u.n)),s]=Z [.im (stD T),.im (.str t.n),.im (.str u.n),.im d] from O];erw[e];show key
 let#v[h1,h2]:=hr t ht;have l0:=loop T.length (CT 0 T.length) (by delta CT;simp) t.s .un λx hx=>⟨(h2 x hx).2,by have:=(h2 x hx).1;omega⟩;have e0:tV 2 (c2 CV ab ai) [.im (stD T),.im (.str t.n),.un,.un]=Z (.nx [.im (stD T),.im (.str t.n),.im (oS t.s),.un]):=(tQ (tD O O (ER nd (λt=>oS t.s) ht))).trans O;have e1:iR1 (c1 vv ab) [.im (stD T),.im (.str t.n),.im (oS t.s),.un]=Z (CT 0 T.length,[.im (stD T),.im (.str t.n),.im (oS t.s),.un]):=by delta iR1;rw[show c1 vv ab [.im (stD T),.im (.str t.n),.im (oS t.s),.un]=Z (.int T.length,[.im (stD T),.im (.str t.n),.im (oS t.s),.un]) from uu O (by change Z (D.int _)=_;delta nK;rw[aq])];simp only;rw[ao (),d5]
 rcases l0 with ⟨ρ,q⟩|⟨s',q⟩
 .calc tE (ρ:=ρ) O ?_;refine(tu e0).trans (tZ ((uO e1).trans q))
 .calc tE (ρ:=[.im (stD T),.im (.str t.n),.im .non,s']) O ?_;calc(tu e0).trans ((tu ((uO e1).trans q)).trans O)
def Gy(T:List Th)(hl:T.length<=900)(nd:(T.map Th.n).Nodup)(r:Str->Nat)(hr:KW T r)(hs:∀t∈T,CO T t):zF [TD T]=Z .non:=by
 let#v[s',e1]:=AU (g:=gN 2) (i:=1) (fk:=c1 (tI uc "name") aj) (fv:=c1 (tI vg "start") aj) thD Th.n (λt=>oS t.s) (λks ds s=>[.im (TD T),.dk ks ds,s])
  (λt ks ds s=>⟨[.im (TD T),.dk ks ds,.im (thD t)],O,uu O (GO t),O,uu O (As t),λks' ds'=>⟨_,O⟩⟩) T [] [] .un (by rw[cz];show S4 nd) (by simp;omega) O
 calc Ae (ρ:=[.im (TD T),.im (stD T),s']) O ?_;delta zD;calc(tu (wg (ρ1:=[.im (TD T),.un,.un]) (ym thD T O () λt ht=>⟨[.im (thD t),.im (TD T)],[.im (thD t),.im (TD T)],O,tf O (Me T () t (hs t ht)),O⟩))).trans ?_;calc(tu (ρ':=[.im (TD T),.dk [] [],.un]) O).trans ?_;calc(tu ((uO O).trans e1)).trans ?_;have src:iD (cFz 1) [.im (TD T),.dk ([]++T.map λa=>kS a.n) ([]++T.map λt=>oS t.s),s']=Z ((T.map λt=>D.str t.n),[.im (TD T),.im (stD T),s']):=by rw[cz,cz];delta iD;rw[show cFz 1 [.im (TD T),.dk (T.map λa=>kS a.n) (T.map λt=>oS t.s),s']=Z (stD T,[.im (TD T),.im (stD T),s']) from O];change (if (nK T).length=(T.map λt=>oS t.s).length then Z ((nK T).map YO,_)else J)=_;delta nK;rw[ao (by rw[aq,aq]),br];rfl
 show wg (ρ1:=[.im (TD T),.im (stD T),s']) (ym (λt:Th=>D.str t.n) T src () λt ht=>⟨[.im (.str t.n),.im (stD T)],[.im (.str t.n),.im (stD T)],O,tf O (S5 T () nd r hr t ht),O⟩)
def KY(l:List Th)(r:Th):Prop:=(r.k=.room/\r.s=J)\/(r.k=.you/\∃u∈l,r.s=Z u.n/\u.k=.room)\/(r.k.pl=γ/\∃u∈l,r.s=Z u.n/\u.k.hd=γ)
inductive Ord:List Th->Prop
 |nil:Ord []
 |snoc {l:List Th} {r:Th} (h:Ord l) (h':KY l r):Ord (l++[r])
def KY.mono{l l':List Th}{r:Th}(h:KY l r)(hs:∀u∈l,u∈l'):KY l' r:=by
 rcases h with h|⟨h1,u,h2,h3⟩|⟨h1,u,h2,h3⟩
 .show .inl h
 .show .inr (.inl ⟨h1,u,hs u h2,h3⟩)
 .show .inr (.inr ⟨h1,u,hs u h2,h3⟩)
def Ord.all{l:List Th}(h:Ord l):∀r∈l,KY l r:=by
 induction h with
 |nil=>show λr hr=>(cw hr).elim
 |snoc h h' ih=>
  intro r hr;rcases ba.mp hr with hr|hr
  .show(ih r hr).mono λu hu=>bO _ hu
  .rw[aY]at hr;subst hr;show h'.mono λu hu=>bO _ hu
def KY.start{l:List Th}{r:Th}(h:KY l r){p:Str}(hp:r.s=Z p):∃u∈l,u.n=p:=by
 rcases h with ⟨_,h⟩|⟨_,u,h2,h3,_⟩|⟨_,u,h2,h3,_⟩
 .rw[h]at hp;ext hp
 .rw[h3]at hp;ext hp;show⟨u,h2,O⟩
 .rw[h3]at hp;ext hp;show⟨u,h2,O⟩
def Ord.rank{l:List Th}(h:Ord l):(l.map Th.n).Nodup->∃rk:Str->Nat,∀t∈l,rk t.n<l.length/\∀p,t.s=Z p->rk p<rk t.n/\∃u∈l,u.n=p:=by
 induction h with
 |nil=>show λ_=>⟨λ_=>0,λt ht=>(cw ht).elim⟩
 |@snoc l r h h' ih=>
  intro nd;rw[bK,cq]at nd;let#v[rk,hk]:=ih nd.1;have ne:∀u∈l,u.n≠r.n:=λu hu z=>nd.2.2 _ (bT hu) _ (by simp) z;calc⟨λx=>if x=r.n then l.length else rk x,λt ht=>?_⟩;rw[aM,cW];dsimp only;rcases ba.mp ht with ht|ht
  .let#v[h1,h2]:=hk t ht;rw[ak (ne t ht)];calc⟨by omega,λp hp=>?_⟩;let#v[h3,u,hu,rfl]:=h2 p hp;rw[ak (ne u hu)];show⟨h3,u,bO _ hu,O⟩
  .rw[aY]at ht;subst ht;rw[ao O];calc⟨by omega,λp hp=>?_⟩;let#v[u,hu,rfl]:=h'.start hp;rw[ak (ne u hu)];show⟨(hk u hu).1,u,bO _ hu,O⟩
def aau{ds:List L4.D}(k:Nat)(h:k<=ds.length):cutD ds J (Z (k:Int))=ds.take k:=by delta cutD;rw[HT.QZ,HT.UC,Nat.min_eq_left h,List.drop_zero,Nat.sub_zero]
def wdL:List (Str×aH):=rmL.map (λx:Str=>(x,(["big", "room"]:aH)))++(("self", ["self"]):Str×aH)::plL
def Th.nw(t:Th):Str×aH:=(t.n,t.w)
def CP(t:Th):Prop:=t.nw∈wdL/\(t.k.pl=γ->t.nw∈plL)
def KZ{t:Th}(h:CP t):zX [.tup (t.w.map D.str)]=Z (.bl γ):=CA (bc.mp (show (wdL.all λq=>isT (zX [.tup (q.2.map D.str)]))=γ by kernel_rfl) t.nw h.1)
def NF(t u:Th)(ht:t.nw∈plL)(hu:u.nw∈plL)(hne:u.n≠t.n):AM [.tup (u.w.map D.str),.tup (t.w.map D.str)]=Z (.bl δ):=by
 have h:=bc.mp (bc.mp (show (plL.all λp=>plL.all λq=>decide (q.1=p.1)||isF (AM [.tup (q.2.map D.str),.tup (p.2.map D.str)]))=γ by kernel_rfl) t.nw ht) u.nw hu;rw[jk]at h;rcases h with h|h
 .show ar (bF h) hne
 .show NA h
def Je(P:List Th)(hl:P.length<=900)(hw:∀t∈P,t.nw∈plL)(t:Th)(ht:t.nw∈plL):yO [TD P,thD t]=Z (.bl γ):=by
 let A':=P.filter λu=>!decide (u.n=t.n);let ρ:aJ:=[.im (TD P),.im (thD t),.im (TD A')];have hO:A'.length<=900:=bM (cK _ _) hl;calc tE (ρ:=ρ) O ?_;delta yN;calc(tu (ρ':=ρ) ((tQ (uT (yk thD thD (λu=>!decide (u.n=t.n)) P (ρ1:=[.im (TD P),.im (thD t),.un]) O () λu _=>⟨[.im (thD u),.im (thD t)],[.im (thD u),.im (thD t)],O,uz (tD (uu O (As u)) (uu O (As t)) (vG γ u.n t.n)),λ_=>⟨_,O,O⟩,λ_=>O⟩))).trans O)).trans ?_;have e:c1 Gv (cL (tR 1 [1] (iL aj) (gN 0) uQ (tq AM (aCons (c1 (tI wq "words") ab) (aCons (c1 (tI wq "words") ai) uk))))) ρ=Z (.bl δ,ρ):=
  SZ thD A' O () λu hu=>⟨[.im (thD u),.im (thD t)],[.im (thD u),.im (thD t)],O,tf (sZ (uu O (KR u)) (sZ (uu O (KR t)) O)) (NF t u ht (hw u (aZ.mp hu).1) (by exists (aZ.mp hu).2)),O⟩
 calc tL ?_;delta Gs;rw[e];rfl
def Io(T:List Th)(hl:T.length<=900)(hw:∀t∈T,CP t):v3 [TD T]=Z .non:=by let P:=T.filter λt=>t.k.pl;have hP:P.length<=900:=bM (cK _ _) hl;have hwP:∀t∈P,t.nw∈plL:=λt ht=>(hw t (aZ.mp ht).1).2 (aZ.mp ht).2;let ρ:aJ:=[.im (TD T),.im (TD P)];calc Ae (ρ:=ρ) O ?_;delta vZ;calc(tu (wg (ρ1:=[.im (TD T),.un]) (ym thD T O () λt ht=>⟨[.im (thD t)],[.im (thD t)],O,tf (sZ (uu O (KR t)) O) (KZ (hw t ht)),O⟩))).trans ?_;calc(tu (ρ':=ρ) ((tQ (uT (tf O (Au T ())))).trans O)).trans ?_;show wg (ρ1:=ρ) (ym thD P O () λt ht=>⟨[.im (thD t),.im (TD P)],[.im (thD t),.im (TD P)],O,tf O (Je P hP hwP t (hwP t ht)),O⟩)
def K0{e:FE}{b:Bool}{ρ ρ1:aJ}(h:e ρ=Z (.bl b,ρ1)):Gs e ρ=Z (.bl !b,ρ1):=by delta Gs;rw[h]
def Ip{l m:aH}{d:L4.D}(hd:d=.lst (m.map D.str)\/d=.tup (m.map D.str))(hl:l.length<=900)(h:∀x∈l,x∉m):yD [.lst (l.map D.str),d]=Z (.bl γ):=by
 let ρ:aJ:=[.im (.lst (l.map D.str)),.im d];calc tE (ρ:=ρ) O ?_;have e:c1 Gv (cL (tR 1 [1] (iL ab) (gN 0) uQ (c2 (dIn δ) ab ai))) ρ=Z (.bl δ,ρ):=SZ D.str l O () λx hx=>⟨[.im (.str x),.im d],[.im (.str x),.im d],O,tD O O (by
  rcases hd with rfl|rfl
  .rw[yz];simp[h x hx]
  .rw[yA];simp[h x hx]),O⟩
 show tL (K0 e)
structure Vb where
 n:Str
 o:aH
 f:Str
 j:Option Str
def vbO(v:Vb):L4.D:=.obj 2 ["name", "others", "form", "joining"] [.str v.n,.tup (v.o.map D.str),.str v.f,oS v.j]
def v6:List Vb:=[⟨"pray", ["beg"],"alone", J⟩,⟨"rub", [],"one", J⟩,⟨"peer", ["gaze"],"way", J⟩,⟨"tie", [],"two", Z "with"⟩]
def v9:List Vb:=[⟨"take", [],"one", J⟩,⟨"drop", [],"one", J⟩,⟨"open", [],"one", J⟩,⟨"shut", [],"one", J⟩,⟨"light", [],"one", J⟩,⟨"douse", [],"one", J⟩,⟨"put", [],"two", Z "in"⟩,⟨"go", [],"way", J⟩,⟨"wait", [],"alone", J⟩]
abbrev VD(V:List Vb):L4.D:=.lst (V.map vbO)
def S6:xV []=Z (v9.map vbO):=by kernel_rfl
def Vb.ws(v:Vb):aH:=v.n::v.o
def vW:aH:=(v6++v9).flatMap Vb.ws
def bW:aH:=["with", "in", "north", "south"]
def Iq:yq [VD v6]=Z .non:=by kernel_rfl
def OQ:((v6++v9).flatMap Vb.ws).Nodup:=by decide +kernel
def vws{V:List Vb}(h:∀v∈V,v∈v6):∀x∈(V++v9).flatMap Vb.ws,x∈vW:=λx hx=>by
 let#v[v,hv,hx]:=d8.mp hx;calc d8.mpr ⟨v,?_,hx⟩;rcases ba.mp hv with hv|hv
 .show bO _ (h v hv)
 .show bE _ hv
structure Wy where
 r:Str
 w:Str
 g:Str
 m:Option Str
def wyO(w:Wy):L4.D:=.tup [.str w.r,.str w.w,.str w.g,oS w.m]
abbrev WD(W:List Wy):L4.D:=.lst (W.map wyO)
def mkN(T:List Th)(M:List Mk):aH:=(T.filter λt=>t.k.mk).map Th.n++M.map Mk.n
structure Qq(T:List Th)(M:List Mk)(w:Wy):Prop where
 hr:w.r∈rmN T
 hw:w.w∈(["north", "south"]:aH)
 hg:w.g∈rmN T
 hm:∀x,w.m=Z x->x∈mkN T M
def OR(l:List L4.D)(n:Int)(h:(l.length:Int)<=n):uK [.lst l,.int n]=Z (.bl γ):=by
 have e:uK [.lst l,.int n]=Z (.bl (decide ((l.length:Int)<=n))):=by kernel_rfl
 rw[e,bh h]
def ES{e e':FE}{ρ ρ1:aJ}(h1:e ρ=Z (.bl δ,ρ1)):cOr e e' ρ=e' ρ1:=by delta cOr;rw[h1]
def K1{e e':FE}{ρ ρ1:aJ}(h1:e ρ=Z (.bl γ,ρ1)):cOr e e' ρ=Z (.bl γ,ρ1):=by delta cOr;rw[h1]
def Qr{T:List Th}{M:List Mk}{w:Wy}(h:Qq T M w):HW [wyO w,.lst ((rmN T).map D.str),.lst ((mkN T M).map D.str)]=Z (.bl γ):=by
 let R:L4.D:=.lst ((rmN T).map D.str);let K:L4.D:=.lst ((mkN T M).map D.str);let ρ:aJ:=[.im (wyO w),.im R,.im K,.un];let σ:aJ:=[.im (wyO w),.im R,.im K,.im (.bl γ)];calc tE (ρ:=σ) O ?_;delta HV;calc(tu (ρ':=ρ) O).trans ?_;have e3:cOr (c2 xN (c2 dIx ab bx) aE) (tq uI qR) ρ=Z (.bl γ,ρ):=by
  let#v[r,x,g,m]:=w;cases m with
  |none=>rfl
  |some y=>show(ES (ρ1:=ρ) O).trans (tf (ds:=[.str y,K]) O (zk (h.hm y O)))
 calc(tu (ρ':=σ) ((tQ e3).trans O)).trans (tL ?_);have ew:wQ [.str w.w]=Z (.bl γ):=CA (bc.mp (show ((["north", "south"]:aH).all λx=>isT (wQ [.str x]))=γ by kernel_rfl) w.w h.hw);show(tY (tf (ds:=[.str w.r,R]) O (zk h.hr))).trans ((tY (tf (ds:=[.str w.w]) O ew)).trans ((tY (tf (ds:=[.str w.g,R]) O (zk h.hg))).trans O))
def Jf{T:List Th}{M:List Mk}{W:List Wy}(hl:W.length<=2)(h:∀w∈W,Qq T M w)(nd:(W.map λw=>[w.r,w.w]).Nodup):Bi [WD W,.lst ((rmN T).map D.str),.lst ((mkN T M).map D.str)]=Z .non:=by
 let R:L4.D:=.lst ((rmN T).map D.str);let K:L4.D:=.lst ((mkN T M).map D.str);let ρ:aJ:=[.im (WD W),.im R,.im K,.un];let σ:aJ:=[.im (WD W),.im R,.im K,.im (.bl γ)];calc Ae (ρ:=σ) O ?_;delta Bh;calc(tu (ρ':=σ) ((tQ ((tY (tf (ds:=[WD W,Cb]) O (OR _ _ (by rw[aq];omega)))).trans (ym wyO W (ρ1:=ρ) O () λw hw=>⟨[.im (wyO w),.im R,.im K],[.im (wyO w),.im R,.im K],O,tf O (Qr (h w hw)),O⟩))).trans O)).trans ?_;calc(tu (wg (ρ1:=σ) O)).trans (wg (ρ1:=σ) (tf (sZ (uT (xg wyO (λw=>.tup [.str w.r,.str w.w]) W (ρ1:=σ) O () λw _=>⟨[.im (wyO w)],[.im (wyO w)],O,O,O⟩)) O) ?_));refine tE (ρ:=[.im (.lst (W.map λw:Wy=>D.tup [.str w.r,.str w.w]))]) O (tL (tD (x:=.int W.length) (y:=.int W.length) (uu O ?_) (uu O ?_) ?_))
 .match W,hl,nd with
  |[],_,_=>rfl
  |[w],_,_=>rfl
  |[w,u],_,nd=>
   have ne:¬[Sum.inr w.r,(Sum.inr w.w:Key)]=[Sum.inr u.r,Sum.inr u.w]:=λz=>by injection z with z1 z2;injection z2 with z2 _;rw[aN,aN,iz z1,iz z2]at nd;show(dg.mp nd).1 aR
   change (if [Sum.inr w.r,(Sum.inr w.w:Key)]=[Sum.inr u.r,Sum.inr u.w]then J else Z (D.int 2))=_;rw[ak ne];rfl
  |_::_::_::_,hl,_=>rw[aT,aT,aT]at hl;omega
 .change Z (D.int _)=_;rw[aq]
 .rw[yp];simp
def aav{t:Th}(h:t.nw∈plL):t.w.length<=3:=bF (bc.mp (show (plL.all λq=>decide (q.2.length<=3))=γ by kernel_rfl) t.nw h)
theorem Ir{a b c s5 s6 s7:Sl}:∀(P:List Th) (acc:aH) (s:Sl),acc.length+3 * P.length<=900->(∀t∈P,t.nw∈plL)->
  ∃s',forL (gN 4) (uq (BX 3 (c1 (tI wq "words") az))) (P.map thD) [a,b,c,.ls (acc.map D.str),s,s5,s6,s7]=Z (.nx [a,b,c,.ls ((acc++P.flatMap Th.w).map D.str),s',s5,s6,s7])
 |[],acc,s,_,_=>⟨s,by simp;rfl⟩
 |t::P,acc,s,hl,hw=>by
  have h3:=aav (hw t aR);rw[aT]at hl;let#v[s',e]:=Ir P (acc++t.w) (.im (thD t)) (by rw[aM];omega) λu hu=>hw u (aU _ hu);calc⟨s',?_⟩;rw[aN];delta forL;have e1:uq (BX 3 (c1 (tI wq "words") az)) [a,b,c,.ls (acc.map D.str),.im (thD t),s5,s6,s7]=Z (.nx [a,b,c,.ls ((acc++t.w).map D.str),.im (thD t),s5,s6,s7]):=by calc(uX (d:=.non) (ρ':=[a,b,c,.ls ((acc++t.w).map D.str),.im (thD t),s5,s6,s7]) ?_);delta BX;change (if (acc.map D.str).length+(t.w.map D.str).length<=1000 then Z (D.non,[a,b,c,.ls (acc.map D.str++t.w.map D.str),.im (thD t),s5,s6,s7])else J)=_;rw[ao (by rw[aq,aq];omega),bK]
  rw[show gN 4 (thD t) [a,b,c,.ls (acc.map D.str),s,s5,s6,s7]=Z [a,b,c,.ls (acc.map D.str),.im (thD t),s5,s6,s7] from O];erw[e1];rw[e,fG,cp]
theorem OS{a b c s3 s4 s7:Sl}:∀(V:List Vb) (acc:aH) (s:Sl),acc.length+3 * V.length<=900->(∀v∈V,v.o.length<=2)->
  ∃s',forL (gN 6) (uq (BX 5 (FC (uv jP) (c1 (tI wG "others") bb)))) (V.map vbO) [a,b,c,s3,s4,.ls (acc.map D.str),s,s7]=Z (.nx [a,b,c,s3,s4,.ls ((acc++V.flatMap Vb.ws).map D.str),s',s7])
 |[],acc,s,_,_=>⟨s,by simp;rfl⟩
 |v::V,acc,s,hl,hw=>by
  have h3:=hw v aR;rw[aT]at hl;have lw:v.ws.length<=3:=by delta Vb.ws;rw[aT];omega
  let#v[s',e]:=OS (a:=a) (b:=b) (c:=c) (s3:=s3) (s4:=s4) (s7:=s7) V (acc++v.ws) (.im (vbO v)) (by rw[aM];omega) λu hu=>hw u (aU _ hu);calc⟨s',?_⟩;rw[aN];delta forL;let ρ:aJ:=[a,b,c,s3,s4,.ls (acc.map D.str),.im (vbO v),s7];have e0:FC (uv jP) (c1 (tI wG "others") bb) ρ=Z (.tup (v.ws.map D.str),ρ):=by change (if ([]:List L4.D).length+(v.o.map D.str).length<=900 then Z (D.tup (.str v.n::[]++v.o.map D.str),ρ)else J)=_;rw[ao (by rw[aq];erw[fL];omega)];rfl
  have e1:uq (BX 5 (FC (uv jP) (c1 (tI wG "others") bb))) ρ=Z (.nx [a,b,c,s3,s4,.ls ((acc++v.ws).map D.str),.im (vbO v),s7]):=by calc uX (d:=.non) ?_;delta BX;rw[e0];change (if (acc.map D.str).length+(v.ws.map D.str).length<=1000 then Z (D.non,[a,b,c,s3,s4,.ls (acc.map D.str++v.ws.map D.str),.im (vbO v),s7])else J)=_;rw[ao (by rw[aq,aq];omega),bK]
  rw[show gN 6 (vbO v) [a,b,c,s3,s4,.ls (acc.map D.str),s,s7]=Z ρ from O];erw[e1];rw[e,fG,cp]
def jsN(V:List Vb):aH:=V.filterMap Vb.j
def v_o2{V:List Vb}(h:∀v∈V,v∈v6):∀v∈V++v9,v.o.length<=2:=λv hv=>by
 have a:=bc.mp (show ((v6++v9).all λv=>decide (v.o.length<=2))=γ by kernel_rfl) v (by
  rcases ba.mp hv with hv|hv
  .show bO _ (h v hv)
  .show bE _ hv)
 show bF a
def acf{e:FE}{ρ ρ1:aJ}{ds:List L4.D}(h:e ρ=Z (.lst ds,ρ1)):iL e ρ=Z (ds,ρ1):=by delta iL;rw[h]
def acg{ρ:aJ}(V:List Vb)(hl:V.length<=900)(h2:cV 2 ρ=Z (VD V,ρ)):tR 1 [] (iL aj) (gN 0) (cT (c2 vX (c1 (tI vP "joining") ab) aE)) (c1 (tI vP "joining") ab) ρ=Z ((jsN V).map D.str,ρ):=by
 have hs:iL aj ρ=Z (V.map vbO,ρ):=acf h2;refine(yk (k:=1) (cap:=[]) (g:=gN 0) (ft:=cT (c2 vX (c1 (tI vP "joining") ab) aE)) (fe:=c1 (tI vP "joining") ab) vbO (λv=>oS v.j) (λv=>v.j.isSome) V hs () λv _=>⟨[.im (vbO v)],[.im (vbO v)],O,?_,λ_=>⟨[.im (vbO v)],O,O⟩,λ_=>O⟩).trans ?_
 .let#v[n,o,f,j]:=v;ext j<;>rfl
 .congr 2;delta jsN;clear hs h2 hl
  induction V with
  |nil=>rfl
  |cons v V ih=>
   let#v[n,o,f,j]:=v;cases j with
   |none=>rw[m6 (by simp),List.filterMap_cons_none O];show ih
   |some x=>rw[j6 (by simp)];show bL (D.str x::·) ih
def Iu{T:List Th}{W:List Wy}(hl:T.length<=200)(hw:∀t∈T,CP t)(hW:W.length<=2)(ww:∀w∈W,w.w∈(["north", "south"]:aH)):wc [TD T,WD W,VD (v6++v9)]=Z .non:=by
 let V:=v6++v9;have v6m:∀v∈v6,v∈v6:=λv hv=>hv;have lV:V.length<=15:=by decide
 let P:=T.filter λt=>t.k.pl;have hP:P.length<=200:=bM (cK _ _) hl;have hwP:∀t∈P,t.nw∈plL:=λt ht=>(hw t (aZ.mp ht).1).2 (aZ.mp ht).2;let A:Sl:=.im (TD T);let B:Sl:=.im (WD W);let C:Sl:=.im (VD V);let#v[s',e1]:=Ir (a:=A) (b:=B) (c:=C) (s5:=.un) (s6:=.un) (s7:=.un) P [] .un (by simp;omega) hwP;let A':=P.flatMap Th.w;let U:=V.flatMap Vb.ws;let m1:Sl:=.ls (A'.map D.str);let#v[z,e2]:=OS (a:=A) (b:=B) (c:=C) (s3:=m1) (s4:=s') (s7:=.un) V [] .un (by simp;omega) (v_o2 v6m);let bt:aH:=jsN V++W.map Wy.w;let AT:Sl:=.im (.lst (bt.map D.str));have lU:U.length<=100:=by have h:=vws v6m;have h2:=OE (OQ) h;show bM h2 (nz (by kernel_rfl))
 have lJ:(jsN V).length<=15:=bM (List.length_filterMap_le _ _) lV;have lB:bt.length<=100:=by change (jsN V++W.map Wy.w).length<=100;rw[aM,aq];omega
 have bIn:∀x∈bt,x∈bW:=λx hx=>by
  rcases ba.mp hx with hx|hx
  .let#v[v,hv,e]:=ie.mp hx;have a:=bc.mp (show ((v6++v9).all λv=>match v.j with|some x=>decide (x∈bW)|none=>γ)=γ by kernel_rfl) v (by
    rcases ba.mp hv with hv|hv
    .show bO _ (v6m v hv)
    .show bE _ hv)
   rw[e]at a;show bF a
  .let#v[w,hw,rfl]:=ay.mp hx;show(show ∀x∈(["north", "south"]:aH),x∈bW by decide) _ (ww w hw)
 have oIn:∀x∈A',x∈plL.flatMap bS:=λx hx=>by let#v[t,ht,hxt]:=d8.mp hx;show d8.mpr ⟨t.nw,hwP t ht,hxt⟩
 have uIn:∀x∈U,x∈vW:=vws v6m;have s1:∀x∈vW++bW,x∉plL.flatMap bS:=by decide +kernel
 have s2:∀x∈vW++bW,x∉(["the", "a", "undo", "restart"]:aH):=by decide +kernel
 have s3:∀x∈bW,x∉vW:=by decide +kernel
 have ub:∀x∈U++bt,x∈vW++bW:=λx hx=>by
  rcases ba.mp hx with hx|hx
  .show bO _ (uIn x hx)
  .show bE _ (bIn x hx)
 have lUB:(U++bt).length<=900:=by rw[aM];omega
 let UL:L4.D:=.lst (U.map D.str);calc Ae (ρ:=[A,B,C,.im (.lst (A'.map D.str)),s',.im UL,z,AT]) O ?_;delta xx;calc(tu (ρ':=[A,B,C,.ls [],.un,.un,.un,.un]) O).trans ?_;refine(tu (ρ':=[A,B,C,m1,s',.un,.un,.un]) ((uO (ds:=P.map thD) (ρ1:=[A,B,C,.ls [],.un,.un,.un,.un]) ?_).trans e1)).trans ?_
 .delta iL;rw[uT (tf (g:=wR) (ds:=[TD T]) (ρ1:=[A,B,C,.ls [],.un,.un,.un,.un]) O (Au T ()))]
 calc(tu (ρ':=[A,B,C,m1,s',.ls [],.un,.un]) O).trans ?_;calc(tu (ρ':=[A,B,C,m1,s',.ls (U.map D.str),z,.un]) ((uO (ds:=V.map vbO) (ρ1:=[A,B,C,m1,s',.ls [],.un,.un]) O).trans e2)).trans ?_;refine(tu (ρ':=[A,B,C,m1,s',.ls (U.map D.str),z,AT]) ((tQ (uT (w6 (uT (acg V () O)) (uT (xg wyO (λw=>.str w.w) W (ρ1:=[A,B,C,m1,s',.ls (U.map D.str),z,.un]) O () λw _=>⟨[.im (wyO w)],[.im (wyO w)],O,O,O⟩)) (by rw[aq,aq];omega)))).trans ?_)).trans ?_
 .change Z (Out.nx [A,B,C,m1,s',.ls (U.map D.str),z,.im (.lst ((jsN V).map D.str++W.map λw=>.str w.w))])=_;rw[show (jsN V).map D.str++(W.map λw=>D.str w.w)=bt.map D.str by change _=(jsN V++W.map Wy.w).map D.str;rw[bK,br];rfl]
 calc(tu (wg (ρ1:=[A,B,C,m1,s',.im UL,z,AT]) (tf (ds:=[UL]) O (DQ (OQ) ())))).trans ?_;have ca:∀(q:Sl),cL (xn (cFz 5) bH) [A,B,C,q,s',.im UL,z,AT]=Z (.lst ((U++bt).map D.str),[A,B,C,q,s',.im UL,z,AT]):=λq=>(uT (w6 (xs:=U.map D.str) (ys:=bt.map D.str) (ρ1:=[A,B,C,q,s',.im UL,z,AT]) O O (by rw[aq,aq];omega))).trans (by rw[<-bK]);calc(tu (wg (ρ1:=[A,B,C,.im (.lst (A'.map D.str)),s',.im UL,z,AT]) (tf (sZ (ca m1) (sZ O O)) (Ip (l:=U++bt) (m:=A') (.inl O) lUB λx hx ho=>s1 x (ub x hx) (oIn x ho))))).trans ?_;calc(tu (wg (ρ1:=[A,B,C,.im (.lst (A'.map D.str)),s',.im UL,z,AT]) (tf (sZ (ca _) (sZ O O)) (Ip (l:=U++bt) (m:=["the", "a", "undo", "restart"]) (.inr O) lUB λx hx=>s2 x (ub x hx))))).trans ?_;show wg (ρ1:=[A,B,C,.im (.lst (A'.map D.str)),s',.im UL,z,AT]) (tf (sZ O (sZ O O)) (Ip (l:=bt) (m:=U) (.inl O) () λx hx hu=>s3 x (bIn x hx) (uIn x hu)))
structure Good(T:List Th)(M:List Mk)(dk:aH)(W:List Wy):Prop where
 len:T.length<=13
 r1:1<=(T.filter λt=>decide (t.k=.room)).length
 r5:(T.filter λt=>decide (t.k=.room)).length<=5
 y1:(T.filter λt=>decide (t.k=.you)).map Th.n=(["self"]:aH)
 p7:(T.filter λt=>t.k.pl).length<=7
 m4:M.length<=4
 mo:∀m∈M,m.ok
 nm:∀x∈T.map Th.n++M.map Mk.n,Nm x
 nd:(T.map Th.n++M.map Mk.n).Nodup
 st:∀t∈T,CO T t
 rk:∃r,KW T r
 wd:∀t∈T,CP t
 d0:dk.length<=5
 d1:dk.Nodup
 d2:∀x∈dk,x∈rmN T
 w8:W.length<=2
 wo:∀w∈W,Qq T M w
 wn:(W.map λw=>[w.r,w.w]).Nodup
section
variable{T:List Th}{M:List Mk}{dk:aH}{W:List Wy}
def Good.ndT(g:Good T M dk W):(T.map Th.n).Nodup:=(cq.mp g.nd).1
def Dm(T:List Th)(M:List Mk)(hl:T.length<=200)(hM:M.length<=4):wU [TD T,MD M]=Z ((mkN T M).map D.str):=by
 let ρ:aJ:=[.im (TD T),.im (MD M)];have h:=cK (λt:Th=>t.k.mk) T;refine(yL (ρ:=ρ) O (xh (w6 (uT (yk thD (λt=>D.str t.n) (λt=>t.k.mk) T (ρ1:=ρ) O () λt _=>⟨[.im (thD t)],[.im (thD t)],O,uz (tW (xs:=[.str t.n,.tup (t.w.map D.str),.str t.k.s,oS t.s]) (ys:=[]) O O O O (OO t)),λ_=>⟨_,uu O (As t),O⟩,λ_=>O⟩))
  (uT (xg mkD (λt=>D.str t.n) M O () λt _=>⟨_,_,O,uu O (KU t),O⟩)) (by rw[aq,aq];omega)))).trans ?_
 delta mkN;rw[bK,br,br];rfl
def Iv(g:Good T M dk W):An [TD T,MD M,.lst (dk.map D.str),WD W,VD v6,VD v9]=Z .non:=by
 have hl:=g.len;have hm:=g.m4;have hdk:dk.length<=1000:=by have:=g.d0;omega
 have y1:(T.filter λt=>decide (t.k=.you)).length=1:=by have:=bL eZ g.y1;rw[aq]at this;show this
 let#v[r,hr]:=g.rk;let ρ0:aJ:=[.im (TD T),.im (MD M),.im (.lst (dk.map D.str)),.im (WD W),.im (VD v6),.im (VD v9),.un];let ρ:aJ:=[.im (TD T),.im (MD M),.im (.lst (dk.map D.str)),.im (WD W),.im (VD v6),.im (VD v9),.im (.lst ((rmN T).map D.str))];calc Ae (ρ:=ρ) O ?_;delta Am;calc(tu (uX (ρ':=ρ0) (tf O (Gx T () g.r1 g.r5 y1 g.p7)))).trans ?_;calc(tu (uX (ρ':=ρ0) (tf O (Ik M g.m4 g.mo)))).trans ?_;calc(tu (uX (ρ':=ρ0) (tf O (Il T M () () g.nm g.nd)))).trans ?_;calc(tu (uX (ρ':=ρ0) (tf O (Gy T () g.ndT r hr g.st)))).trans ?_;calc(tu (uX (ρ':=ρ0) (tf O (Io T () g.wd)))).trans ?_;calc(tu (ρ':=ρ) ((tQ (uT (Im T () O))).trans O)).trans ?_;calc(tu (uX (ρ':=ρ) (tf O (Jd dk (rmN T) hdk g.d1 g.d2)))).trans ?_;calc(tu (uX (ρ':=ρ) (tf (sZ O (sZ O (sZ (uT (tf (g:=wU) (ds:=[TD T,MD M]) O (Dm T M () hm))) O))) (Jf g.w8 g.wo g.wn)))).trans ?_;calc(tu (uX (ρ':=ρ) (tf (g:=yq) (ds:=[VD v6]) (r:=.non) O (Iq)))).trans ?_;calc uX (ρ':=ρ) (tf (g:=wc) (ds:=[TD T,WD W,VD (v6++v9)]) (sZ O (sZ O (sZ ((uT (w6 (xs:=v6.map vbO) (ys:=v9.map vbO) (ρ1:=ρ) O O ?_)).trans (by rw[<-bK])) O))) (Iu () g.wd g.w8 (λw hw=>(g.wo w hw).hw)));decide
def NG(T:List Th)(hl:T.length<=900)(nd:(T.map Th.n).Nodup):Fg [TD T]=Z (.dic (nK T) (T.map thD)):=by
 let#v[s',e1]:=AU (g:=gN 2) (i:=1) (fk:=c1 (tI uc "name") aj) (fv:=cV 2) thD Th.n thD (λks ds s=>[.im (TD T),.dk ks ds,s])
  (λt ks ds s=>⟨[.im (TD T),.dk ks ds,.im (thD t)],O,O,O,uu O (As t),λks' ds'=>⟨_,O⟩⟩) T [] [] .un (by rw[cz];show S4 nd) (by simp;omega) O
 calc tE (ρ:=[.im (TD T),.im (.dic (nK T) (T.map thD)),s']) O ?_;delta Fe;calc(tu (ρ':=[.im (TD T),.dk [] [],.un]) O).trans ?_;calc(tu ((uO O).trans e1)).trans ?_;rw[cz,cz];rfl
def mP(T:List Th)(M:List Mk):List (Str×Int):=(T.filter λt=>t.k.mk).map (λt=>(t.n,1))++M.map λm=>(m.n,m.mo)
def Iw(T:List Th)(M:List Mk):(mP T M).map jB=mkN T M:=by delta mP mkN;rw[bK,br,br];rfl
def V2(m:Mk):tI zw "most" (mkD m)=Z (.int m.mo):=rfl
theorem Fo{a b e:Sl}:∀(l:List Th) (ks:List Key) (ds:List L4.D) (s:Sl),(ks++(l.filter λt=>t.k.mk).map λt=>kS t.n).Nodup->ks.length+l.length<=900->ds.length=ks.length->
  ∃s',forL (gN 3) (sIf (cT (tK vY "has_mark" aw uk)) (ya 2 (c1 (tI uc "name") aw) aI) tN) (l.map thD) [a,b,.dk ks ds,s,e]=Z (.nx [a,b,.dk (ks++(l.filter λt=>t.k.mk).map λt=>kS t.n) (ds++(l.filter λt=>t.k.mk).map λ_=>.int 1),s',e])
 |[],ks,ds,s,_,_,_=>⟨s,by simp;rfl⟩
 |t::l,ks,ds,s,nd,hl,he=>by
  rw[aT]at hl;let ρ:aJ:=[a,b,.dk ks ds,.im (thD t),e];have em:cT (tK vY "has_mark" aw uk) ρ=Z (t.k.mk,ρ):=uz (tW (xs:=[.str t.n,.tup (t.w.map D.str),.str t.k.s,oS t.s]) (ys:=[]) O O O O (OO t));rw[aN];delta forL;rw[show gN 3 (thD t) [a,b,.dk ks ds,s,e]=Z ρ from O];cases hm:t.k.mk with
  |true=>
   rw[hm]at em;rw[j6 (p:=λt:Th=>t.k.mk) hm,aN]at nd;rw[j6 (p:=λt:Th=>t.k.mk) hm];have hn:kS t.n∉ks:=λz=>by rw[cq]at nd;show nd.2.2 _ z _ aR O
   let#v[s',q]:=Fo (a:=a) (b:=b) (e:=e) l (ks++[kS t.n]) (ds++[.int 1]) (.im (thD t)) (by rw[cp];show nd) (by rw[aM,cW];omega) (by simp[he]);calc⟨s',?_⟩;erw[(ud em).trans (Mg (i:=2) (fk:=c1 (tI uc "name") aw) (fv:=cC (.int 1)) (ρ:=ρ) (x:=t.n) O O (uu O (As t)) hn () he)];calc Eq.trans q ?_;rw[cp,cp];rfl
  |false=>rw[hm]at em;rw[m6 (p:=λt:Th=>t.k.mk) (by rw[hm];show bA)]at nd ⊢;let#v[s',q]:=Fo (a:=a) (b:=b) (e:=e) l ks ds (.im (thD t)) nd () he;calc⟨s',?_⟩;erw[uo em,tN];show q
def mD(T:List Th)(M:List Mk):L4.D:=.dic ((mP T M).map λq=>kS q.1) ((mP T M).map λq=>.int q.2)
def Good.ndK(g:Good T M dk W):(mkN T M).Nodup:=by delta mkN;have h:=cq.mp g.nd;calc cq.mpr ⟨sO (i6.map _) h.1,h.2.1,λx hx y hy=>h.2.2 x ?_ y hy⟩;let#v[t,ht,rfl]:=ay.mp hx;show bT (aZ.mp ht).1
def J1(g:Good T M dk W):((mP T M).map λq=>kS q.1).Nodup:=by have:=AD g.ndK;rw[<-Iw,br]at this;show this
def S7(g:Good T M dk W):yQ [TD T,MD M]=Z (mD T M):=by
 have nd:=J1 g;have hl:=g.len;have hm:=g.m4;have e0:(mP T M).map (λq=>kS q.1)=(T.filter λt=>t.k.mk).map (λt=>kS t.n)++M.map λm=>kS m.n:=by delta mP;rw[bK,br,br];rfl
 have e0':(mP T M).map (λq=>D.int q.2)=(T.filter λt=>t.k.mk).map (λ_=>D.int 1)++M.map λm=>D.int m.mo:=by delta mP;rw[bK,br,br];rfl
 rw[e0]at nd;have hf:=cK (λt:Th=>t.k.mk) T;let#v[s1,e1]:=Fo (a:=.im (TD T)) (b:=.im (MD M)) (e:=.un) T [] [] .un (by rw[cz];show(cq.mp nd).1) (by simp;omega) O;rw[cz,cz]at e1;let#v[s2,e2]:=AU (g:=gN 4) (i:=2) (fk:=c1 (tI uc "name") az) (fv:=c1 (tI zw "most") az) mkD Mk.n (λm=>.int m.mo) (λks ds s=>[.im (TD T),.im (MD M),.dk ks ds,s1,s])
  (λm ks ds s=>⟨[.im (TD T),.im (MD M),.dk ks ds,s1,.im (mkD m)],O,uu O (V2 m),O,uu O (KU m),λks' ds'=>⟨_,O⟩⟩) M ((T.filter λt=>t.k.mk).map λt=>kS t.n) ((T.filter λt=>t.k.mk).map λ_=>.int 1) .un nd (by rw[aq];omega) (by rw[aq,aq])
 calc tE (ρ:=[.im (TD T),.im (MD M),.im (mD T M),s1,s2]) O ?_;delta yP;calc(tu (ρ':=[.im (TD T),.im (MD M),.dk [] [],.un,.un]) O).trans ?_;calc(tu ((uO O).trans e1)).trans ((tu ((uO O).trans e2)).trans ?_);delta mD;rw[e0,e0'];rfl
def DR(T:List Th)(hl:T.length<=1000)(ns:aH)(rest:List L4.D)(k:Kd):yS [.obj 14 ("kept_things" ::ns) (TD T::rest),.str k.s]=Z (.lst ((T.filter λt=>decide (t.k=k)).map λt=>D.str t.n)):=by let ρ:aJ:=[.im (.obj 14 ("kept_things" ::ns) (TD T::rest)),.im (.str k.s)];calc B3 (ρ:=ρ) O ?_;show xh (yk thD (λt=>D.str t.n) (λt=>decide (t.k=k)) T (ρ1:=ρ) O hl λt _=>⟨[.im (thD t),.im (.str k.s)],[.im (thD t),.im (.str k.s)],O,uz (tD (uu O (yV t)) O (Dl t.k k)),λ_=>⟨_,uu O (As t),O⟩,λ_=>O⟩)
end
def vwD(V:List Vb):L4.D:=.dic (V.flatMap λv=>v.ws.map kS) (V.flatMap λv=>v.ws.map λ_=>vbO v)
def ach:yR [VD (v6++v9)]=Z (vwD (v6++v9)):=by kernel_rfl
theorem S8:∀V:List Vb,(V.flatMap λv=>v.ws.map kS).zip (V.flatMap λv=>v.ws.map λ_=>vbO v)=V.flatMap λv=>v.ws.map λx=>(kS x,vbO v)
 |[]=>rfl
 |v::V=>by rw[fG,fG,fG,kQ (by rw[aq,aq]),S8 V,eV]
def K2{V:List Vb}(nd:(V.flatMap Vb.ws).Nodup){v:Vb}(hv:v∈V):BB (vwD V) (.str v.n)=Z (vbO v):=by
 change Z ((vp (V.flatMap λv=>v.ws.map kS) (V.flatMap λv=>v.ws.map λ_=>vbO v) (kS v.n)).getD .non)=_;rw[xQ (d:=vbO v)]
 .rfl
 .have:=AD nd;rw[List.map_flatMap]at this;show this
 .rw[S8];show d8.mpr ⟨v,hv,ay.mpr ⟨v.n,aR,O⟩⟩
def wNs:aH:=["kept_things", "kept_marks", "kept_dark", "kept_ways", "kept_verbs", "shared_verbs", "your_name", "things_by_name", "mosts_by_name", "verbs_by_word", "kept_rules", "shared_rules", "copied_rules", "rules_by_verb"]
def w10(T:List Th)(M:List Mk)(dk:aH)(W:List Wy)(V:List Vb):L4.D:=.obj 14 (wNs.take 10) [TD T,MD M,.lst (dk.map D.str),WD W,VD V,VD v9,.str "self", .dic (nK T) (T.map thD),mD T M,vwD (V++v9)]
def fms:aH:=["one", "two", "alone", "way"]
def xL:aH:="here" ::nmL
def aaw:(fms.all λf=>xL.all λx=>isF (uS [.str f,.str x]))=γ:=by kernel_rfl
def J2{f x:Str}(hf:f∈fms)(hx:x∈xL):uS [.str f,.str x]=Z (.bl δ):=NA (bc.mp (bc.mp aaw f hf) x hx)
def aax:(fms.all λf=>nmL.all λx=>isF (ye [.str f,.str x]))=γ:=by kernel_rfl
def WT{f x:Str}(hf:f∈fms)(hx:x∈nmL):ye [.str f,.str x]=Z (.bl δ):=NA (bc.mp (bc.mp aax f hf) x hx)
def S9{f:Str}(hf:f∈fms):ye [.str f,.str "here"]=Z (.bl γ):=CA (bc.mp (show (fms.all λf=>isT (ye [.str f,.str "here"]))=γ by kernel_rfl) f hf)
def By(f x:Str):Prop:=(x="it" /\ f∈(["one", "two"]:aH))\/(x="other" /\ f="two")
def K4{f x:Str}(h:By f x):uS [.str f,.str x]=Z (.bl γ):=by
 rcases h with ⟨rfl,h⟩|⟨rfl,rfl⟩
 .show CA (bc.mp (show ((["one", "two"]:aH).all λf=>isT (uS [.str f,.str "it"]))=γ by kernel_rfl) f h)
 .kernel_rfl
def Tm(f:Str)(N:aH)(x:Str):Prop:=x∈N\/x="here" \/ By f x
section
variable{T:List Th}{M:List Mk}{dk:aH}{W:List Wy}{V:List Vb}{f:Str}
def Qs(g:Good T M dk W){t:Th}(h:t∈T):t.n∈nmL:=g.nm _ (bO _ (bT h))
def aci(g:Good T M dk W){t:Th}(h:t∈T):vh [w10 T M dk W V,.str t.n]=Z (thD t):=by
 have e:vh [w10 T M dk W V,.str t.n]=Z ((vp (nK T) (T.map thD) (kS t.n)).getD .non):=by kernel_rfl
 rw[e,ER g.ndT thD h];rfl
def acj(g:Good T M dk W){q:Str×Int}(h:q∈mP T M):u6 [w10 T M dk W V,.str q.1]=Z (.int q.2):=by
 have e:u6 [w10 T M dk W V,.str q.1]=Z ((vp ((mP T M).map λq=>kS q.1) ((mP T M).map λq=>.int q.2) (kS q.1)).getD .non):=by kernel_rfl
 rw[e,xQ (d:=.int q.2) (J1 g)]
 .rfl
 .rw[eV];show bT (f:=λq:Str×Int=>(kS q.1,D.int q.2)) h
def ET{c:FT}{e e':FE}{ρ ρ1:aJ}(h:c ρ=Z (γ,ρ1)):cIf c e e' ρ=e ρ1:=by delta cIf;rw[h]
def nmd(g:Good T M dk W){t:Th}(h:t∈T):yX [w10 T M dk W V,.str t.n]=Z (thD t):=by let ρ:aJ:=[.im (w10 T M dk W V),.im (.str t.n)];calc tE (ρ:=ρ) O (tL ?_);calc(ET (ρ1:=ρ) O).trans ?_;show tW (hh:=vh) (ys:=[.str t.n]) (ρ1:=ρ) (ρ2:=ρ) O O O O (aci g h)
def DS(g:Good T M dk W)(hf:f∈fms){x:Str}(h:Tm f (T.map Th.n) x):AO [w10 T M dk W V,.str f,.str x]=Z (.bl γ):=by
 let ρ:aJ:=[.im (w10 T M dk W V),.im (.str f),.im (.str x)];calc tE (ρ:=ρ) O (tL ?_);rcases h with h|rfl|h
 .let#v[t,ht,rfl]:=ay.mp h;calc(ES (tf (ρ1:=ρ) (ds:=[.str f,.str t.n]) O (J2 hf (aU _ (Qs g ht))))).trans ((ES (tf (ρ1:=ρ) (ds:=[.str f,.str t.n]) O (WT hf (Qs g ht)))).trans ?_);show tD (tf (ρ1:=ρ) (ds:=[w10 T M dk W V,.str t.n]) O (nmd g ht)) O O
 .show(ES (tf (ρ1:=ρ) (ds:=[.str f,.str "here"]) O (J2 hf aR))).trans (K1 (tf (ρ1:=ρ) (ds:=[.str f,.str "here"]) O (S9 hf)))
 .show K1 (tf (ρ1:=ρ) (ds:=[.str f,.str x]) O (K4 h))
def hd_T{x:Str}(h:x∈hdN T):∃t∈T,t.n=x/\t.k.hd=γ:=by let#v[t,ht,rfl]:=ay.mp h;show⟨t,(aZ.mp ht).1,O,(aZ.mp ht).2⟩
def Mh{c c':FT}{ρ ρ1:aJ}(h1:c ρ=Z (γ,ρ1)):vS c c' ρ=Z (γ,ρ1):=by delta vS;rw[h1]
def Gk(g:Good T M dk W)(hf:f∈fms){x:Str}(h:Tm f (hdN T) x):Bk [w10 T M dk W V,.str f,.str x]=Z (.bl γ):=by
 let ρ:aJ:=[.im (w10 T M dk W V),.im (.str f),.im (.str x)];calc tE (ρ:=ρ) O ?_;delta DG;rcases h with h|rfl|h
 .let#v[t,ht,rfl,hk]:=hd_T h;calc(tu (ρ':=ρ) ((uo (ρ':=ρ) (wF (ρ1:=ρ) (uz (tf (ds:=[.str f,.str t.n]) O (J2 hf (aU _ (Qs g ht))))) (uz (tf (ds:=[.str f,.str t.n]) O (WT hf (Qs g ht)))))).trans O)).trans (tL ?_);have e:=nmd (V:=V) g ht;calc(tY (tD (tf (ρ1:=ρ) (ds:=[w10 T M dk W V,.str t.n]) O e) O O)).trans ?_;have e2:=tW (g:=uJ) (m:="can_hold") (hh:=yd) (a:=uk) (ys:=[]) (ρ1:=ρ) (ρ2:=ρ) (xs:=[.str t.n,.tup (t.w.map D.str),.str t.k.s,oS t.s]) (tf (g:=yX) (a:=aCons ab bP) (ρ:=ρ) (ρ1:=ρ) (ds:=[w10 T M dk W V,.str t.n]) O e) O O O (GP t);rw[hk]at e2;show e2
 .show tZ ((ud (ρ':=ρ) (wF (ρ1:=ρ) (uz (tf (ds:=[.str f,.str "here"]) O (J2 hf aR))) (uz (tf (ds:=[.str f,.str "here"]) O (S9 hf))))).trans O)
 .show tZ ((ud (ρ':=ρ) (Mh (uz (tf (ds:=[.str f,.str x]) O (K4 h))))).trans O)
def WU(g:Good T M dk W){t:Th}(h:t∈T)(k:Kd):yY [w10 T M dk W V,.str t.n,.str k.s]=Z (.bl (decide (t.k=k))):=by let ρ:aJ:=[.im (w10 T M dk W V),.im (.str t.n),.im (.str k.s)];calc tE (ρ:=ρ) O (tL ?_);have e:=nmd (V:=V) g h;show(tY (tD (tf (ρ1:=ρ) (ds:=[w10 T M dk W V,.str t.n]) O e) O O)).trans (tD (uu (tf (ρ1:=ρ) (ds:=[w10 T M dk W V,.str t.n]) O e) (yV t)) O (Dl t.k k))
def Mv(T:List Th)(f x:Str):Prop:=(∃t∈T,t.n=x/\t.k≠.room)\/By f x
def Mi(g:Good T M dk W)(hf:f∈fms){x:Str}(h:Mv T f x):DI [w10 T M dk W V,.str f,.str x]=Z (.bl γ):=by
 let ρ:aJ:=[.im (w10 T M dk W V),.im (.str f),.im (.str x)];calc tE (ρ:=ρ) O ?_;delta DH;rcases h with ⟨t,ht,rfl,hk⟩|h
 .calc(tu (ρ':=ρ) ((uo (ρ':=ρ) (uz (tf (ds:=[.str f,.str t.n]) O (J2 hf (aU _ (Qs g ht)))))).trans O)).trans (tL ?_);calc(tY (tD (tf (ρ1:=ρ) (ds:=[w10 T M dk W V,.str t.n]) O (nmd g ht)) O O)).trans ((K0 (tf (ρ1:=ρ) (ds:=[w10 T M dk W V,.str t.n,.str Kd.room.s]) O (WU g ht .room))).trans ?_);rw[bj hk];rfl
 .show tZ ((ud (ρ':=ρ) (uz (tf (ds:=[.str f,.str x]) O (K4 h)))).trans O)
def Mt(T:List Th)(M:List Mk)(f:Str)(q:Str×Int):Prop:=q∈mP T M\/(By f q.1/\q.2<=3)
def Ta(g:Good T M dk W){q:Str×Int}(h:q∈mP T M):q.1∈nmL:=by
 calc g.nm _ ?_;have h1:q.1∈mkN T M:=by rw[<-Iw];show bT h
 rcases ba.mp h1 with h1|h1
 .let#v[t,ht,e]:=ay.mp h1;show bO _ (by rw[<-e];show bT (aZ.mp ht).1)
 .show bE _ h1
def Dn(g:Good T M dk W)(hf:f∈fms){q:Str×Int}(h:Mt T M f q){v:Int}(h0:0<=v)(h1:v<=q.2):xj [w10 T M dk W V,.str f,.str q.1,.int v]=Z (.bl γ):=by
 let ρ:aJ:=[.im (w10 T M dk W V),.im (.str f),.im (.str q.1),.im (.int v),.un];have c0:cT (c2 MX aw aA) ρ=Z (δ,ρ):=by change Z (decide (v<0),ρ)=_;rw[bj ()]
 have i0:sIf (vS (uE (cT (tq xt b7))) (cT (c2 MX aw aA))) (tG bz) tN ρ=Z (.nx ρ):=(uo (ρ':=ρ) (wF (ρ1:=ρ) (vN (b:=γ) (uz (tf (ds:=[.int v]) O (by kernel_rfl)))) c0)).trans O;rcases h with h|⟨h,h3⟩
 .let σ:aJ:=[.im (w10 T M dk W V),.im (.str f),.im (.str q.1),.im (.int v),.im (.int q.2)];calc tE (ρ:=σ) O ?_;delta xi;calc(tu i0).trans ((tu (ρ':=ρ) ((uo (ρ':=ρ) (uz (tf (ds:=[.str f,.str q.1]) O (J2 hf (aU _ (Ta g h)))))).trans O)).trans ?_);have e1:cIf (cT (c1 (uF (uY "str")) aj)) (tK uM "most_of" ab bP) aE ρ=Z (.int q.2,ρ):=by calc(ET (ρ1:=ρ) O).trans ?_;show tW (hh:=u6) (ys:=[.str q.1]) (ρ1:=ρ) (ρ2:=ρ) O O O O (acj g h)
  refine(tu (ρ':=σ) ((tQ e1).trans O)).trans (tL ((tY (ρ1:=σ) O).trans (OP (x:=v) (y:=q.2) O O h1)))
 .calc tE (ρ:=ρ) O ?_;delta xi;calc(tu i0).trans (tZ ((ud (ρ':=ρ) (uz (tf (ds:=[.str f,.str q.1]) O (K4 h)))).trans (tL (OP (x:=v) (y:=3) O O ()))))
def atO(a b:Str):L4.D:=.obj 3 ["term", "place"] [.str a,.str b]
def hsO(a:Str):L4.D:=.obj 4 ["term"] [.str a]
def seO(a:Str):L4.D:=.obj 5 ["term"] [.str a]
def mkO(a:Str)(v:Int):L4.D:=.obj 6 ["term", "value"] [.str a,.int v]
def kiO(a k:Str):L4.D:=.obj 7 ["term", "kind"] [.str a,.str k]
def woO(a:Str):L4.D:=.obj 8 ["word"] [.str a]
def noO(d:L4.D):L4.D:=.obj 9 ["inner"] [d]
def boO(d e:L4.D):L4.D:=.obj 10 ["one", "other"] [d,e]
def mvO(a b:Str):L4.D:=.obj 11 ["term", "place"] [.str a,.str b]
def puO(a:Str)(v:Int):L4.D:=.obj 12 ["term", "value"] [.str a,.int v]
def liO:L4.D:=.obj 15 [] []
def Tk(w:L4.D)(f:Str)(n:Nat)(d:L4.D):Prop:=noC 16 14 d=γ/\∀j:Nat,n<j->j<=4->xD j [w,.str f,d,.int j]=Z (.bl γ)
def Tb{w:L4.D}{s1 s2:Sl}(j:Nat):sIf (cT (c2 (dEq δ) aw aA)) (tG bz) tN [.im w,s1,s2,.im (.int ((j+1:Nat):Int))]=Z (.nx [.im w,s1,s2,.im (.int ((j+1:Nat):Int))]):=
 (uo (uz (tD (x:=.int ((j+1:Nat):Int)) (y:=.int 0) O O ((yp δ _ 0).trans (by rw[bj (by omega:¬((j+1:Nat):Int)=0)];rfl))))).trans O
def yn{w d:L4.D}{n:Nat}(h1:uF SN d=Z (.bl δ))(h2:uF Nx d=Z (.bl δ))(h3:noC 16 14 d=γ)(h:yT [w,.str f,d]=Z (.bl γ)):Tk w f n d:=⟨h3,λj hj _=>by
 let#v[j,rfl]:∃k,j=k+1:=⟨j - 1,by omega⟩;let ρ:aJ:=[.im w,.im (.str f),.im d,.im (.int ((j+1:Nat):Int))];calc tE (ρ:=ρ) O ?_;delta xC;show(tu (Tb j)).trans ((tu (ρ':=ρ) ((uo (ρ':=ρ) (uz (uu O h1))).trans O)).trans ((tu (ρ':=ρ) ((uo (ρ':=ρ) (uz (uu O h2))).trans O)).trans (tL (tf (ds:=[w,.str f,d]) O h))))⟩
def sub1{ρ:aJ}{j:Nat}(h:cV 3 ρ=Z (.int ((j+1:Nat):Int),ρ)):c2 Od aw aI ρ=Z (.int j,ρ):=(tD h O O).trans (by
 change Z (D.int (((j+1:Nat):Int) - 1),ρ)=_;rw[show ((j+1:Nat):Int) - 1=j by omega])
def Mj{w d:L4.D}{n:Nat}(h:Tk w f n d):Tk w f (n+1) (noO d):=⟨by
 have e:noC 16 14 (noO d)=(noC 16 14 d&&γ):=by kernel_rfl
 rw[e,h.1];rfl,λj hj h4=>by
 let#v[j,rfl]:∃k,j=k+1:=⟨j - 1,by omega⟩;let ρ:aJ:=[.im w,.im (.str f),.im (noO d),.im (.int ((j+1:Nat):Int))];calc tE (ρ:=ρ) O ?_;delta xC;calc(tu (Tb j)).trans (tZ ((ud (ρ':=ρ) O).trans (tL ?_)));show tf (ds:=[w,.str f,d,.int j]) (sZ O (sZ O (sZ O (sZ (sub1 O) O)))) (h.2 j () ())⟩
def Qt{w d e:L4.D}{n:Nat}(h:Tk w f n d)(h':Tk w f n e):Tk w f (n+1) (boO d e):=⟨by
 have q:noC 16 14 (boO d e)=(noC 16 14 d&&(noC 16 14 e&&γ)):=by kernel_rfl
 rw[q,h.1,h'.1];rfl,λj hj h4=>by
 let#v[j,rfl]:∃k,j=k+1:=⟨j - 1,by omega⟩;let ρ:aJ:=[.im w,.im (.str f),.im (boO d e),.im (.int ((j+1:Nat):Int))];calc tE (ρ:=ρ) O ?_;delta xC;refine(tu (Tb j)).trans ((tu (ρ':=ρ) ((uo (ρ':=ρ) O).trans O)).trans (tZ ((ud (ρ':=ρ) O).trans (tL ((tY (ρ1:=ρ) ?_).trans ?_)))))
 .show tf (ds:=[w,.str f,d,.int j]) (sZ O (sZ O (sZ O (sZ (sub1 O) O)))) (h.2 j () ())
 .show tf (ds:=[w,.str f,e,.int j]) (sZ O (sZ O (sZ O (sZ (sub1 O) O)))) (h'.2 j () ())⟩
end
section
variable{T:List Th}{M:List Mk}{dk:aH}{W:List Wy}{V:List Vb}{f:Str}{n:Nat}
def ack(g:Good T M dk W)(hf:f∈fms){a b:Str}(ha:Tm f (T.map Th.n) a)(hb:Tm f (hdN T) b):Tk (w10 T M dk W V) f n (atO a b):=yn O O O (by
 let ρ:aJ:=[.im (w10 T M dk W V),.im (.str f),.im (atO a b)];calc tE (ρ:=ρ) O ?_;delta vw;show tZ ((ud (ρ':=ρ) O).trans (tL ((tY (tf (ρ1:=ρ) (ds:=[w10 T M dk W V,.str f,.str a]) O (DS g hf ha))).trans (tf (ds:=[w10 T M dk W V,.str f,.str b]) O (Gk g hf hb))))))
def vc{c:FT}{e:FS}{ρ:aJ}{h:FS}(q:c ρ=Z (δ,ρ)):tw (sIf c e tN) h ρ=h ρ:=tu ((uo q).trans O)
def aaz(g:Good T M dk W)(hf:f∈fms){a:Str}(ha:Tm f (T.map Th.n) a):Tk (w10 T M dk W V) f n (hsO a):=yn O O O (by
 let ρ:aJ:=[.im (w10 T M dk W V),.im (.str f),.im (hsO a)];calc tE (ρ:=ρ) O ?_;delta vw;show(vc (ρ:=ρ) O).trans (tZ ((ud (ρ':=ρ) O).trans (tL (tf (ds:=[w10 T M dk W V,.str f,.str a]) O (DS g hf ha))))))
def V3(g:Good T M dk W)(hf:f∈fms){a:Str}(ha:Tm f (T.map Th.n) a):Tk (w10 T M dk W V) f n (seO a):=yn O O O (by
 let ρ:aJ:=[.im (w10 T M dk W V),.im (.str f),.im (seO a)];calc tE (ρ:=ρ) O ?_;delta vw;show(vc (ρ:=ρ) O).trans (tZ ((ud (ρ':=ρ) O).trans (tL (tf (ds:=[w10 T M dk W V,.str f,.str a]) O (DS g hf ha))))))
def OT(g:Good T M dk W)(hf:f∈fms){q:Str×Int}(h:Mt T M f q){v:Int}(h0:0<=v)(h1:v<=q.2):Tk (w10 T M dk W V) f n (mkO q.1 v):=yn O O O (by
 let ρ:aJ:=[.im (w10 T M dk W V),.im (.str f),.im (mkO q.1 v)];calc tE (ρ:=ρ) O ?_;delta vw;show(vc (ρ:=ρ) O).trans ((vc (ρ:=ρ) O).trans (tZ ((ud (ρ':=ρ) O).trans (tL (tf (ds:=[w10 T M dk W V,.str f,.str q.1,.int v]) O (Dn g hf h h0 h1)))))))
def V4{w:L4.D}{x:Str}(hx:x∈(["north", "south"]:aH)):Tk w "way" n (woO x):=yn O O O (by
 let ρ:aJ:=[.im w,.im (.str "way"),.im (woO x)];calc tE (ρ:=ρ) O ?_;delta vw;have ek:wQ [.str x]=Z (.bl γ):=CA (bc.mp (show ((["north", "south"]:aH).all λx=>isT (wQ [.str x]))=γ by kernel_rfl) x hx);show(vc (ρ:=ρ) O).trans ((vc (ρ:=ρ) O).trans ((vc (ρ:=ρ) O).trans ((vc (ρ:=ρ) O).trans (tZ ((ud (ρ':=ρ) O).trans (tL ((tY (ρ1:=ρ) O).trans (tf (ds:=[.str x]) O ek)))))))))
def aaA{w:L4.D}:Tk w f n liO:=yn O O O (by kernel_rfl)
def Dd(w:L4.D)(f:Str)(d:L4.D):Prop:=noC 16 14 d=γ/\Fk [w,.str f,d]=Z (.bl γ)
def Tc(g:Good T M dk W)(hf:f∈fms){q:Str×Int}(h:Mt T M f q){v:Int}(h0:0<=v)(h1:v<=q.2):Dd (w10 T M dk W V) f (puO q.1 v):=⟨O,by
 let ρ:aJ:=[.im (w10 T M dk W V),.im (.str f),.im (puO q.1 v)];calc tE (ρ:=ρ) O ?_;delta CN;show tZ ((ud (ρ':=ρ) O).trans (tL (tf (ds:=[w10 T M dk W V,.str f,.str q.1,.int v]) O (Dn g hf h h0 h1))))⟩
def OU(g:Good T M dk W)(hf:f∈fms){a b:Str}(ha:Mv T f a)(hb:Tm f (hdN T) b)(hm:a="self" -> ∃t∈T,t.n=b/\t.k=.room):Dd (w10 T M dk W V) f (mvO a b):=⟨O,by
 let ρ:aJ:=[.im (w10 T M dk W V),.im (.str f),.im (mvO a b)];have e:Fj [w10 T M dk W V,.str f,mvO a b]=Z (.bl γ):=by
  calc tE (ρ:=ρ) O ?_;delta Fi;calc(vc (ρ:=ρ) (wF (ρ1:=ρ) (vN (b:=γ) (uz (tf (ds:=[w10 T M dk W V,.str f,.str a]) O (Mi g hf ha)))) (vN (b:=γ) (uz (tf (ds:=[w10 T M dk W V,.str f,.str b]) O (Gk g hf hb)))))).trans (tL ?_);have en:c2 (dEq γ) (c1 (tI AI "term") aj) (tK xB "you" ab uk) ρ=Z (.bl (!decide (a="self")),ρ):=tD (x:=.str a) (y:=.str "self") O O (vG γ a "self");by_cases h:a="self"
  .let#v[t,ht,e1,e2]:=hm h;rw[bh h]at en;calc(ES en).trans (tf (ds:=[w10 T M dk W V,.str b,.str Kd.room.s]) O ?_);rw[<-e1,WU g ht .room,bh e2]
  .rw[bj h]at en;show K1 en
 calc tE (ρ:=ρ) O ?_;delta CN;show(vc (ρ:=ρ) O).trans (tL ((tY (ρ1:=ρ) O).trans (tf (ds:=[w10 T M dk W V,.str f,mvO a b]) O e)))⟩
end
inductive Ts(T:List Th) (M:List Mk) (f:Str):Nat->L4.D->Prop
 |ats {n:Nat} {a b:Str} (ha:Tm f (T.map Th.n) a) (hb:Tm f (hdN T) b):Ts T M f n (atO a b)
 |has {n:Nat} {a:Str} (ha:Tm f (T.map Th.n) a):Ts T M f n (hsO a)
 |seen {n:Nat} {a:Str} (ha:Tm f (T.map Th.n) a):Ts T M f n (seO a)
 |mark {n:Nat} {q:Str×Int} {v:Int} (h:Mt T M f q):Ts T M f n (mkO q.1 v)
 |kind {n:Nat} {a k:Str} (ha:Tm f (T.map Th.n) a):Ts T M f n (kiO a k)
 |word {n:Nat} {x:Str} (hf:f="way"):Ts T M f n (woO x)
 |lit {n:Nat}:Ts T M f n liO
 |no {n:Nat} {d:L4.D} (h:Ts T M f n d):Ts T M f (n+1) (noO d)
 |bo {n:Nat} {d e:L4.D} (h:Ts T M f n d) (h':Ts T M f n e):Ts T M f (n+1) (boO d e)
def Tq(T:List Th)(M:List Mk)(w:L4.D)(f:Str)(n:Nat)(d:L4.D):Prop:=Tk w f n d/\Ts T M f n d
def Mr(T:List Th)(M:List Mk)(m:Str->Int):Prop:=∀q∈mP T M,0<=m q.1/\m q.1<=q.2
inductive Ds(T:List Th) (M:List Mk) (f:Str):L4.D->Prop
 |put {q:Str×Int} {v:Int} (h:Mt T M f q) (h0:0<=v):Ds T M f (puO q.1 v)
 |move {a b:Str} (ha:Mv T f a) (hb:Tm f (hdN T) b) (hm:a="self" -> ∃t∈T,t.n=b/\t.k=.room):Ds T M f (mvO a b)
def Dq(T:List Th)(M:List Mk)(w:L4.D)(f:Str)(d:L4.D):Prop:=Dd w f d/\Ds T M f d
def gl:List Key->List (List L4.D)->Key->List L4.D
 |k::ks,ds::dss,j=>if k=j then ds else gl ks dss j
 |_,_,_=>[]
theorem OV:∀(ks:List Key) (dss:List (List L4.D)) (j:Key),(vp ks (dss.map .lst) j).getD (.lst [])=.lst (gl ks dss j)
 |[],dss,j=>by ext dss<;>rfl
 |k::ks,[],j=>rfl
 |k::ks,ds::dss,j=>by
  rw[aN];delta vp gl;by_cases h:k=j
  .rw[ao h,ao h];rfl
  .rw[ak h,ak h];show OV ks dss j
theorem Td{d:L4.D}{k j:Key}:∀(ks:List Key) (dss:List (List L4.D)),ks.length=dss.length->(k=j->k∈ks)->gl ks (eW (λk' ds=>if k'=k then ds++[d]else ds) ks dss) j=gl ks dss j++if k=j then [d]else []
 |[],[],_,hm=>by rw[ak λh=>(by cases hm h)];rfl
 |[],_::_,h,_=>by cases h
 |_::_,[],h,_=>by cases h
 |k0::ks,ds::dss,h,hm=>by
  rw[f9];delta gl;by_cases e:k0=j
  .subst e;rw[ao O,ao O];by_cases e2:k0=k
   .rw[ao e2,ao e2.symm]
   .rw[ak e2,ak λz=>e2 z.symm,bQ]
  .rw[ak e,ak e];show Td ks dss (by exists h) λz=>by
    rcases aQ.mp (hm z)with y|y
    .show ar (y.symm.trans z) e
    .show y
theorem Te{d:L4.D}{k j:Key}:∀(ks:List Key) (dss:List (List L4.D)),ks.length=dss.length->k∉ks->gl (ks++[k]) (dss++[[d]]) j=gl ks dss j++if k=j then [d]else []
 |[],[],_,_=>rfl
 |[],_::_,h,_=>by cases h
 |_::_,[],h,_=>by cases h
 |k0::ks,ds::dss,h,hm=>by
  rw[kM,kM];delta gl;by_cases e:k0=j
  .rw[ao e,ao e,ak λz=>hm (by rw[z,e];show aR),bQ]
  .rw[ak e,ak e];show Te ks dss (by exists h) λz=>hm (aU _ z)
theorem Tf{d:L4.D}{k:Key}{P Q:List L4.D->Prop}(h1:∀ds,P ds->Q ds)(h2:∀ds,P ds->Q (ds++[d])):∀(ks:List Key) (dss:List (List L4.D)),(∀ds∈dss,P ds)->∀x∈eW (λk' ds=>if k'=k then ds++[d]else ds) ks dss,Q x
 |[],_,_,x,hx=>by cases hx
 |_::_,[],_,x,hx=>by cases hx
 |k0::ks,ds::dss,h,x,hx=>by
  rw[f9]at hx;rcases aQ.mp hx with rfl|hx
  .have:=h ds aR;split
   .show h2 _ this
   .show h1 _ this
  .show Tf h1 h2 ks dss (λds hd=>h ds (aU _ hd)) x hx
theorem Iy{d:L4.D}(hd:noC 16 14 d=γ):∀ds:List L4.D,yM 16 14 ds=γ->yM 16 14 (ds++[d])=γ
 |[],_=>by rw[cz];delta yM;rw[hd];rfl
 |x::ds,h=>by rw[kM];delta yM at h ⊢;rw[aW]at h ⊢;show⟨h.1,Iy hd ds h.2⟩
theorem AV:∀ds:List L4.D,(∀d∈ds,noC 16 14 d=γ)->yM 16 14 ds=γ
 |[],_=>by delta yM;rfl
 |x::ds,h=>by delta yM;rw[aW];show⟨h x aR,AV ds λd hd=>h d (aU _ hd)⟩
def kv(d:L4.D):Key:=match tI xT "verb" d with
 |some x=>(AA x).getD (.inl 0)
 |none=>.inl 0
def gK(d:L4.D):Bool:=(match tI xT "verb" d with
 |some x=>(AA x).isSome
 |none=>δ)&&noC 16 14 d
def acm{d:L4.D}(h:gK d=γ):∃x,tI xT "verb" d=Z x/\AA x=Z (kv d):=by
 delta gK at h;rw[aW]at h;let#v[h,_]:=h;delta kv;split at h
 .rename_i x e;rw[e];cases e2:AA x with
  |none=>rw[e2]at h;cases h
  |some y=>show⟨x,O,e2⟩
 .ext h
theorem Tg:∀(L:List L4.D) (ks:List Key) (dss:List (List L4.D)),(∀d∈L,gK d=γ)->ks.length=dss.length->ks.length+L.length<1000->(∀ds∈dss,ds.length+L.length<1000/\yM 16 14 ds=γ)->
  ∃ks' dss',B2 (tI xT "verb") L ks dss=Z (ks',dss')/\(∀j,gl ks' dss' j=gl ks dss j++L.filter λd=>decide (kv d=j))/\∀ds∈dss',yM 16 14 ds=γ
 |[],ks,dss,_,_,_,h=>⟨ks,dss,O,λj=>by rw[List.filter_nil,bQ],λds hd=>(h ds hd).2⟩
 |d::L,ks,dss,hg,hl,hk,h=>by
  rw[aT]at hk;have hL:∀ds∈dss,ds.length+L.length+1<1000/\yM 16 14 ds=γ:=λds hd=>⟨by have:=(h ds hd).1;rw[aT]at this;omega,(h ds hd).2⟩;have gd:=hg d aR;have nd:noC 16 14 d=γ:=by delta gK at gd;rw[aW]at gd;show gd.2
  let#v[x,e1,e2]:=acm gd;have st:(A9 ks dss (kv d) d).1.length=(A9 ks dss (kv d) d).2.length/\(A9 ks dss (kv d) d).1.length+L.length<1000/\(∀ds∈(A9 ks dss (kv d) d).2,ds.length+L.length<1000/\yM 16 14 ds=γ)/\∀j,gl (A9 ks dss (kv d) d).1 (A9 ks dss (kv d) d).2 j=gl ks dss j++if kv d=j then [d]else []:=by
   delta A9;by_cases c:Gu ks (kv d)=γ
   .rw[ao c];refine⟨by erw[i5];omega,by simp only;omega,Tf (P:=λds=>ds.length+L.length+1<1000/\yM 16 14 ds=γ) (λds h=>⟨by omega,h.2⟩) (λds h=>⟨by rw[aM,cW];omega,Iy nd ds h.2⟩) ks dss hL,λj=>Td ks dss hl λ_=>Ee.mp c⟩
   .rw[ak c];calc⟨by simp[hl],by erw[aM,cW];omega,λds hd=>?_,λj=>Te ks dss hl λz=>c (Ee.mpr z)⟩;rcases ba.mp hd with hd|hd
    .show⟨by have:=(hL ds hd).1;omega,(hL ds hd).2⟩
    .rw[aY.mp hd];show⟨by erw[cW];omega,Iy nd [] (by delta yM;rfl)⟩
  let#v[s1,s2,s3,s4]:=st;let#v[ks',dss',q1,q2,q3]:=Tg L (A9 ks dss (kv d) d).1 (A9 ks dss (kv d) d).2 (λx hx=>hg x (aU _ hx)) s1 s2 s3;refine⟨ks',dss',?_,λj=>?_,q3⟩
  .delta B2;erw[e1,e2];rw[ao]
   .show q1
   .rw[aW];refine⟨bh (),bc.mpr λds hd=>bh (by have:=(hL ds hd).1;omega)⟩
  .rw[q2 j,s4 j,fI,cp];by_cases c:kv d=j
   .simp[c]
   .simp[c]
def ruN:aH:=["verb", "tests", "deeds", "text", "refuses"]
def ruO(v:Str)(ts ds:List L4.D)(tx:Str)(rf:Bool):L4.D:=.obj 13 ruN [.str v,.lst ts,.lst ds,.str tx,.bl rf]
structure RuOk(w d:L4.D):Prop where
 r:Fm [w,d]=Z (.bl γ)
 g:gK d=γ
 c:Fh [d]=Z d
def RuS(T:List Th)(M:List Mk)(V:List Vb)(d:L4.D):Prop:=∃v∈V++v9,∃ts ds tx rf,d=ruO v.n ts ds tx rf/\(∀t∈ts,Ts T M v.f 2 t)/\∀e∈ds,Ds T M v.f e
def RuQ(T:List Th)(M:List Mk)(V:List Vb)(w d:L4.D):Prop:=RuOk w d/\RuS T M V d
section
variable{T:List Th}{M:List Mk}{dk:aH}{W:List Wy}{V:List Vb}{f:Str}{es:List L4.D}
def NH(nd:((V++v9).flatMap Vb.ws).Nodup){v:Vb}(hv:v∈V++v9):vL [w10 T M dk W V,.str v.n]=Z (vbO v):=by
 have e:vL [w10 T M dk W V,.str v.n]=BB (vwD (V++v9)) (.str v.n):=by kernel_rfl
 rw[e,K2 nd hv]
def V5(h6:∀v∈V,v∈v6)(nd:((V++v9).flatMap Vb.ws).Nodup){v:Vb}(hv:v∈V++v9){ts ds:List L4.D}(ht:∀t∈ts,Tk (w10 T M dk W V) v.f 2 t)(lt:ts.length<=3)(hd:∀d∈ds,Dd (w10 T M dk W V) v.f d)(ld:ds.length<=3){rf:Bool}(hr:rf=γ->ds=[]){tx:Str}(hx:AQ [.str tx]=Z (.bl γ)):RuOk (w10 T M dk W V) (ruO v.n ts ds tx rf):=by
 let w:=w10 T M dk W V;let r:=ruO v.n ts ds tx rf;have hv6:v∈v6++v9:=by
  rcases ba.mp hv with hv|hv
  .show bO _ (h6 v hv)
  .show bE _ hv
 have evo:=NH (T:=T) (M:=M) (dk:=dk) (W:=W) nd hv;have en:zI [w,.str v.n]=Z (.bl γ):=by let ρ:aJ:=[.im w,.im (.str v.n)];have nm:wN [.str v.n]=Z (.bl γ):=CA (bc.mp (show ((v6++v9).all λv=>isT (wN [.str v.n]))=γ by kernel_rfl) v hv6);have mt:tK uR "verb_of" ab bG ρ=Z (vbO v,ρ):=tW (hh:=vL) (ys:=[.str v.n]) (ρ1:=ρ) (ρ2:=ρ) O O O O evo;calc tE (ρ:=ρ) O (tL ((tY (tf (ρ1:=ρ) (ds:=[.str v.n]) O nm)).trans ((tY (ρ1:=ρ) (tD mt O O)).trans (tD (x:=.str v.n) (y:=.str v.n) (uu mt O) O ?_))));rw[vG];simp
 refine⟨?_,?_,by kernel_rfl⟩
 .let ρ:aJ:=[.im w,.im r,.un];let σ:aJ:=[.im w,.im r,.im (.str v.f)];calc tE (ρ:=σ) O ?_;delta Fl;calc(vc (ρ:=ρ) (wF (ρ1:=ρ) O (wF (ρ1:=ρ) (vN (b:=γ) (uz (tf (ds:=[w,.str v.n]) O en))) (vN (b:=γ) (uz (tf (ds:=[.str tx]) O hx)))))).trans ?_;calc(tu (ρ':=σ) ((tQ (ρ':=ρ) (uu (g:=tI yB "form") (z:=.str v.f) (tW (hh:=vL) (ys:=[.str v.n]) (ρ1:=ρ) (ρ2:=ρ) O O O O evo) O)).trans O)).trans (tL ?_);have e1:Cq [w,.str v.f,.lst ts]=Z (.bl γ):=tE (ρ:=[.im w,.im (.str v.f),.im (.lst ts)]) O (tL ((tY (tf (ds:=[.lst ts,.int 5]) (ρ1:=[.im w,.im (.str v.f),.im (.lst ts)]) O (OR _ _ ()))).trans (ym id ts (by rw[fg];rfl) () λt ht'=>⟨[.im t,.im w,.im (.str v.f)],[.im t,.im w,.im (.str v.f)],O,tf (ds:=[w,.str v.f,t,.int 4]) O ((ht t ht').2 4 #[] #[]),O⟩)));have e2:Cr [w,.str v.f,.lst ds]=Z (.bl γ):=tE (ρ:=[.im w,.im (.str v.f),.im (.lst ds)]) O (tL ((tY (tf (ds:=[.lst ds,.int 4]) (ρ1:=[.im w,.im (.str v.f),.im (.lst ds)]) O (OR _ _ ()))).trans (ym id ds (by rw[fg];rfl) () λt ht'=>⟨[.im t,.im w,.im (.str v.f)],[.im t,.im w,.im (.str v.f)],O,tf (ds:=[w,.str v.f,t]) O (hd t ht').2,O⟩)));have e3:xW [r]=Z (.bl γ):=by
   cases rf with
   |false=>kernel_rfl
   |true=>rw[show r=ruO v.n ts [] tx γ from by change ruO v.n ts ds tx γ=_;rw[hr O]];kernel_rfl
  show(tY (tf (ρ1:=σ) (ds:=[w,.str v.f,.lst ts]) O e1)).trans ((tY (tf (ρ1:=σ) (ds:=[w,.str v.f,.lst ds]) O e2)).trans (tf (ds:=[r]) O e3))
 .have e:gK r=(yM 16 14 ts&&(yM 16 14 ds&&γ)):=by kernel_rfl
  rw[e,AV ts λt h=>(ht t h).1,AV ds λt h=>(hd t h).1];rfl
end
def wtL(w:Wy):List L4.D:=[atO "self" w.r,woO w.w]++match w.m with|none=>[]|some m=>[noO (mkO m 0)]
def goO(w:Wy):L4.D:=ruO "go" (wtL w) [mvO "self" w.g] "You go." δ
def A21:List L4.D:=(Bj [.str "self"]).getD []++(Cf []).getD []++(Cg []).getD []++(Ao []).getD []
def SH(W:List Wy):List L4.D:=A21++(W.map goO++[ruO "go" [] [] "No way there." γ])++[ruO "wait" [] [] "Time goes by." δ]
def acn(w:Wy):Ci [.str "self", wyO w]=Z (wtL w):=by let#v[r,x,g,m]:=w;ext m<;>kernel_rfl
def V6(w:Wy):zG [.str "go", .lst (wtL w),.lst [mvO "self" w.g],.str "You go."]=Z (goO w):=by kernel_rfl
def aco(W:List Wy)(hl:W.length<=2):DF [.str "self", WD W]=Z (W.map goO++[ruO "go" [] [] "No way there." γ]):=by
 let ρ:aJ:=[.im (.str "self"),.im (WD W),.un];let σ:aJ:=[.im (.str "self"),.im (WD W),.im (.lst (W.map goO))];calc yL (ρ:=σ) O ?_;delta DE;refine(tu (ρ':=σ) ((tQ (uT (xg wyO goO W (ρ1:=ρ) O () λw _=>⟨[.im (wyO w),.im (.str "self")],[.im (wyO w),.im (.str "self")],O,?_,O⟩))).trans O)).trans ?_
 .show tf (ds:=[.str "go", .lst (wtL w),.lst [mvO "self" w.g],.str "You go."]) (sZ O (sZ (uT (tf (ds:=[.str "self", wyO w]) O (acn w))) (sZ O (sZ O O)))) (V6 w)
 .show xh (w6 (xs:=W.map goO) (ys:=[ruO "go" [] [] "No way there." γ]) (ρ1:=σ) O (by kernel_rfl) (by rw[aq];change W.length+1<=1000;omega))
def OW:A21.length<=50:=nz (by kernel_rfl)
def aaC{W:List Wy}(hl:W.length<=2):(SH W).length<=100:=by have:=OW;delta SH;rw[aM,aM,aM,aq];change A21.length+(W.length+1)+1<=100;omega
def Qu(W:List Wy)(hl:W.length<=2):zH [.str "self", WD W]=Z (SH W):=by
 have:=OW;let ρ:aJ:=[.im (.str "self"),.im (WD W)];refine yL (ρ:=ρ) O (xh (w6 (xs:=A21++(W.map goO++[ruO "go" [] [] "No way there." γ])) (ys:=[ruO "wait" [] [] "Time goes by." δ]) (ρ1:=ρ) (uT (w6 (xs:=A21) (ρ1:=ρ) (by kernel_rfl) (uT (tf (ds:=[.str "self", WD W]) O (aco W hl))) ?_)) (by kernel_rfl) ?_))
 .rw[aM,aq];change A21.length+(W.length+1)<=1000;omega
 .rw[aM,aM,aq];change A21.length+(W.length+1)+1<=1000;omega
def WV(W:List Wy):∀d∈SH W,gK d=γ:=λd hd=>by
 delta SH at hd;rcases ba.mp hd with hd|hd
 .rcases ba.mp hd with hd|hd
  .show bc.mp (show A21.all gK=γ by kernel_rfl) d hd
  .rcases ba.mp hd with hd|hd
   .let#v[w,_,rfl]:=ay.mp hd;let#v[r,x,g,m]:=w;ext m<;>kernel_rfl
   .rw[aY.mp hd];kernel_rfl
 .rw[aY.mp hd];kernel_rfl
def aaD{d:L4.D}(h:gK d=γ):noC 16 14 d=γ:=by delta gK at h;rw[aW]at h;show h.2
section
variable{T:List Th}{M:List Mk}{dk:aH}{W:List Wy}{V:List Vb}{R:List L4.D}
def wA(T:List Th)(M:List Mk)(dk:aH)(W:List Wy)(V:List Vb)(R:List L4.D)(c:L4.D):List L4.D:=[TD T,MD M,.lst (dk.map D.str),WD W,VD V,VD v9,.str "self", .dic (nK T) (T.map thD),mD T M,vwD (V++v9),.lst R,.lst (SH W),.lst R,c]
def wS(T:List Th)(M:List Mk)(dk:aH)(W:List Wy)(V:List Vb)(R:List L4.D)(c:L4.D)(q:Sl)(k:Nat):aJ:=[.ob 14 (wNs.take k) ((wA T M dk W V R c).take k),.im (TD T),.im (MD M),.im (.lst (dk.map D.str)),.im (WD W),.im (VD V),.im (.lst R),q]
def Ml{e:FE}{d:L4.D}{ns:aH}{ds:List L4.D}{r:aJ}{r':aJ}(h1:e (.im (.obj 14 ns ds)::r.map Ad)=Z (d,r'))(h2:noC 16 14 d=γ):CW 16 e (.ob 14 ns ds::r)=Z (d,.ob 14 ns ds::r):=by delta CW;erw[h1,h2];rfl
def IA{nm:Str}{e:FE}{d:L4.D}{ns:aH}{ds:List L4.D}{r:aJ}(h1:e (.ob 14 ns ds::r)=Z (d,.ob 14 ns ds::r))(h2:ns.contains nm=δ)(h3:ds.length=ns.length)(h4:ns.length<900):uC 14 0 nm e (.ob 14 ns ds::r)=Z (.nx (.ob 14 (ns++[nm]) (ds++[d])::r)):=by delta uC;rw[h1];change (if 14=14 then if ns.contains nm=γ then J else if ds.length=ns.length then if ns.length<900 then Z (Out.nx (.ob 14 (ns++[nm]) (ds++[d])::r))else J else J else J)=_;rw[ao O,h2,ak bA,ao h3,ao h4]
def EU(V:List Vb)(lV:V.length<=6)(a b c d:L4.D)(ns:aH)(ds:List L4.D):wz [.obj 14 ("kept_things" ::"kept_marks" ::"kept_dark" ::"kept_ways" ::"kept_verbs" ::"shared_verbs" ::ns) (a::b::c::d::VD V::VD v9::ds)]=Z (VD (V++v9)):=by calc(B3 (ρ:=[.im (.obj 14 ("kept_things" ::"kept_marks" ::"kept_dark" ::"kept_ways" ::"kept_verbs" ::"shared_verbs" ::ns) (a::b::c::d::VD V::VD v9::ds))]) O (xh (w6 (xs:=V.map vbO) (ys:=v9.map vbO) O O (by rw[aq];change V.length+9<=1000;omega)))).trans ?_;rw[<-bK]
def aaE(h6:∀v∈V,v∈v6):noC 16 14 (vwD (V++v9))=γ:=by
 change yM 16 14 _=γ;calc AV _ λd hd=>?_;let#v[v,hv,hd]:=d8.mp hd;let#v[x,_,rfl]:=ay.mp hd;calc bc.mp (show ((v6++v9).all λv=>noC 16 14 (vbO v))=γ by kernel_rfl) v ?_;rcases ba.mp hv with hv|hv
 .show bO _ (h6 v hv)
 .show bE _ hv
def Ti(g:Good T M dk W)(hR:∀r∈R,RuOk (w10 T M dk W v6) r)(lR:R.length<=8):∃ks dss,xY [TD T,MD M,.lst (dk.map D.str),WD W,VD v6,.lst R]=Z (wNs,wA T M dk W v6 R (.dic ks (dss.map .lst)))/\∀j,gl ks dss j=(R++SH W).filter λd=>decide (kv d=j):=by
 have hs:=aaC g.w8;have hl:=g.len;let V:=v6;have lV:V.length<=6:=(by decide:v6.length<=6);have hg:∀d∈R++SH W,gK d=γ:=λd hd=>by
  rcases ba.mp hd with hd|hd
  .show(hR d hd).g
  .show WV W d hd
 let#v[ks,dss,g1,g2,g3]:=Tg (R++SH W) [] [] hg O (by rw[aM];erw[fL];omega) λds h=>(by ext h);let c:L4.D:=.dic ks (dss.map .lst);calc⟨ks,dss,?_,λj=>(g2 j).trans (cz _)⟩;let B:Sl:=.im (.bl γ);have nc:noC 16 14 c=γ:=by change yM 16 14 (dss.map .lst)=γ;show AV _ λd hd=>by let#v[ds,h,rfl]:=ay.mp hd;show g3 ds h
 let S:=wS T M dk W V R c;have e:xX (S .un 0)=Z (.nx (S B 14)):=by
  delta xX;calc(tu (ρ':=S .un 0) (uX (tf (ds:=[TD T,MD M,.lst (dk.map D.str),WD W,VD V,VD v9]) (sZ O (sZ O (sZ O (sZ O (sZ O (sZ (uT (tf (ds:=[]) O S6)) O)))))) (Iv g)))).trans ?_;calc(tu (ρ':=S .un 1) (by kernel_rfl)).trans ((tu (ρ':=S .un 2) (by kernel_rfl)).trans ((tu (ρ':=S .un 3) (by kernel_rfl)).trans ((tu (ρ':=S .un 4) (by kernel_rfl)).trans ((tu (ρ':=S .un 5) (by kernel_rfl)).trans ((tu (ρ':=S .un 6) (by kernel_rfl)).trans ?_)))));have eY:((T.filter λt=>decide (t.k=.you)).map λt=>D.str t.n)=[.str "self"]:=by rw[show (λt:Th=>D.str t.n)=D.str∘Th.n from O,<- br,g.y1];rfl
  calc(tu (ρ':=S .un 7) (IA (r:=(S .un 6).tail) (Ml (d:=.str "self") (r':=(.im (.obj 14 (wNs.take 6) ((wA T M dk W V R c).take 6)))::((S .un 6).tail).map Ad) (tD (x:=.lst [.str "self"]) (tW (xs:=(wA T M dk W V R c).take 6) (ys:=[.str Kd.you.s]) (hh:=yS) O O O O ((DR T () _ _ .you).trans (by rw[eY]))) O O) O) O O #[])).trans ?_;calc(tu (ρ':=S .un 8) (IA (r:=(S .un 7).tail) (tf (ds:=[TD T]) O (NG T () g.ndT)) O O #[])).trans ?_;calc(tu (ρ':=S .un 9) (IA (r:=(S .un 8).tail) (tf (ds:=[TD T,MD M]) O (S7 g)) O O #[])).trans ?_;calc(tu (ρ':=S .un 10) (IA (r:=(S .un 9).tail) (Ml (r':=(.im (.obj 14 (wNs.take 9) ((wA T M dk W V R c).take 9)))::((S .un 9).tail).map Ad) (tf (ds:=[VD (V++v9)]) (sZ (tW (xs:=(wA T M dk W V R c).take 9) (ys:=[]) (hh:=wz) O O O O (EU V lV _ _ _ _ _ _)) O) (ach)) (aaE λv hv=>hv)) O O #[])).trans ?_;refine(tu (ρ':=S B 10) ((tQ (i:=7) (ρ':=S .un 10) (Ml (d:=.bl γ) (r:=(S .un 10).tail) ((tY (ρ1:=.im (w10 T M dk W V)::(S .un 10).tail) (tf (sZ O (sZ O O)) (OR _ _ ()))).trans (ym id R (by rw[fg];rfl) () λr hr=>?_)) O)).trans O)).trans ?_
  .show⟨[.im r,.im (w10 T M dk W V)],[.im r,.im (w10 T M dk W V)],O,tf (ds:=[w10 T M dk W V,r]) O (hR r hr).r,O⟩
  calc(tu (ρ':=S B 10) (by kernel_rfl)).trans ((tu (ρ':=S B 11) (by kernel_rfl)).trans ?_);calc(tu (ρ':=S B 12) (IA (r:=(S B 11).tail) (Ml (d:=.lst (SH W)) (r':=(.im (.obj 14 (wNs.take 11) ((wA T M dk W V R c).take 11)))::((S B 11).tail).map Ad) (uT (tf (ds:=[.str "self", WD W]) O (Qu W g.w8))) (AV _ λd hd=>aaD (WV W d hd))) O O #[])).trans ?_;calc(tu (ρ':=S B 13) (IA (r:=(S B 12).tail) ((uT (xg (ρ1:=S B 12) id id R (by rw[fg];rfl) () λr hr=>⟨[.im r],[.im r],O,tf (ds:=[r]) O (hR r hr).c,O⟩)).trans (by rw[fg];rfl)) O O #[])).trans ?_;calc IA (r:=(S B 13).tail) (Ml (tf (ds:=[.lst (R++SH W)]) (sZ (uT (w6 (xs:=R) (ys:=SH W) O O ())) O) (r:=c) ?_) nc) O O #[];calc tE (ρ:=[.im (.lst (R++SH W)),.un,.un]) O ?_;change (match B2 (tI xT "verb") (R++SH W) [] []with
   |some (ks,dss)=>Z (Out.rt (.dic ks (dss.map .lst)) [.im (.lst (R++SH W)),.un,.un])
   |none=>J)=_
  rw[g1]
 delta xY fnI;rw[ao (show [TD T,MD M,.lst (dk.map D.str),WD W,VD V,.lst R].length=6 from O)];rw[show xX (stI 14 8 [TD T,MD M,.lst (dk.map D.str),WD W,VD V,.lst R])=Z (.nx (S B 14)) from e];rfl
end
theorem J3:∀l:aH,FJ (l.map D.str)=Z l
 |[]=>rfl
 |x::l=>by rw[aN];delta FJ;rw[J3 l]
def w3:aH:=["north", "south"]
def wdN(W:List Wy):aH:=w3.filter λx=>decide (x∈W.map Wy.w)
def V7{l:aH}(h:∀x∈l,x∈w3):B4 (uqK l)=w3.filter λx=>decide (x∈l):=by
 have n3:w3.Nodup:=by decide
 have p3:w3.Pairwise λa b=>leS a b=γ:=by decide
 calc j4 (λa b _ _=>HE a b) (iW HD GH _) (p3.filter _) ((ic _ leS).trans ((List.perm_ext_iff_of_nodup (Nw l) (i6.nodup n3)).mpr λx=>?_));rw[KQ,aZ,b8];show⟨λhx=>⟨h x hx,hx⟩,λhx=>hx.2⟩
section
variable{T:List Th}{M:List Mk}{dk:aH}{W:List Wy}{V:List Vb}{R:List L4.D}{c:L4.D}
def wO(T:List Th)(M:List Mk)(dk:aH)(W:List Wy)(V:List Vb)(R:List L4.D)(c:L4.D):L4.D:=.obj 14 wNs (wA T M dk W V R c)
def Mn(h8:W.length<=2)(hw:∀w∈W,w.w∈(["north", "south"]:aH)):xZ [wO T M dk W V R c]=Z (.lst ((wdN W).map D.str)):=by
 let ρ:aJ:=[.im (wO T M dk W V R c)];calc B3 (ρ:=ρ) O (xh ?_);have e:cL (tR 1 [] (iL (c1 (tI Ag "kept_ways") ab)) (gN 0) uQ (c2 dIx ab aI)) ρ=Z (.lst ((W.map Wy.w).map D.str),ρ):=(uT (xg wyO (λw=>.str w.w) W (ρ1:=ρ) O () λw _=>⟨[.im (wyO w)],[.im (wyO w)],O,O,O⟩)).trans (by rw[br];rfl);change cSortX _ ρ=_;delta cSortX;rw[e];dsimp only;rw[J3];dsimp only;rw[ao (by rw[aq];omega),V7 λx hx=>?_]
 .rfl
 .let#v[w,h,rfl]:=ay.mp hx;show(show ∀x∈(["north", "south"]:aH),x∈w3 by decide) _ (hw w h)
def plN(T:List Th):aH:=(T.filter λt=>t.k.pl).map Th.n
def EV(T:List Th)(hl:T.length<=13):Ap [wO T M dk W V R c]=Z (.lst (T.map λt=>.str t.n)):=by let ρ:aJ:=[.im (wO T M dk W V R c)];show B3 (ρ:=ρ) O (xh (xg thD (λt=>.str t.n) T (ρ1:=ρ) O () λt _=>⟨[.im (thD t)],[.im (thD t)],O,O,O⟩))
def CQ{f h:FS}{ρ ρ':aJ}{ds:List L4.D}(e:f ρ=Z (.rn ds ρ')):tw f h ρ=Z (.rn ds ρ'):=by delta tw;rw[e]
def obF(N Dw:aH)(f:Str):List (L4.D×L4.D):=if f="alone" then [(.non,.non)]else if f="way" then Dw.map λx=>(.str x,.non)else if f="one" then N.map λx=>(.str x,.non)else N.flatMap λa=>N.map λb=>(.str a,.str b)
def p2(q:L4.D×L4.D):L4.D:=.tup [q.1,q.2]
def p3(v:Str)(q:L4.D×L4.D):L4.D:=.tup [.str v,q.1,q.2]
theorem OX(N:aH)(hN:N.length<=7):∀l:aH,(l.flatMap λa=>N.map λb=>(D.str a,D.str b)).length<=7 * l.length
 |[]=>aS _
 |a::l=>by rw[fG,aM,aq,aT];have:=OX N hN l;omega
def Tj(W:List Wy):(wdN W).length<=3:=bM (cK _ _) ((by decide:2<=3))
def aaF{N Dw:aH}(hN:N.length<=7)(hD:Dw.length<=3)(f:Str):(obF N Dw f).length<=49:=by
 delta obF;split
 .decide
 .split
  .rw[aq];omega
  .split
   .rw[aq];omega
   .have:=OX N hN N;omega
theorem Mo{a b x:Sl}(N:aH)(hN:N.length<=7):∀(l:aH) (acc:List (L4.D×L4.D)) (s:Sl),acc.length+7 * l.length<=900->∃s',forL (gN 4) (uq (Hg 3 (tR 1 [4] (iL aj) (gN 0) uQ (uv dF)))) (l.map D.str) [a,b,.im (.lst (N.map D.str)),.ls (acc.map p2),s]=Z (.nx [a,b,.im (.lst (N.map D.str)),.ls ((acc++l.flatMap λa=>N.map λb=>(D.str a,D.str b)).map p2),s'])
 |[],acc,s,_=>⟨s,by rw[List.flatMap_nil,bQ];rfl⟩
 |y::l,acc,s,hl=>by rw[aT]at hl;let Q:Sl:=.im (.lst (N.map D.str));let Y:Sl:=.im (.str y);let nw:List (L4.D×L4.D):=N.map λb=>(D.str y,D.str b);let#v[s',e]:=Mo (a:=a) (b:=b) (x:=x) N hN l (acc++nw) Y (by rw[aM];change acc.length+(N.map _).length+7 * l.length<=900;rw[aq];omega);calc⟨s',?_⟩;rw[aN];delta forL;let ρ:aJ:=[a,b,Q,.ls (acc.map p2),Y];rw[show gN 4 (.str y) [a,b,Q,.ls (acc.map p2),s]=Z ρ from O];have ec:tR 1 [4] (iL aj) (gN 0) uQ (uv dF) ρ=Z (nw.map p2,ρ):=(xg D.str (λz=>.tup [.str y,.str z]) N (ρ1:=ρ) O () λz _=>⟨[.im (.str z),Y],[.im (.str z),Y],O,O,O⟩).trans (by change _=Z ((N.map _).map p2,ρ);rw[br];rfl);have e1:uq (Hg 3 (tR 1 [4] (iL aj) (gN 0) uQ (uv dF))) ρ=Z (.nx [a,b,Q,.ls ((acc++nw).map p2),Y]):=(uX (RW (i:=3) (es0:=acc.map p2) (es:=acc.map p2) (ρ1:=ρ) O ec O (by rw[aq,aq];change acc.length+(N.map _).length<=1000;rw[aq];omega))).trans (by rw[bK];rfl);erw[e1];rw[e,fG,cp]
def NI(g:Good T M dk W){f:Str}(hf:f∈fms):we [wO T M dk W V R c,.str f]=Z ((obF (plN T) (wdN W) f).map p2):=by
 have hl:=g.len;let w:=wO T M dk W V R c;have lN:(plN T).length<=7:=by delta plN;rw[aq];show g.p7
 have ld:=Tj W;have nms:∀F:Sl,tR 1 [0] (iL (tK u7 "names" ab uk)) (gN 0) (cT (tK uP "is_plainly" (tK tJ "thing_of" ai bI) uk)) ab [.im w,F,.un,.un,.un]=Z ((plN T).map D.str,[.im w,F,.un,.un,.un]):=λF=>by
  let ρ:aJ:=[.im w,F,.un,.un,.un];refine(yk (λt:Th=>D.str t.n) (λt=>.str t.n) (λt=>t.k.pl) T (ρ1:=ρ) ?_ () λt ht=>⟨[.im (.str t.n),.im w],[.im (.str t.n),.im w],O,?_,λ_=>⟨_,O,O⟩,λ_=>O⟩).trans (by delta plN;rw[br];rfl)
  .delta iL;rw[tW (g:=u7) (m:="names") (e:=cV 0) (a:=uk) (ρ:=ρ) (hh:=Ap) (xs:=wA T M dk W V R c) (ys:=[]) (ρ1:=ρ) (ρ2:=ρ) O O O O (EV T hl)]
  .have e0:vh [w,.str t.n]=Z ((vp (nK T) (T.map thD) (kS t.n)).getD .non):=by kernel_rfl
   rw[ER g.ndT thD ht]at e0;calc uz (tW (hh:=xw) (xs:=[.str t.n,.tup (t.w.map D.str),.str t.k.s,oS t.s]) (ys:=[]) (ρ1:=[.im (.str t.n),.im w]) (ρ2:=[.im (.str t.n),.im w]) ?_ O O O (EN t));show tW (hh:=vh) (xs:=wA T M dk W V R c) (ys:=[.str t.n]) (ρ1:=[.im (.str t.n),.im w]) (ρ2:=[.im (.str t.n),.im w]) O O O O e0
 let NL:Sl:=.im (.lst ((plN T).map D.str));have s2:∀F:Sl,tV 2 (cL (tR 1 [0] (iL (tK u7 "names" ab uk)) (gN 0) (cT (tK uP "is_plainly" (tK tJ "thing_of" ai bI) uk)) ab)) [.im w,F,.un,.un,.un]=Z (.nx [.im w,F,NL,.un,.un]):=λF=>(tQ (uT (nms F))).trans O;erw[fms,aQ,cw,or_false]at hf;rcases hf with rfl|rfl|rfl|rfl
 .let ρ:aJ:=[.im w,.im (.str "one"),NL,.un,.un];calc yL (ρ:=ρ) O ?_;delta wX;calc(vc O).trans ((vc O).trans ((tu (s2 _)).trans (CQ ((ud O).trans (xh ((xg D.str (λx=>.tup [.str x,.non]) (plN T) (ρ1:=ρ) O () λx _=>⟨[.im (.str x)],[.im (.str x)],O,O,O⟩).trans ?_))))));change _=Z (((plN T).map λx=>(D.str x,D.non)).map p2,ρ);rw[br];rfl
 .let#v[s',e]:=Mo (a:=.im w) (b:=.im (.str "two")) (x:=.un) (plN T) lN (plN T) [] .un (by simp;omega);calc yL (ρ:=[.im w,.im (.str "two"),NL,.un,s']) O ?_;delta wX;calc(vc O).trans ((vc O).trans ((tu (s2 _)).trans ((vc O).trans ((tu (ρ':=[.im w,.im (.str "two"),NL,.ls [],.un]) O).trans ((tu ((uO (ds:=(plN T).map D.str) (ρ1:=[.im w,.im (.str "two"),NL,.ls [],.un]) O).trans e)).trans ?_)))));rfl
 .calc yL (ρ:=[.im w,.im (.str "alone"),.un,.un,.un]) O ?_;delta wX;show CQ ((ud O).trans O)
 .let ρ:aJ:=[.im w,.im (.str "way"),.un,.un,.un];calc yL (ρ:=ρ) O ?_;delta wX;refine(vc O).trans (CQ ((ud O).trans (xh ((xg D.str (λx=>.tup [.str x,.non]) (wdN W) (ρ1:=ρ) ?_ () λx _=>⟨[.im (.str x)],[.im (.str x)],O,O,O⟩).trans ?_))))
  .change iL _ ρ=_;delta iL;rw[tW (g:=wm) (m:="way_words") (e:=cV 0) (a:=uk) (ρ:=ρ) (hh:=xZ) (xs:=wA T M dk W V R c) (ys:=[]) (ρ1:=ρ) (ρ2:=ρ) O O O O (Mn g.w8 λw hw=>(g.wo w hw).hw)]
  .change _=Z (((wdN W).map λx=>(D.str x,D.non)).map p2,ρ);rw[br];rfl
end
def nf(v:Vb):Str×Str:=(v.n,v.f)
def v_fm{v:Vb}(h:v∈v6++v9):v.f∈fms:=bF (bc.mp (show ((v6++v9).all λv=>decide (v.f∈fms))=γ by kernel_rfl) v h)
def cmV(N Dw:aH)(v:Str×Str):List L4.D:=(obF N Dw v.2).map (p3 v.1)
def cmA(N Dw:aH)(Q:List (Str×Str)):List L4.D:=Q.flatMap (cmV N Dw)
section
variable{T:List Th}{M:List Mk}{dk:aH}{W:List Wy}{V:List Vb}{R:List L4.D}{c:L4.D}
theorem OY(g:Good T M dk W):∀(L:List Vb) (acc:List L4.D) (s:Sl),(∀v∈L,v.f∈fms)->acc.length+49 * L.length<=900->∃s',forL (gN 2) (uq (Hg 1 (tR 2 [2] (iL (cL (uN we jN))) (gT jF 2) uQ (uv jS)))) (L.map vbO) [.im (wO T M dk W V R c),.ls acc,s]=Z (.nx [.im (wO T M dk W V R c),.ls (acc++cmA (plN T) (wdN W) (L.map nf)),s'])
 |[],acc,s,_,_=>⟨s,by change _=Z (Out.nx [_,.ls (acc++[]),s]);rw[bQ];rfl⟩
 |v::L,acc,s,hf,hl=>by
  rw[aT]at hl;have lN:(plN T).length<=7:=by delta plN;rw[aq];show g.p7
  have lo:=aaF lN (Tj W) v.f;let w:=wO T M dk W V R c;let nw:List L4.D:=cmV (plN T) (wdN W) (nf v);have ln:nw.length<=49:=by change (iE _ _).length<=49;rw[aq];show lo
  let#v[s',e]:=OY g L (acc++nw) (.im (vbO v)) (λu hu=>hf u (aU _ hu)) (by rw[aM];omega);calc⟨s',?_⟩;rw[aN];delta forL;let ρ:aJ:=[.im w,.ls acc,.im (vbO v)];rw[show gN 2 (vbO v) [.im (wO T M dk W V R c),.ls acc,s]=Z ρ from O];have ec:tR 2 [2] (iL (cL (uN we jN))) (gT jF 2) uQ (uv jS) ρ=Z (nw,ρ):=by calc xg p2 (p3 v.n) (obF (plN T) (wdN W) v.f) (ρ1:=ρ) ?_ () λq _=>⟨[.im q.1,.im q.2,.im (vbO v)],[.im q.1,.im q.2,.im (vbO v)],O,O,O⟩;delta iL;rw[uT (tf (g:=we) (ds:=[w,.str v.f]) (ρ1:=ρ) O (NI g (hf v aR)))]
  have e1:uq (Hg 1 (tR 2 [2] (iL (cL (uN we jN))) (gT jF 2) uQ (uv jS))) ρ=Z (.nx [.im w,.ls (acc++nw),.im (vbO v)]):=(uX (RW (i:=1) (es0:=acc) (es:=acc) (ρ1:=ρ) O ec O ())).trans O;erw[e1];rw[e,cp];rfl
def aaG(h6:∀v∈V,v∈v6):∀v∈V++v9,v.f∈fms:=λv hv=>v_fm (by
 rcases ba.mp hv with hv|hv
 .show bO _ (h6 v hv)
 .show bE _ hv)
def Mp(g:Good T M dk W)(h6:∀v∈V,v∈v6)(lV:V.length<=6):Bq [wO T M dk W V R c]=Z (cmA (plN T) (wdN W) ((V++v9).map nf)):=by
 let w:=wO T M dk W V R c;have l15:(V++v9).length<=15:=by rw[aM];change V.length+9<=15;omega
 let#v[s',e]:=OY g (V:=V) (R:=R) (c:=c) (V++v9) [] .un (aaG h6) (by erw[fL];omega);calc yL (ρ:=[.im w,.un,s']) O ?_;delta DP;calc(tu (ρ':=[.im w,.ls [],.un]) O).trans ((tu ((uO (ds:=(V++v9).map vbO) (ρ1:=[.im w,.ls [],.un]) ?_).trans e)).trans O);delta iL;rw[tW (g:=wj) (m:="all_verbs") (e:=cV 0) (a:=uk) (ρ:=[.im w,.ls [],.un]) (hh:=wz) (xs:=wA T M dk W V R c) (ys:=[]) (ρ1:=[.im w,.ls [],.un]) (ρ2:=[.im w,.ls [],.un]) O O O O (EU V lV _ _ _ _ _ _)]
end
def CB{e:FE}{ρ ρ1:aJ}{ds:List L4.D}(h:e ρ=Z (.lst ds,ρ1)):iL e ρ=Z (ds,ρ1):=by delta iL;rw[h]
abbrev Ky:=Str×Str
def kD(k:Ky):L4.D:=.tup [.str k.1,.str k.2]
def sD(P:List Ky)(v:Ky->L4.D):L4.D:=.tup (P.map λk=>.tup [kD k,v k])
def OZ(k j:Ky):dEq δ (kD k) (kD j)=Z (.bl (decide (k=j))):=by let#v[a,b]:=k;let#v[c,d]:=j;have e0:KB δ (.tup [.str a,.str b]) (.tup [.str c,.str d])=J:=rfl;have e1:RG δ (.tup [.str a,.str b]) (.tup [.str c,.str d])=Z (.bl (L3.eqD (.tup [.str a,.str b]) (.tup [.str c,.str d]))):=rfl;delta dEq kD;rw[e0];simp only;rw[e1];congr 2;rw[dM];simp[L3.eqD,L3.Aw]
theorem IB(p:Sl)(k:Ky)(v:Ky->L4.D):∀(P:List Ky) (s:Sl),∃s',forL (gN 2) (sIf (cT (c2 (dEq δ) (c2 dIx aj aA) ai)) (tG (c2 dIx aj aI)) tN) (P.map λk=>.tup [kD k,v k]) [p,.im (kD k),s]=Z (if k∈P then .rt (v k) [p,.im (kD k),s']else .nx [p,.im (kD k),s'])
 |[],s=>⟨s,by rw[ak cw];rfl⟩
 |q::P,s=>by
  let Q:Sl:=.im (.tup [kD q,v q]);have ev:cT (c2 (dEq δ) (c2 dIx aj aA) ai) [p,.im (kD k),Q]=Z (decide (q=k),[p,.im (kD k),Q]):=uz (tD (x:=kD q) (y:=kD k) O O (OZ _ _));rw[aN];delta forL;rw[show gN 2 (.tup [kD q,v q]) [p,.im (kD k),s]=Z [p,.im (kD k),Q] from O];by_cases h:q=k
  .rw[bh h]at ev;calc⟨Q,?_⟩;erw[ud ev];rw[ao (by rw[h];show aR),<- h];rfl
  .rw[bj h]at ev;let#v[s',h1]:=IB p k v P Q;calc⟨s',?_⟩;erw[uo ev,tN];rw[h1];by_cases hm:k∈P
   .rw[ao hm,ao (aU _ hm)]
   .rw[ak hm,ak λz=>by rcases aQ.mp z with z|z;show h z.symm;show hm z]
def Mq(P:List Ky)(v:Ky->L4.D)(k:Ky):Bm [sD P v,kD k]=Z (if k∈P then v k else .non):=by
 let#v[s',h]:=IB (.im (sD P v)) k v P .un;by_cases hm:k∈P
 .rw[ao hm]at h ⊢;show tE (ρ:=[.im (sD P v),.im (kD k),s']) O (tZ ((uO O).trans h))
 .rw[ak hm]at h ⊢;show tE (ρ:=[.im (sD P v),.im (kD k),s']) O ((tu ((uO O).trans h)).trans O)
def up(v:Ky->L4.D)(k:Ky)(d:L4.D):Ky->L4.D:=λq=>if q=k then d else v q
def GQ(P:List Ky)(hP:P.length<=900)(v:Ky->L4.D)(k:Ky)(d:L4.D):v7 [sD P v,kD k,d]=Z (sD P (up v k d)):=by
 let ρ:aJ:=[.im (sD P v),.im (kD k),.im d];calc tE (ρ:=ρ) O (tL ?_);have e:cL (tR 1 [1,2] (iT ab) (gN 0) uQ (cIf (cT (c2 (dEq δ) (c2 dIx ab aA) ai)) (uv cj) ab)) ρ=Z (.lst (P.map λq=>.tup [kD q,up v k d q]),ρ):=by
  calc uT (xg (λq:Ky=>.tup [kD q,v q]) (λq=>.tup [kD q,up v k d q]) P (ρ1:=ρ) O () λq _=>⟨[.im (.tup [kD q,v q]),.im (kD k),.im d],[.im (.tup [kD q,v q]),.im (kD k),.im d],O,?_,O⟩);have ev:cT (c2 (dEq δ) (c2 dIx ab aA) ai) [.im (.tup [kD q,v q]),.im (kD k),.im d]=Z (decide (q=k),[.im (.tup [kD q,v q]),.im (kD k),.im d]):=uz (tD (x:=kD q) (y:=kD k) O O (OZ _ _));delta cIf up;rw[ev];by_cases h:q=k
  .rw[bh h,ao h,h];rfl
  .rw[bj h,ak h];rfl
 change Ea _ ρ=_;delta Ea;rw[e];rfl
def va(at_:Str->Str)(mk:Str->Int):Ky->L4.D:=λk=>if k.1="at" then .str (at_ k.2)else .int (mk k.2)
def ups{α:Type}(f:Str->α)(x:Str)(d:α):Str->α:=λy=>if y=x then d else f y
def WX(at_:Str->Str)(mk:Str->Int)(x d:Str)(P:List Ky):sD P (up (va at_ mk) ("at", x) (.str d))=sD P (va (ups at_ x d) mk):=by
 delta sD;congr 1;calc ku λk _=>?_;let#v[a,y]:=k;delta up va ups;by_cases h:a="at"
 .subst h;by_cases h2:y=x
  .subst h2;simp
  .simp[h2]
 .simp[h]
def WY(at_:Str->Str)(mk:Str->Int)(x:Str)(d:Int)(P:List Ky)(hP:∀k∈P,k.1="at" \/ k.1="mark"):sD P (up (va at_ mk) ("mark", x) (.int d))=sD P (va at_ (ups mk x d)):=by
 delta sD;congr 1;calc ku λk hk=>?_;have hk:=hP k hk;let#v[a,y]:=k;delta up va ups;rcases hk with h|h
 .have h:a="at" := h;subst h;have:¬("at" : Str)="mark" := by decide
  simp[this]
 .have h:a="mark" := h;subst h;have:¬("mark" : Str)="at" := by decide
  by_cases h2:y=x
  .subst h2;simp[this]
  .simp[h2,this]
def getD_map{α β:Type}(f:α->β)(a:α)(b:β)(l:List α){i:Nat}(h:i<l.length):(l.map f).getD i b=f (l.getD i a):=by rw[cF,cF,bC,bg h];rfl
def IC{α:Type}(d:α):∀l:List α,(bu l.length).map (λi=>l.getD i d)=l:=λl=>by
 apply List.ext_getElem
 .rw[aq,cN]
 .intro i h1 h2;rw[List.getElem_map,List.getElem_range,cF,bg h2];rfl
def kL2(k:Ky):aH:=[k.1,k.2]
theorem Ms:∀P:List Ky,B5 (P.map kD)=Z (P.map kL2)
 |[]=>rfl
 |q::P=>by rw[aN];delta B5;rw[Ms P];rfl
def To(P:List Ky)(h0:0<P.length)(h1:P.length<64):∃Rk:List Ky,Rk.Perm P/\HG (P.map kD)=Z (Rk.map kD):=by
 let c:Nat->Nat->Bool:=λi j=>IZ ((P.map kL2).getD i []) ((P.map kL2).getD j []);refine⟨(Nj c P.length).map λi=>P.getD i ("", ""),?_,?_⟩
 .have:=(E6 c h0).map λi=>P.getD i ("", "");rw[IC]at this;show this
 .delta HG;rw[Ms];erw[aq];rw[ao ⟨h0,h1⟩,br];congr 1;show ku λi hi=>getD_map kD ("", "") .non P (KH c h0 i hi)
def nrN(T:List Th):aH:=(T.filter λt=>!decide (t.k=.room)).map Th.n
def PT(T:List Th)(M:List Mk):List Ky:=((nrN T).map λx=>(("at", x):Ky))++(mkN T M).map λx=>(("mark", x):Ky)
def K5(t:Th):dEq γ (.str t.k.s) (.str "room")=Z (.bl (!decide (t.k=.room))):=by cases t.k<;>kernel_rfl
section
variable{T:List Th}{M:List Mk}{dk:aH}{W:List Wy}{V:List Vb}{R:List L4.D}{c:L4.D}{P:List Ky}
def NJ(T:List Th):(nrN T).length<=T.length:=by delta nrN;rw[aq];show cK _ _
def Tp(T:List Th)(M:List Mk):(mkN T M).length<=T.length+M.length:=by delta mkN;rw[aM,aq,aq];have:=cK (λt:Th=>t.k.mk) T;omega
def Mu(g:Good T M dk W):∃t∈T,t.n="self" /\ t.k=.you:=by
 have h:("self" : Str)∈(T.filter λt=>decide (t.k=.you)).map Th.n:=by rw[g.y1];show aY.mpr O
 let#v[t,ht,e]:=ay.mp h;rw[aZ]at ht;show⟨t,ht.1,e,bF ht.2⟩
def K6{T:List Th}(nd:(T.map Th.n).Nodup){t u:Th}(ht:t∈T)(hu:u∈T)(e:t.n=u.n):t=u:=by
 induction T with
 |nil=>cases ht
 |cons a T ih=>
  rw[aN,dg]at nd;rcases aQ.mp ht with h1|h1<;>rcases aQ.mp hu with h2|h2
  .rw[h1,h2]
  .show ar (show a.n∈T.map Th.n from by rw[<-h1,e];show ay.mpr ⟨_,h2,O⟩) nd.1
  .show ar (show a.n∈T.map Th.n from by rw[<-h2,<- e];show ay.mpr ⟨_,h1,O⟩) nd.1
  .show ih nd.2 h1 h2
def Fp(nd:(T.map Th.n).Nodup)(p:Th->Bool){t:Th}(ht:t∈T):t.n∈(T.filter p).map Th.n ↔ p t=γ:=by
 constructor
 .intro h;let#v[u,hu,e]:=ay.mp h;rw[aZ]at hu;rw[<-K6 nd hu.1 ht e];show hu.2
 .show λh=>ay.mpr ⟨t,aZ.mpr ⟨ht,h⟩,O⟩
def J4(g:Good T M dk W):("self" : Str)∈nrN T:=by let#v[t,ht,e,k]:=Mu g;rw[<-e];show(Fp g.ndT _ ht).mpr (by rw[k];rfl)
def K7(g:Good T M dk W):0<(PT T M).length/\(PT T M).length<64:=by have h1:=NJ T;have h2:=Tp T M;have h3:=j7 (J4 g);have h4:=g.len;have h5:=g.m4;delta PT;rw[aM,aq,aq];omega
def ID(h:P.Perm (PT T M))(x:Str):(("at", x):Ky)∈P ↔ x∈nrN T:=by
 rw[h.mem_iff];delta PT;rw[ba,ay,ay];constructor
 .rintro(⟨y,hy,e⟩|⟨y,hy,e⟩)
  .injection e with _ e;rw[<-e];show hy
  .injection e with e _;show ar e #[]
 .show λh=>.inl ⟨x,h,O⟩
def O0(h:P.Perm (PT T M))(x:Str):(("mark", x):Ky)∈P ↔ x∈mkN T M:=by
 rw[h.mem_iff];delta PT;rw[ba,ay,ay];constructor
 .rintro(⟨y,hy,e⟩|⟨y,hy,e⟩)
  .injection e with e _;show ar e #[]
  .injection e with _ e;rw[<-e];show hy
 .show λh=>.inr ⟨x,h,O⟩
def Mw(h:P.Perm (PT T M)):∀k∈P,k.1="at" \/ k.1="mark" := λk hk=>by
 have hk:=h.mem_iff.mp hk;delta PT at hk;rw[ba,ay,ay]at hk;rcases hk with ⟨y,_,rfl⟩|⟨y,_,rfl⟩
 .show .inl O
 .show .inr O
def Tr(g:Good T M dk W):∃Rk:List Ky,Rk.Perm (PT T M)/\vE [wO T M dk W V R c]=Z (.lst (Rk.map kD)):=by
 have hT:=g.len;have hM:=g.m4;let#v[h0,h1]:=K7 g;let#v[Rk,pR,e]:=To (PT T M) h0 h1;calc⟨Rk,pR,?_⟩;let w:=wO T M dk W V R c;let at':L4.D:=.lst ((nrN T).map λx=>kD ("at", x));let mk':L4.D:=.lst ((mkN T M).map λx=>kD ("mark", x));let ρ:Sl->Sl->aJ:=λp q=>[.im w,p,q];have l1:=NJ T;have l2:=Tp T M;have e1:tR 1 [] (iL (c1 (tI vK "kept_things") ab)) (gN 0) (cT (c2 (dEq γ) (c1 (tI ua "kind") ab) bX)) (uv (aCons iK my)) (ρ .un .un)=Z ((T.filter λt=>!decide (t.k=.room)).map λt=>kD ("at", t.n),ρ .un .un):=
  yk thD (λt=>kD ("at", t.n)) (λt=>!decide (t.k=.room)) T (ρ1:=ρ .un .un) O () λt _=>⟨[.im (thD t)],[.im (thD t)],O,uz (tD (uu O (yV t)) O (K5 t)),λ_=>⟨_,O,O⟩,λ_=>O⟩
 have e2:tR 1 [] (iL (cL (uN wU qB))) (gN 0) uQ (uv (aCons dE bI)) (ρ (.im at') .un)=Z ((mkN T M).map λx=>kD ("mark", x),ρ (.im at') .un):=
  xg D.str (λx=>kD ("mark", x)) (mkN T M) (ρ1:=ρ (.im at') .un) (CB (uT (tf (sZ O (sZ O O)) (Dm T M () hM)))) () λx _=>⟨[.im (.str x)],[.im (.str x)],O,O,O⟩
 have e3:E8 (cL (xn ai aj)) (ρ (.im at') (.im mk'))=Z (Rk.map kD,ρ (.im at') (.im mk')):=by
  have q:cL (xn ai aj) (ρ (.im at') (.im mk'))=Z (.lst ((PT T M).map kD),ρ (.im at') (.im mk')):=by calc(uT (w6 (xs:=(nrN T).map λx=>kD ("at", x)) (ys:=(mkN T M).map λx=>kD ("mark", x)) O O (by rw[aq,aq];omega))).trans ?_;delta PT;rw[bK,br,br];rfl
  delta E8;rw[q];erw[e]
 calc B3 (ρ:=ρ (.im at') (.im mk')) O ?_;calc(tu (ρ':=ρ (.im at') .un) ((tQ (uT e1)).trans ?_)).trans ((tu (ρ':=ρ (.im at') (.im mk')) ((tQ (uT e2)).trans O)).trans (xh e3));change Z (Out.nx [Sl.im w,.im (.lst ((T.filter λt=>!decide (t.k=.room)).map λt=>kD ("at", t.n))),.un])=Z (Out.nx [Sl.im w,.im (.lst (((T.filter λt=>!decide (t.k=.room)).map Th.n).map λx=>kD ("at", x))),.un]);rw[br];rfl
def x6(nd:(T.map Th.n).Nodup){t:Th}(ht:t∈T):vh [wO T M dk W V R c,.str t.n]=Z (thD t):=by calc tE (ρ:=[.im (wO T M dk W V R c),.im (.str t.n)]) O (tL (tD (x:=.dic (nK T) (T.map thD)) (y:=.str t.n) O O ?_));change Z ((vp (nK T) (T.map thD) (kS t.n)).getD .non)=_;rw[ER nd thD ht];rfl
def Qv(g:Good T M dk W):Bl [wO T M dk W V R c]=Z (.dic (M.map λm=>kS m.n) (M.map λm=>D.int m.st)):=by
 let w:=wO T M dk W V R c;have nd:((M.map λm=>kS m.n)).Nodup:=by have:=(cq.mp g.nd).2.1;rw[show (λm:Mk=>kS m.n)=kS∘Mk.n from O,<- br];show ou.mpr (this.imp λh e=>h (ND e))
 have hm:=g.m4;let#v[s',e]:=AU (g:=gN 2) (i:=1) (fk:=c1 (tI uc "name") aj) (fv:=c1 (tI vg "start") aj) mkD Mk.n (λm=>D.int m.st) (λks ds s=>[.im w,.dk ks ds,s])
  (λm ks ds s=>⟨[.im w,.dk ks ds,.im (mkD m)],O,O,O,O,λks' ds'=>⟨_,O⟩⟩) M [] [] .un (by rw[cz];show nd) (by simp;omega) O
 rw[cz,cz]at e;calc tE (ρ:=[.im w,.im (.dic (M.map λm=>kS m.n) (M.map λm=>D.int m.st)),s']) O ?_;calc(tu (ρ':=[.im w,.dk [] [],.un]) O).trans ?_;calc(tu ((uO (ds:=M.map mkD) (ρ1:=[.im w,.dk [] [],.un]) ?_).trans e)).trans O;show CB (tW (m:="own_marks") (ns:=wNs) (xs:=wA T M dk W V R c) (ys:=[]) O O O O O)
def Tt(g:Good T M dk W){t:Th}(ht:t∈T)(st:L4.D):w9 [wO T M dk W V R c,st,kD ("at", t.n)]=Z (oS t.s):=by let ρ:aJ:=[.im (wO T M dk W V R c),.im st,.im (kD ("at", t.n))];calc tE (ρ:=ρ) O (tZ ((ud (ρ':=ρ) (uz (tD (x:=.str "at") (y:=.str "at") O O (by rw[vG];rfl)))).trans (tL (uu (tW (m:="thing_of") (ns:=wNs) (xs:=wA T M dk W V R c) (ys:=[.str t.n]) O O O O (x6 g.ndT ht)) (GO t)))))
def NK(x:Str)(ks:List Key)(ds:List L4.D):w9 [wO T M dk W V R c,.dic ks ds,kD ("mark", x)]=Z ((vp ks ds (kS x)).getD (.int 0)):=by let ρ:aJ:=[.im (wO T M dk W V R c),.im (.dic ks ds),.im (kD ("mark", x))];calc tE (ρ:=ρ) O ((tu (ρ':=ρ) ((uo (ρ':=ρ) (uz (tD (x:=.str "mark") (y:=.str "at") O O (by rw[vG];rfl)))).trans O)).trans O)
theorem Mx{α:Type}(kf:α->Key)(vf:α->Int)(k:Key):∀l:List α,∃z,(vp (l.map kf) (l.map λa=>D.int (vf a)) k).getD (.int 0)=.int z
 |[]=>⟨0,O⟩
 |a::l=>by
  rw[aN,aN];delta vp;split
  .show⟨vf a,O⟩
  .show Mx kf vf k l
def at0(T:List Th)(x:Str):Str:=((T.find? λt=>decide (t.n=x)).bind Th.s).getD ""
def K8(nd:(T.map Th.n).Nodup){t:Th}(ht:t∈T):at0 T t.n=t.s.getD "" := by
 delta at0;cases h:T.find? λu=>decide (u.n=t.n)with
 |none=>show ar (List.find?_eq_none.mp h t ht) (by simp)
 |some u=>rw[K6 nd (List.mem_of_find?_eq_some h) ht (bF (List.find?_some (p:=λu:Th=>decide (u.n=t.n)) h))];rfl
def O1(g:Good T M dk W){t:Th}(ht:t∈T)(h:t.k≠.room):∃p,t.s=Z p/\p∈hdN T/\(t.k=.you->p∈rmN T):=by
 have h2:=g.st t ht;delta CO at h2;have rh:∀p,p∈rmN T->p∈hdN T:=λp hp=>by let#v[u,hu,e]:=ay.mp hp;rw[aZ]at hu;show ay.mpr ⟨u,aZ.mpr ⟨hu.1,by rw[bF hu.2];rfl⟩,e⟩
 cases hs:t.s with
 |none=>rw[hs]at h2;cases hk:t.k<;>rw[hk]at h2 h<;>first|show ar O h|show h2.elim
 |some p=>rw[hs]at h2;calc⟨p,O,?_⟩;cases hk:t.k<;>rw[hk]at h2 h<;>first|show ar O h|show⟨rh p h2,λ_=>h2⟩|show⟨h2,λz=>by ext z⟩
def Tu(g:Good T M dk W):∃(P:List Ky) (m:Str->Int),P.Perm (PT T M)/\vE [wO T M dk W V R c]=Z (.lst (P.map kD))/\(∀x,(vp (M.map λm=>kS m.n) (M.map λm=>D.int m.st) (kS x)).getD (.int 0)=.int (m x))/\xf [wO T M dk W V R c]=Z (sD P (va (at0 T) m)):=by
 let#v[Rk,pR,eR]:=Tr (c:=c) g;have hm:∀x,∃z,(vp (M.map λm=>kS m.n) (M.map λm=>D.int m.st) (kS x)).getD (.int 0)=.int z:=λx=>Mx (λm:Mk=>kS m.n) Mk.st (kS x) M;calc⟨Rk,λx=>(hm x).choose,pR,eR,λx=>(hm x).choose_spec,?_⟩;let w:=wO T M dk W V R c;let st:L4.D:=.dic (M.map λm=>kS m.n) (M.map λm=>D.int m.st);have hR:Rk.length<64:=by rw[pR.length_eq];show(K7 g).2
 have val:∀k∈Rk,w9 [w,st,kD k]=Z (va (at0 T) (λx=>(hm x).choose) k):=λk hk=>by
  let#v[a,x]:=k;rcases Mw pR _ hk with h|h
  .have h:a="at" := h;subst h;have hx:=(ID pR x).mp hk;let#v[t,ht,rfl]:=ay.mp hx;rw[aZ]at ht;let#v[p,hp,_]:=O1 g ht.1 (λz=>by rw[z]at ht;show ar ht.2 #[]);rw[Tt g ht.1];delta va;rw[ao O,K8 g.ndT ht.1,hp];rfl
  .have h:a="mark" := h;subst h;rw[NK,(hm x).choose_spec];delta va;rw[ak (show ¬("mark" : Str)="at" by decide)]
 let ρ:aJ:=[.im w,.im st];calc tE (ρ:=ρ) O ((tu (ρ':=ρ) ((tQ (tf (sZ O O) (Qv g))).trans O)).trans (tL ?_));have e:=xg (k:=1) (cap:=[0,1]) (g:=gN 0) (fe:=uv qW) (s:=iL (tK uW "parts" ab uk)) (ρ:=ρ) (ρ1:=ρ) kD (λk=>.tup [kD k,va (at0 T) (λx=>(hm x).choose) k]) Rk
  (CB (tW (m:="parts") (ns:=wNs) (xs:=wA T M dk W V R c) (ys:=[]) O O O O eR)) () λk hk=>⟨[.im (kD k),.im w,.im st],[.im (kD k),.im w,.im st],O,M3 (sZ O (sZ (tf (sZ O (sZ O (sZ O O))) (val k hk)) O)) (show 2<=1000 by decide),O⟩
 change Ea _ ρ=_;delta Ea;rw[uT e];rfl
end
inductive Ch(T:List Th) (a:Str->Str):Str->aH->Prop
 |nil {x:Str} (h:x∉nrN T):Ch T a x []
 |cons {x:Str} {l:aH} (h:x∈nrN T) (c:Ch T a (a x) l):Ch T a x (a x::l)
structure Inv(T:List Th)(a:Str->Str):Prop where
 me:a "self" ∈ rmN T
 hd:∀x∈nrN T,a x∈hdN T
 ch:∀x,∃l,Ch T a x l
section
variable{T:List Th}{M:List Mk}{dk:aH}{W:List Wy}{V:List Vb}{R:List L4.D}{c:L4.D}{P:List Ky}{a:Str->Str}{m:Str->Int}
def aaH{x:Str}{l l':aH}(h:Ch T a x l):Ch T a x l'->l=l':=by
 induction h generalizing l' with
 |nil h=>intro h';cases h' with
  |nil _=>rfl
  |cons h' _=>show ar h' h
 |cons h _ ih=>intro h';cases h' with
  |nil h'=>show ar h h'
  |cons _ d=>rw[ih d]
def aaI{x:Str}{l:aH}(h:Ch T a x l):∀y∈l,∃l',Ch T a y l'/\l'.length<l.length:=by
 induction h with
 |nil _=>intro y hy;cases hy
 |@cons x l h d ih=>
  intro y hy;rcases aQ.mp hy with e|hy
  .rw[e];show⟨l,d,by rw[aT];omega⟩
  .let#v[l',h1,h2]:=ih y hy;show⟨l',h1,by rw[aT];omega⟩
def O2{x:Str}{l:aH}(h:Ch T a x l):x∉l:=λhx=>by let#v[l',h1,h2]:=aaI h x hx;rw[aaH h h1]at h2;show dN _ h2
def WZ{x:Str}{l:aH}(h:Ch T a x l):l.Nodup:=by
 induction h with
 |nil _=>show kY
 |@cons x l h d ih=>show dg.mpr ⟨O2 d,ih⟩
def W0(i:Inv T a){x:Str}{l:aH}(h:Ch T a x l):∀y∈l,y∈hdN T:=by
 induction h with
 |nil _=>intro y hy;cases hy
 |@cons x l h d ih=>
  intro y hy;rcases aQ.mp hy with e|hy
  .rw[e];show i.hd x h
  .show ih y hy
theorem NM:∀{l L:aH},l.Nodup->(∀x∈l,x∈L)->l.length<=L.length
 |[],L,_,_=>cc _
 |a::l,L,nd,hs=>by rw[dg]at nd;have ha:=hs a aR;have:=NM (L:=L.erase a) nd.2 λz hz=>(nI (show z≠a from λw=>nd.1 (w▸hz))).mpr (hs z (aU _ hz));rw[mX ha]at this;have:=j7 ha;rw[aT];omega
def NO(g:Good T M dk W)(i:Inv T a){x:Str}{l:aH}(h:Ch T a x l):l.length<=13:=by
 have h1:=NM (WZ h) (W0 i h);have h2:(hdN T).length<=T.length:=by delta hdN;rw[aq];show cK _ _
 have:=g.len;omega
def V9{x b:Str}{w:Str}{l:aH}(h:Ch T a w l):w≠x->x∉l->Ch T (ups a x b) w l:=by
 induction h with
 |nil h=>intro _ _;show .nil h
 |@cons w l h d ih=>intro h1 h2;have e:ups a x b w=a w:=ak h1;have d':=ih (λz=>h2 (by rw[z];show aR)) λz=>h2 (aU _ z);rw[<-e]at d' ⊢;show .cons h d'
def Inv.mv(g:Good T M dk W)(i:Inv T a){x b:Str}(hx:x∈nrN T)(hb:b∈hdN T)(hm:x="self" -> b∈rmN T)(h1:b≠x){lb:aH}(cb:Ch T a b lb)(h2:x∉lb):Inv T (ups a x b) where
 me:=by
  delta ups;by_cases e:("self" : Str)=x
  .rw[ao e];show hm e.symm
  .rw[ak e];show i.me
 hd:=λy hy=>by
  delta ups;by_cases e:y=x
  .rw[ao e];show hb
  .rw[ak e];show i.hd y hy
 ch:=λw=>by
  have cx:Ch T (ups a x b) x (ups a x b x::lb):=.cons hx (by rw[show ups a x b x=b from ao O];show V9 cb h1 h2);let#v[l,h]:=i.ch w
  induction h with
  |nil h=>show⟨_,.nil h⟩
  |@cons w l h d ih=>
   by_cases e:w=x
   .rw[e];show⟨_,cx⟩
   .let#v[l',d']:=ih;have e2:ups a x b w=a w:=ak e;rw[<-e2]at d';show⟨_,.cons h d'⟩
def J5(p:P.Perm (PT T M))(x:Str):vI [sD P (va a m),.str x]=Z (if x∈nrN T then .str (a x)else .non):=by
 calc tE (ρ:=[.im (sD P (va a m)),.im (.str x)]) O (tL (tf (ds:=[sD P (va a m),kD ("at", x)]) (sZ O (sZ O O)) ((Mq P (va a m) ("at", x)).trans ?_)));congr 1;by_cases h:x∈nrN T
 .rw[ao h,ao ((ID p x).mpr h)];delta va;rw[ao O]
 .rw[ak h,ak λz=>h ((ID p x).mp z)]
def GR(p:P.Perm (PT T M))(x:Str):xE [sD P (va a m),.str x]=Z (if x∈mkN T M then .int (m x)else .non):=by
 calc tE (ρ:=[.im (sD P (va a m)),.im (.str x)]) O (tL (tf (ds:=[sD P (va a m),kD ("mark", x)]) (sZ O (sZ O O)) ((Mq P (va a m) ("mark", x)).trans ?_)));congr 1;by_cases h:x∈mkN T M
 .rw[ao h,ao ((O0 p x).mpr h)];delta va;rw[ak (show ¬("mark" : Str)="at" by decide)]
 .rw[ak h,ak λz=>h ((O0 p x).mp z)]
def aD(T:List Th)(a:Str->Str)(x:Str):L4.D:=if x∈nrN T then .str (a x)else .non
def Qw(p:P.Perm (PT T M))(w nm:Sl){x:Str}{l:aH}(h:Ch T a x l):∀(n:Nat) (hs:List L4.D),l.length<n->hs.length+l.length<=1000->
  whL (cT (c2 vX az aE)) (tw (uq (zt 3 az)) (tV 4 (tq vI jV))) n [w,.im (sD P (va a m)),nm,.ls hs,.im (aD T a x)]=Z (.nx [w,.im (sD P (va a m)),nm,.ls (hs++l.map D.str),.im .non]):=by
 let S:=sD P (va a m)
 induction h with
 |@nil x h=>
  intro n hs hn _;rw[show aD T a x=.non from ak h];cases n with
  |zero=>cases hn
  |succ n=>rw[fR,bQ];rfl
 |@cons x l h d ih=>
  intro n hs hn hl;rw[show aD T a x=.str (a x) from ao h];rw[aT]at hn hl;cases n with
  |zero=>cases hn
  |succ n=>
   have ev:tw (uq (zt 3 az)) (tV 4 (tq vI jV)) [w,.im S,nm,.ls hs,.im (.str (a x))]=Z (.nx [w,.im S,nm,.ls (hs++[.str (a x)]),.im (aD T a (a x))]):=by calc(tu (ρ':=[w,.im S,nm,.ls (hs++[.str (a x)]),.im (.str (a x))]) (uX ((BV (es:=hs) O O O ()).trans O))).trans ?_;show(tQ (tf (sZ O (sZ O O)) (J5 p (a x)))).trans O
   rw[aN];delta whL;rw[show cT (c2 vX az aE) [w,.im (sD P (va a m)),nm,.ls hs,.im (.str (a x))]=Z (γ,[w,.im S,nm,.ls hs,.im (.str (a x))]) from O];erw[ev];calc(ih n (hs++[.str (a x)]) () (by rw[aM,cW];omega)).trans ?_;rw[cp];rfl
def K9(p:P.Perm (PT T M))(w:L4.D){x:Str}{l:aH}(h:Ch T a x l)(hl:l.length<=13):wV [w,sD P (va a m),.str x]=Z (l.map D.str):=by let S:=sD P (va a m);calc yL (ρ:=[.im w,.im S,.im (.str x),.un,.im .non]) O ?_;calc(tu (ρ':=[.im w,.im S,.im (.str x),.ls [],.un]) O).trans ?_;calc(tu (ρ':=[.im w,.im S,.im (.str x),.ls [],.im (aD T a x)]) ((tQ (tf (sZ O (sZ O O)) (J5 p x))).trans O)).trans ?_;show(tu (Qw p (.im w) (.im (.str x)) h 50 [] () (by simp;omega))).trans O
def aaJ(p:P.Perm (PT T M)){x:Str}{l:aH}(h:Ch T a x l)(hl:l.length<=13):SW [wO T M dk W V R c,sD P (va a m),.str x]=Z (.bl (decide (("self" : Str)∈l))):=by let ρ:aJ:=[.im (wO T M dk W V R c),.im (sD P (va a m)),.im (.str x)];calc tE (ρ:=ρ) O (tL (tD (x:=.str "self") (y:=.lst (l.map D.str)) (tW (m:="you") (ns:=wNs) (xs:=wA T M dk W V R c) (ys:=[]) O O O O O) (uT (tf (sZ O (sZ O (sZ O O))) (K9 p _ h hl))) (yz δ _ _)))
def inv0(g:Good T M dk W):Inv T (at0 T) where
 me:=by let#v[t,ht,e,k]:=Mu g;let#v[q,h1,_,h2]:=O1 g ht (by rw[k];show λz=>by ext z);rw[<-e,K8 g.ndT ht,h1];show h2 k
 hd:=λx hx=>by let#v[t,ht,rfl]:=ay.mp hx;rw[aZ]at ht;let#v[q,h1,h2,_]:=O1 g ht.1 (λz=>by rw[z]at ht;show ar ht.2 #[]);rw[K8 g.ndT ht.1,h1];show h2
 ch:=λx=>by
  let#v[r,hr]:=g.rk;have:∀(n:Nat) (x:Str),r x<n->∃l,Ch T (at0 T) x l:=by
   intro n
   induction n with
   |zero=>intro x h;cases h
   |succ n ih=>
    intro x h;by_cases hx:x∈nrN T
    .let#v[t,ht,rfl]:=ay.mp hx;rw[aZ]at ht;let#v[q,h1,_,_]:=O1 g ht.1 (λz=>by rw[z]at ht;show ar ht.2 #[]);have e:at0 T t.n=q:=by rw[K8 g.ndT ht.1,h1];rfl
     have h2:=((hr t ht.1).2 q h1).1;let#v[l,d]:=ih q ();rw[<-e]at d;show⟨_,.cons hx d⟩
    .show⟨_,.nil hx⟩
  show this (r x+1) x ()
end
def yI{e e':FE}{ρ ρ1:aJ}(h1:e ρ=Z (.bl δ,ρ1)):uH e e' ρ=Z (.bl δ,ρ1):=by delta uH;rw[h1]
section
variable{T:List Th}{M:List Mk}{dk:aH}{W:List Wy}{V:List Vb}{R:List L4.D}{c:L4.D}{P:List Ky}{a:Str->Str}{m:Str->Int}
structure Sit(T:List Th)(M:List Mk)(dk:aH)(W:List Wy)(P:List Ky)(a:Str->Str):Prop where
 g:Good T M dk W
 p:P.Perm (PT T M)
 i:Inv T a
def Tv{x:Str}(h:x∈hdN T):∃t∈T,t.n=x/\t.k.hd=γ:=by let#v[t,ht,e]:=ay.mp h;rw[aZ]at ht;show⟨t,ht.1,e,ht.2⟩
def W2(g:Good T M dk W){t:Th}(ht:t∈T):t.n∈mkN T M ↔ t.k.mk=γ:=by
 delta mkN;rw[ba,Fp g.ndT _ ht];constructor
 .rintro(h|h)
  .show h
  .show ar O ((cq.mp g.nd).2.2 _ (ay.mpr ⟨t,ht,O⟩) _ h)
 .show .inl
def O3(t:Th)(k:Kd):dEq δ (.str t.k.s) (.str k.s)=Z (.bl (decide (t.k=k))):=Dl t.k k
def Wa(s:Sit T M dk W P a){x:Str}(hx:x∈hdN T):∃b,yf [wO T M dk W V R c,sD P (va a m),.str x]=Z (.bl b):=by
 let#v[t,ht,rfl,_]:=Tv hx;let ρ:aJ:=[.im (wO T M dk W V R c),.im (sD P (va a m)),.im (.str t.n)];have e1:c2 (dEq δ) (c1 (tI ua "kind") (tK tJ "thing_of" ab bP)) eE ρ=Z (.bl (decide (t.k=.box)),ρ):=
  tD (uu (tW (m:="thing_of") (ns:=wNs) (xs:=wA T M dk W V R c) (ys:=[.str t.n]) O O O O (x6 s.g.ndT ht)) (yV t)) O (O3 t .box)
 by_cases h:t.k=.box
 .rw[bh h]at e1;calc⟨decide (m t.n=0),tE (ρ:=ρ) O (tL ((tY e1).trans (tD (tf (sZ O (sZ O O)) ((GR s.p t.n).trans (by rw[ao ((W2 s.g ht).mpr (by rw[h];rfl))]))) O ?_)))⟩;rw[yp];rfl
 .rw[bj h]at e1;show⟨δ,tE (ρ:=ρ) O (tL (yI e1))⟩
def opn(sh:Str->Bool)(h:Str):aH->Bool
 |[]=>δ
 |a::l=>if a=h then γ else if sh a then δ else opn sh h l
def Tw{sh:Str->Bool}{h a:Str}{l:aH}:opn sh h (a::l)=if a=h then γ else if sh a then δ else opn sh h l:=rfl
def oB:FS:=(tw (sIf (cT (c2 (dEq δ) az aw)) (tG cI) tN)
 (sIf (cT (tq yf mI)) (tG bz) tN))
theorem J6{w st x:L4.D}{sh:Str->Bool}(h:Str):∀(l:aH) (s:Sl),(∀a∈l,yf [w,st,.str a]=Z (.bl (sh a)))->∃s',forL (gN 4) oB (l.map D.str) [.im w,.im st,.im x,.im (.str h),s]=Z (.rt (.bl (opn sh h l)) [.im w,.im st,.im x,.im (.str h),s'])\/(opn sh h l=δ/\forL (gN 4) oB (l.map D.str) [.im w,.im st,.im x,.im (.str h),s]=Z (.nx [.im w,.im st,.im x,.im (.str h),s']))
 |[],s,_=>⟨s,.inr ⟨O,O⟩⟩
 |a::l,s,hh=>by
  let ρ:aJ:=[.im w,.im st,.im x,.im (.str h),.im (.str a)];have e1:cT (c2 (dEq δ) az aw) ρ=Z (decide (a=h),ρ):=uz (tD (x:=.str a) (y:=.str h) O O (vG δ a h));have e2:cT (tq yf mI) ρ=Z (sh a,ρ):=uz (tf (sZ O (sZ O (sZ O O))) (hh a aR));rw[aN];delta forL;rw[show gN 4 (.str a) [.im w,.im st,.im x,.im (.str h),s]=Z ρ from O];rw[Tw];by_cases h1:a=h
  .rw[bh h1]at e1;rw[ao h1];calc⟨.im (.str a),.inl ?_⟩;have e3:oB ρ=Z (.rt (.bl γ) ρ):=tZ ((ud e1).trans O);erw[e3];rfl
  .rw[bj h1]at e1;rw[ak h1];have e3:oB ρ=_:=tu ((uo e1).trans O);erw[e3];cases q:sh a with
   |true=>rw[q]at e2;calc⟨.im (.str a),.inl ?_⟩;erw[(ud e2).trans (O:tG bz ρ=Z (.rt (.bl δ) ρ)),if_true];rfl
   |false=>rw[q]at e2;let#v[s',g]:=J6 (w:=w) (st:=st) (x:=x) (sh:=sh) h l (.im (.str a)) λb hb=>hh b (aU _ hb);calc⟨s',?_⟩;erw[(uo e2).trans (O:tN ρ=Z (.nx ρ)),fC,if_false];show g
def La(s:Sit T M dk W P a)(x h:Str):∃b,yg [wO T M dk W V R c,sD P (va a m),.str x,.str h]=Z (.bl b):=by
 let#v[l,d]:=s.i.ch x;have hs:∀y:Str,∃b:Bool,y∈hdN T->yf [wO T M dk W V R c,sD P (va a m),.str y]=Z (.bl b):=λy=>by
  by_cases hy:y∈hdN T
  .let#v[b,e]:=Wa (c:=c) (m:=m) s hy;show⟨b,λ_=>e⟩
  .show⟨δ,λz=>ar z hy⟩
 calc⟨opn (λy=>(hs y).choose) h l,?_⟩;let#v[s',q]:=J6 (w:=wO T M dk W V R c) (st:=sD P (va a m)) (x:=.str x) (sh:=λy=>(hs y).choose) h l .un λy hy=>(hs y).choose_spec (W0 s.i d y hy);have e0:=uT (tf (a:=aCons ab cj) (ρ:=[.im (wO T M dk W V R c),.im (sD P (va a m)),.im (.str x),.im (.str h),.un]) (sZ O (sZ O (sZ O O))) (K9 (m:=m) s.p _ d (NO s.g s.i d)));rcases q with q|⟨q0,q⟩
 .show tE O (tZ ((uO (CB e0)).trans q))
 .rw[q0];show tE O ((tu ((uO (CB e0)).trans q)).trans O)
def Lb(s:Sit T M dk W P a):zi [wO T M dk W V R c,sD P (va a m)]=Z (.str (a "self")):=
 tE (ρ:=[.im (wO T M dk W V R c),.im (sD P (va a m))]) O (tL (tf (sZ O (sZ (tW (m:="you") (ns:=wNs) (xs:=wA T M dk W V R c) (ys:=[]) O O O O O) O)) ((J5 s.p "self").trans (by rw[ao (J4 s.g)]))))
def Tx(s:Sit T M dk W P a){t:Th}(ht:t∈T)(hk:t.k=.lamp)(r:Str):∃b,zJ [wO T M dk W V R c,sD P (va a m),.str t.n,.str r]=Z (.bl b):=by
 let ρ:aJ:=[.im (wO T M dk W V R c),.im (sD P (va a m)),.im (.str t.n),.im (.str r)];have e1:c2 (dEq δ) (tq xE cj) aI ρ=Z (.bl (decide (m t.n=1)),ρ):=tD (tf (sZ O (sZ O O)) ((GR s.p t.n).trans (by rw[ao ((W2 s.g ht).mpr (by rw[hk];rfl))]))) O (by rw[yp];rfl);let#v[b,e2]:=La (c:=c) (m:=m) s t.n r;cases q:decide (m t.n=1)with
 |true=>rw[q]at e1;show⟨b,tE (ρ:=ρ) O (tL ((tY e1).trans (tf (sZ O (sZ O (sZ O (sZ O O)))) e2)))⟩
 |false=>rw[q]at e1;show⟨δ,tE (ρ:=ρ) O (tL (yI e1))⟩
def TB(s:Sit T M dk W P a):∃b,ED [wO T M dk W V R c,sD P (va a m)]=Z (.bl b):=by
 let w:=wO T M dk W V R c;let r:=a "self";let S:=sD P (va a m);let ρ:aJ:=[.im w,.im S,.im (.str r)];have e1:tV 2 (tq zi b0) [.im w,.im S,.un]=Z (.nx ρ):=(tQ (tf (sZ O (sZ O O)) (Lb s))).trans O;have e2:uE (cT (tK yt "is_dark" ab bP)) ρ=Z (!decide (r∈dk),ρ):=vN (uz (tW (m:="is_dark") (ns:=wNs) (xs:=wA T M dk W V R c) (ys:=[.str r]) O O O O (tE (ρ:=[.im w,.im (.str r)]) O (tL (tD (x:=.str r) (y:=.lst (dk.map D.str)) O O (yz δ r dk))))));cases q:decide (r∈dk)with
 |false=>rw[q]at e2;show⟨γ,tE O ((tu e1).trans (tZ ((ud e2).trans O)))⟩
 |true=>
  rw[q]at e2;have hl:=s.g.len;let L:=T.filter λt=>decide (t.k=.lamp);have hs:∀t:Th,∃b:Bool,t∈L->zJ [w,S,.str t.n,.str r]=Z (.bl b):=λt=>by
   by_cases ht:t∈L
   .have h:=aZ.mp ht;let#v[b,e]:=Tx (c:=c) (m:=m) s h.1 (bF h.2) r;show⟨b,λ_=>e⟩
   .show⟨δ,λz=>ar z ht⟩
  have e3:tR 1 [0,1,2] (iL (tK vC "of_kind" ab gQ)) (gN 0) uQ (tq zJ qO) ρ=Z (L.map λt=>D.bl (hs t).choose,ρ):=by have hlen:L.length<=1000:=bM (cK _ _) ();show xg (λt:Th=>D.str t.n) (λt=>D.bl (hs t).choose) L (ρ1:=ρ) (CB (tW (m:="of_kind") (ns:=wNs) (xs:=wA T M dk W V R c) (ys:=[.str Kd.lamp.s]) O O O O (DR T () _ _ .lamp))) hlen λt ht=>⟨[.im (.str t.n),.im w,.im S,.im (.str r)],[.im (.str t.n),.im w,.im S,.im (.str r)],O,tf (sZ O (sZ O (sZ O (sZ O O)))) ((hs t).choose_spec ht),O⟩
  show⟨_,tE O ((tu e1).trans ((tu ((uo e2).trans O)).trans (tL (uu (uT e3) (OC _ _)))))⟩
def O4(s:Sit T M dk W P a){t:Th}(ht:t∈T):∃b,wt [wO T M dk W V R c,sD P (va a m),.str t.n]=Z (.bl b):=by
 let w:=wO T M dk W V R c;let S:=sD P (va a m);let ρ:aJ:=[.im w,.im S,.im (.str t.n),.im (thD t)];have e1:tV 3 (tK tJ "thing_of" ab bP) [.im w,.im S,.im (.str t.n),.un]=Z (.nx ρ):=(tQ (tW (m:="thing_of") (ns:=wNs) (xs:=wA T M dk W V R c) (ys:=[.str t.n]) O O O O (x6 s.g.ndT ht))).trans O;have e2:vS (cT (c2 xN aw aE)) (uE (cT (tK uP "is_plainly" aw uk))) ρ=Z (!t.k.pl,ρ):=wF O (vN (uz (tW (m:="is_plainly") (ns:=["name", "words", "kind", "start"]) (xs:=[.str t.n,.tup (t.w.map D.str),.str t.k.s,oS t.s]) (ys:=[]) O O O O (EN t))));let#v[b3,h3]:=La (c:=c) (m:=m) s t.n "self";let#v[b4,h4]:=La (c:=c) (m:=m) s t.n (a "self");let#v[b5,h5]:=TB (c:=c) (m:=m) s;have e3:cT (tq yg qP) ρ=Z (b3,ρ):=uz (tf (sZ O (sZ O (sZ O (sZ (tW (m:="you") (ns:=wNs) (xs:=wA T M dk W V R c) (ys:=[]) O O O O O) O)))) h3);have e4:tq yg qM ρ=Z (.bl b4,ρ):=tf (sZ O (sZ O (sZ O (sZ (tf (sZ O (sZ O O)) (Lb s)) O)))) h4;cases q1:t.k.pl with
 |false=>rw[q1]at e2;show⟨_,tE O ((tu e1).trans (tZ ((ud e2).trans O)))⟩
 |true=>
  rw[q1]at e2;cases b3 with
  |true=>show⟨_,tE O ((tu e1).trans ((tu ((uo e2).trans O)).trans (tZ ((ud e3).trans O))))⟩
  |false=>
   cases b4 with
   |true=>show⟨_,tE (ρ:=ρ) O ((tu e1).trans ((tu ((uo e2).trans O)).trans ((tu ((uo e3).trans O)).trans (tL ((tY e4).trans (tf (sZ O (sZ O O)) h5))))))⟩
   |false=>show⟨_,tE (ρ:=ρ) O ((tu e1).trans ((tu ((uo e2).trans O)).trans ((tu ((uo e3).trans O)).trans (tL (yI e4)))))⟩
def KF(S:L4.D):wt [wO T M dk W V R c,S,.non]=Z (.bl δ):=by let w:=wO T M dk W V R c;let ρ:aJ:=[.im w,.im S,.im .non,.im .non];have e1:tV 3 (tK tJ "thing_of" ab bP) [.im w,.im S,.im .non,.un]=Z (.nx ρ):=(tQ (tW (m:="thing_of") (ns:=wNs) (xs:=wA T M dk W V R c) (ys:=[.non]) O O O O (by rfl))).trans O;show tE (ρ:=ρ) O ((tu e1).trans (tZ ((ud O).trans O)))
end
def q3(v:Str)(x y:Option Str):L4.D:=.tup [.str v,oS x,oS y]
def Cm(T:List Th)(W:List Wy)(v:Vb)(x y:Option Str):Prop:=(v.f="one" /\ ∃n∈plN T,x=Z n/\y=J)\/(v.f="two" /\ ∃n∈plN T,∃k∈plN T,x=Z n/\y=Z k)\/(v.f="alone" /\ x=J/\y=J)\/(v.f="way" /\ ∃d∈wdN W,x=Z d/\y=J)
def thO(v:Vb)(x y:Option Str):List (Option Str):=if v.f="way" then [J,J]else [x,y]
section
variable{T:List Th}{M:List Mk}{dk:aH}{W:List Wy}{V:List Vb}{R:List L4.D}{c:L4.D}{P:List Ky}{a:Str->Str}{m:Str->Int}{v:Vb}{x y:Option Str}
def O5(nd:((V++v9).flatMap Vb.ws).Nodup)(hv:v∈V++v9):vL [wO T M dk W V R c,.str v.n]=Z (vbO v):=
 tE (ρ:=[.im (wO T M dk W V R c),.im (.str v.n)]) O (tL (tD (x:=vwD (V++v9)) (y:=.str v.n) O O (K2 nd hv)))
def TC(nd:((V++v9).flatMap Vb.ws).Nodup)(hv:v∈V++v9)(x y:Option Str):yF [wO T M dk W V R c,q3 v.n x y]=Z (.bl (decide (v.f="way"))):=by
 let w:=wO T M dk W V R c;let ρ:aJ:=[.im w,.im (q3 v.n x y),.im (vbO v)];have e1:tV 2 (cIf (cT (c2 xN ai aE)) aE (tK uR "verb_of" ab f6)) [.im w,.im (q3 v.n x y),.un]=Z (.nx ρ):=by calc(tQ (d:=vbO v) (ρ':=[.im w,.im (q3 v.n x y),.un]) ?_).trans O;change tK uR "verb_of" ab f6 [.im w,.im (q3 v.n x y),.un]=_;show tW (m:="verb_of") (ns:=wNs) (xs:=wA T M dk W V R c) (ys:=[.str v.n]) O O O O (O5 nd hv)
 show tE (ρ:=ρ) O ((tu e1).trans (tL ((tY O).trans (tD (x:=.str v.f) (y:=.str "way") O O (by rw[vG];rfl)))))
def J7(nd:((V++v9).flatMap Vb.ws).Nodup)(hv:v∈V++v9)(x y:Option Str):u9 [wO T M dk W V R c,q3 v.n x y]=Z (.tup ((thO v x y).map oS)):=by
 let ρ:aJ:=[.im (wO T M dk W V R c),.im (q3 v.n x y)];have e:cT (tq yF b0) ρ=Z (decide (v.f="way"),ρ):=uz (tf (sZ O (sZ O O)) (TC nd hv x y));delta thO;by_cases h:v.f="way"
 .rw[bh h]at e;rw[ao h];show tE (ρ:=ρ) O (tZ ((ud (wF O e)).trans O))
 .rw[bj h]at e;rw[ak h];show tE (ρ:=ρ) O ((vc (wF O e)).trans O)
def m_it{w S q:L4.D}(h:u9 [w,q]=Z (.tup [oS x,oS y])):vd [w,S,q,.str "it"]=Z (oS x):=by let ρ:aJ:=[.im w,.im S,.im q,.im (.str "it")];show tE (ρ:=ρ) O ((vc O).trans (tZ ((ud O).trans (tL (tD (tf (sZ O (sZ O O)) h) O O)))))
def Wb{w S q:L4.D}(h:u9 [w,q]=Z (.tup [oS x,oS y])):vd [w,S,q,.str "other"]=Z (oS y):=by let ρ:aJ:=[.im w,.im S,.im q,.im (.str "other")];show tE (ρ:=ρ) O ((vc O).trans ((vc O).trans (tZ ((ud O).trans (tL (tD (tf (sZ O (sZ O O)) h) O O))))))
def aaK(s:Sit T M dk W P a)(q:L4.D):vd [wO T M dk W V R c,sD P (va a m),q,.str "here"]=Z (.str (a "self")):=by let ρ:aJ:=[.im (wO T M dk W V R c),.im (sD P (va a m)),.im q,.im (.str "here")];show tE (ρ:=ρ) O (tZ ((ud O).trans (tL (tf (sZ O (sZ O O)) (Lb s)))))
def IE(w S q:L4.D){x:Str}(h:Nm x):vd [w,S,q,.str x]=Z (.str x):=by let ρ:aJ:=[.im w,.im S,.im q,.im (.str x)];have all:=bc.mp (show (nmL.all λx=>!decide (x="here")&&!decide (x="it")&&!decide (x="other"))=γ by kernel_rfl) x h;erw[aW,d6,decide_eq_false_iff_not]at all;have e:∀t:Str,¬x=t->cT (c2 (dEq δ) aw (cC (.str t))) ρ=Z (δ,ρ):=λt ht=>uz (tD (x:=.str x) (y:=.str t) O O (by rw[vG];change Z (D.bl (decide (x=t)))=_;rw[bj ht]));show tE (ρ:=ρ) O ((vc (e _ all.1.1)).trans ((vc (e _ all.1.2)).trans ((vc (e _ all.2)).trans O)))
def Wc(nd:((V++v9).flatMap Vb.ws).Nodup)(hv:v∈V++v9)(hc:Cm T W v x y)(S:L4.D){t:Str}(h:By v.f t):∃z∈plN T,vd [wO T M dk W V R c,S,q3 v.n x y,.str t]=Z (.str z):=by
 have th:=J7 (T:=T) (M:=M) (dk:=dk) (W:=W) (R:=R) (c:=c) nd hv x y;have nw:∀f:Str,f∈(["one", "two"]:aH)->v.f=f->u9 [wO T M dk W V R c,q3 v.n x y]=Z (.tup [oS x,oS y]):=λf hf e=>by delta thO at th;rw[ak (show ¬v.f="way" from by rw[e];intro z;rw[z]at hf;show ar hf #[])]at th;show th
 rcases h with ⟨rfl,h⟩|⟨rfl,h⟩
 .have th:=nw _ h O;rcases hc with ⟨_,n,hn,rfl,rfl⟩|⟨_,n,hn,k,hk,rfl,rfl⟩|⟨e,_⟩|⟨e,_⟩
  .show⟨n,hn,m_it th⟩
  .show⟨n,hn,m_it th⟩
  .rw[e]at h;show ar h #[]
  .rw[e]at h;show ar h #[]
 .have th:=nw "two" #[] h;rcases hc with ⟨e,_⟩|⟨_,n,hn,k,hk,rfl,rfl⟩|⟨e,_⟩|⟨e,_⟩
  .rw[e]at h;show ar h #[]
  .show⟨k,hk,Wb th⟩
  .rw[e]at h;show ar h #[]
  .rw[e]at h;show ar h #[]
def TF(g:Good T M dk W){z:Str}(h:z∈T.map Th.n):Nm z:=g.nm _ (bO _ h)
def pl_T{z:Str}(h:z∈plN T):z∈T.map Th.n:=by let#v[t,ht,rfl]:=ay.mp h;show ay.mpr ⟨t,(aZ.mp ht).1,O⟩
def My{z:Str}(h:z∈hdN T):z∈T.map Th.n:=by let#v[t,ht,rfl]:=ay.mp h;show ay.mpr ⟨t,(aZ.mp ht).1,O⟩
def TH{z:Str}(h:z∈rmN T):z∈T.map Th.n:=by let#v[t,ht,rfl]:=ay.mp h;show ay.mpr ⟨t,(aZ.mp ht).1,O⟩
def Qx(s:Sit T M dk W P a)(nd:((V++v9).flatMap Vb.ws).Nodup)(hv:v∈V++v9)(hc:Cm T W v x y){N:aH}(hN:∀z∈N,z∈T.map Th.n){t:Str}(h:Tm v.f N t):∃z∈T.map Th.n,vd [wO T M dk W V R c,sD P (va a m),q3 v.n x y,.str t]=Z (.str z):=by
 rcases h with h|rfl|h
 .show⟨t,hN t h,IE _ _ _ (TF s.g (hN t h))⟩
 .show⟨_,TH s.i.me,aaK s _⟩
 .let#v[z,hz,e]:=Wc (M:=M) (dk:=dk) (R:=R) (c:=c) nd hv hc (sD P (va a m)) h;show⟨z,pl_T hz,e⟩
def Wd(k:Nat)(w S q t:L4.D)(b:Bool):Prop:=∃j ns ds hh,t=.obj j ns ds/\ug k j=Z hh/\ns.contains "holds" = δ/\hh [t,w,S,q]=Z (.bl b)
def Qy(s:Sit T M dk W P a)(nd:((V++v9).flatMap Vb.ws).Nodup)(hv:v∈V++v9)(hc:Cm T W v x y){n:Nat}{t:L4.D}(h:Ts T M v.f n t):∀k,n<=k->∃b,Wd k (wO T M dk W V R c) (sD P (va a m)) (q3 v.n x y) t b:=by
 let w:=wO T M dk W V R c;let S:=sD P (va a m);let q:=q3 v.n x y
 induction h with
 |@ats n t1 t2 ha hb=>
  intro k _;let#v[z,hz,ez]:=Qx (R:=R) (c:=c) (m:=m) s nd hv hc (λ_ h=>h) ha;let#v[u,hu,eu]:=Qx (R:=R) (c:=c) (m:=m) s nd hv hc (λ_ h=>My h) hb;let ρ1:aJ:=[.im (atO t1 t2),.im w,.im S,.im q,.im (.str z),.un];let ρ:L4.D->aJ:=λd=>[.im (atO t1 t2),.im w,.im S,.im q,.im (.str z),.im d];have e0:∀(d:L4.D),vI [S,.str z]=Z d->∀f:FS,tw (tV 4 (tq vd fo)) (tw (tV 5 (tq vI (aCons aj dY))) f) [.im (atO t1 t2),.im w,.im S,.im q,.un,.un]=f (ρ d):=λd hd f=>(tu (ρ':=ρ1) ((tQ (tf (sZ O (sZ O (sZ O (sZ O O)))) ez)).trans O)).trans (tu (ρ':=ρ d) ((tQ (tf (sZ O (sZ O O)) hd)).trans O))
  by_cases hn:z∈nrN T
  .show⟨_,3,_,_,DM,O,by ext k<;>rfl,O,tE (ρ:=ρ (.str (a z))) O ((e0 _ ((J5 s.p z).trans (by rw[ao hn])) _).trans (tL ((tY O).trans (tD (x:=.str (a z)) (y:=.str u) O (tf (sZ O (sZ O (sZ O (sZ O O)))) eu) (by rw[vG])))))⟩
  .show⟨δ,3,_,_,DM,O,by ext k<;>rfl,O,tE (ρ:=ρ .non) O ((e0 _ ((J5 s.p z).trans (by rw[ak hn])) _).trans (tL (yI O)))⟩
 |@has n t1 ha=>intro k _;let#v[z,hz,ez]:=Qx (R:=R) (c:=c) (m:=m) s nd hv hc (λ_ h=>h) ha;let#v[l,ch]:=s.i.ch z;let ρ:aJ:=[.im (hsO t1),.im w,.im S,.im q];show⟨_,4,_,_,Gc,O,by ext k<;>rfl,O,tE (ρ:=ρ) O (tL (tf (sZ O (sZ O (sZ (tf (sZ O (sZ O (sZ O (sZ O O)))) ez) O))) (aaJ s.p ch (NO s.g s.i ch))))⟩
 |@seen n t1 ha=>intro k _;let#v[z,hz,ez]:=Qx (R:=R) (c:=c) (m:=m) s nd hv hc (λ_ h=>h) ha;let#v[u,hu,rfl]:=ay.mp hz;let#v[b,eb]:=O4 (V:=V) (R:=R) (c:=c) (m:=m) s hu;let ρ:aJ:=[.im (seO t1),.im w,.im S,.im q];show⟨b,5,_,_,EH,O,by ext k<;>rfl,O,tE (ρ:=ρ) O (tL (tf (sZ O (sZ O (sZ (tf (sZ O (sZ O (sZ O (sZ O O)))) ez) O))) eb))⟩
 |@mark n p val hq=>
  intro k _;let#v[z,ez]:∃z,vd [w,S,q,.str p.1]=Z (.str z):=by
   rcases hq with hq|⟨hq,_⟩
   .show⟨_,IE _ _ _ (Ta s.g hq)⟩
   .let#v[z,_,e]:=Wc (M:=M) (dk:=dk) (R:=R) (c:=c) nd hv hc S hq;show⟨z,e⟩
  let ρ:L4.D->aJ:=λd=>[.im (mkO p.1 val),.im w,.im S,.im q,.im d];have e0:∀(d:L4.D),xE [S,.str z]=Z d->tV 4 (tq xE jU) [.im (mkO p.1 val),.im w,.im S,.im q,.un]=Z (.nx (ρ d)):=λd hd=>(tQ (tf (sZ O (sZ (tf (sZ O (sZ O (sZ O (sZ O O)))) ez) O)) hd)).trans O;by_cases hn:z∈mkN T M
  .show⟨_,6,_,_,zK,O,by ext k<;>rfl,O,tE (ρ:=ρ (.int (m z))) O ((tu (e0 _ ((GR s.p z).trans (by rw[ao hn])))).trans (tL ((tY O).trans (tD (x:=.int (m z)) (y:=.int val) O O (yp _ _ _)))))⟩
  .show⟨δ,6,_,_,zK,O,by ext k<;>rfl,O,tE (ρ:=ρ .non) O ((tu (e0 _ ((GR s.p z).trans (by rw[ak hn])))).trans (tL (yI O)))⟩
 |@kind n t1 kk ha=>intro k _;let#v[z,hz,ez]:=Qx (R:=R) (c:=c) (m:=m) s nd hv hc (λ_ h=>h) ha;let#v[u,hu,rfl]:=ay.mp hz;let ρ:aJ:=[.im (kiO t1 kk),.im w,.im S,.im q,.im (thD u)];show⟨_,7,_,_,EJ,O,by ext k<;>rfl,O,tE (ρ:=ρ) O ((tu (ρ':=ρ) ((tQ (tW (m:="thing_of") (ns:=wNs) (xs:=wA T M dk W V R c) (ys:=[.str u.n]) (ρ2:=[.im (kiO t1 kk),.im w,.im S,.im q,.un]) O O O (sZ (tf (sZ O (sZ O (sZ O (sZ O O)))) ez) O) (x6 s.g.ndT hu))).trans O)).trans (tL ((tY O).trans (tD (x:=.str u.k.s) (y:=.str kk) (uu O (yV u)) O (vG _ _ _)))))⟩
 |@word n d hf=>
  intro k _;let#v[z,rfl]:∃z,x=Z z:=by
   rcases hc with ⟨e,_⟩|⟨e,_⟩|⟨e,_⟩|⟨_,d,_,rfl,_⟩
   .rw[e]at hf;show ar hf #[]
   .rw[e]at hf;show ar hf #[]
   .rw[e]at hf;show ar hf #[]
   .show⟨d,O⟩
  let ρ:aJ:=[.im (woO d),.im w,.im S,.im (q3 v.n (Z z) y)];show⟨_,8,_,_,EL,O,by ext k<;>rfl,O,tE (ρ:=ρ) O (tL ((tY (ρ1:=ρ) (tf (sZ O (sZ O O)) ((TC nd hv (Z z) y).trans (by rw[bh hf])))).trans (tD (x:=.str z) (y:=.str d) O O (vG _ _ _))))⟩
 |@lit n=>intro k _;let#v[b,eb]:=TB (V:=V) (R:=R) (c:=c) (m:=m) s;let ρ:aJ:=[.im liO,.im w,.im S,.im q];show⟨b,15,_,_,Gf,O,by ext k<;>rfl,O,tE (ρ:=ρ) O (tL (tf (sZ O (sZ O O)) eb))⟩
 |@no n d h ih=>intro k hk;let#v[k,rfl]:∃j,k=j+1:=⟨k - 1,by omega⟩;let#v[b,j,ns,ds,hh,rfl,h2,h3,h4]:=ih k ();let ρ:aJ:=[.im (noO (.obj j ns ds)),.im w,.im S,.im q];show⟨!b,9,["inner"],[.obj j ns ds],fnD 4 4 (yG (ug k)),O,O,O,tE (ρ:=ρ) O (tL (K0 (tW (g:=ug k) (m:="holds") (c:=j) (ns:=ns) (hh:=hh) (xs:=ds) (ys:=[w,S,q]) (ρ1:=ρ) (ρ2:=ρ) O h2 h3 O h4)))⟩
 |@bo n d e h h' ih ih'=>
  intro k hk;let#v[k,rfl]:∃j,k=j+1:=⟨k - 1,by omega⟩;let#v[b,j,ns,ds,hh,rfl,h2,h3,h4]:=ih k ();let#v[b',j',ns',ds',hh',rfl,h2',h3',h4']:=ih' k ();let D2:L4.D:=boO (.obj j ns ds) (.obj j' ns' ds');let ρ:aJ:=[.im D2,.im w,.im S,.im q];have e1:tK (ug k) "holds" (c1 (tI GL "one") ab) f7 ρ=Z (.bl b,ρ):=tW (g:=ug k) (m:="holds") (c:=j) (ns:=ns) (hh:=hh) (xs:=ds) (ys:=[w,S,q]) (ρ1:=ρ) (ρ2:=ρ) O h2 h3 O h4;have e2:tK (ug k) "holds" (c1 (tI CH "other") ab) f7 ρ=Z (.bl b',ρ):=tW (g:=ug k) (m:="holds") (c:=j') (ns:=ns') (hh:=hh') (xs:=ds') (ys:=[w,S,q]) (ρ1:=ρ) (ρ2:=ρ) O h2' h3' rfl h4';cases b with
  |true=>show⟨b',10,["one", "other"],[.obj j ns ds,.obj j' ns' ds'],fnD 4 4 (wW (ug k)),O,O,O,tE (ρ:=ρ) O (tL ((tY e1).trans e2))⟩
  |false=>show⟨δ,10,["one", "other"],[.obj j ns ds,.obj j' ns' ds'],fnD 4 4 (wW (ug k)),O,O,O,tE (ρ:=ρ) O (tL (yI e1))⟩
end
section
variable{T:List Th}{M:List Mk}{dk:aH}{W:List Wy}{V:List Vb}{R:List L4.D}{c:L4.D}{P:List Ky}{a:Str->Str}{m:Str->Int}{v:Vb}{x y:Option Str}
def Sit.len(s:Sit T M dk W P a):P.length<=900:=by have:=(K7 s.g).2;rw[s.p.length_eq];omega
def acs{x:Str}(h:x∈nrN T):∃t∈T,t.n=x/\¬t.k=.room:=by let#v[t,ht,e]:=ay.mp h;rw[aZ]at ht;show⟨t,ht.1,e,λz=>by rw[z]at ht;show ar ht.2 #[]⟩
def TJ(s:Str)(x:Str):dEq γ (.lst [kD (s,x)]) (.lst [])=Z (.bl γ):=by rfl
def Mz(g:Good T M dk W){x:Str}(h:x∈nrN T):DJ [wO T M dk W V R c,.str x]=Z (.lst [kD ("at", x)]):=by let#v[t,ht,rfl,hk]:=acs h;let w:=wO T M dk W V R c;let ρ:aJ:=[.im w,.im (.str t.n),.im (thD t)];have e1:tV 2 (tK tJ "thing_of" ab bG) [.im w,.im (.str t.n),.un]=Z (.nx ρ):=(tQ (tW (m:="thing_of") (ns:=wNs) (xs:=wA T M dk W V R c) (ys:=[.str t.n]) O O O O (x6 g.ndT ht))).trans O;have e2:cT (c2 (dEq δ) (c1 (tI ua "kind") aj) bX) ρ=Z (δ,ρ):=uz (tD (uu O (yV t)) O ((O3 t .room).trans (by rw[bj hk])));have e3:vS (cT (c2 xN aj aE)) (cT (c2 (dEq δ) (c1 (tI ua "kind") aj) bX)) ρ=Z (δ,ρ):=wF O e2;calc tE (ρ:=ρ) O ((tu e1).trans (tL ?_));delta cIf;rw[e3];rfl
def Qz(g:Good T M dk W){x:Str}{t:Th}(hx:x∈nrN T)(ht:t∈T):EF [wO T M dk W V R c,.str x,.str t.n]=Z (.bl (t.k.hd&&!decide (t.n=x))):=by
 let w:=wO T M dk W V R c;let ρ:aJ:=[.im w,.im (.str x),.im (.str t.n),.im (thD t)];have e1:tV 3 (tK tJ "thing_of" ab bP) [.im w,.im (.str x),.im (.str t.n),.un]=Z (.nx ρ):=(tQ (tW (m:="thing_of") (ns:=wNs) (xs:=wA T M dk W V R c) (ys:=[.str t.n]) O O O O (x6 g.ndT ht))).trans O;have e2:tK uJ "can_hold" aw uk ρ=Z (.bl t.k.hd,ρ):=tW (m:="can_hold") (ns:=["name", "words", "kind", "start"]) (xs:=[.str t.n,.tup (t.w.map D.str),.str t.k.s,oS t.s]) (ys:=[]) O O O O (GP t);calc tE (ρ:=ρ) O ((tu e1).trans (tL ((tY (ρ1:=ρ) (tD (tf (sZ O (sZ O O)) (Mz g hx)) O (TJ _ _))).trans ((tY (ρ1:=ρ) O).trans ?_))));cases hk:t.k.hd with
 |true=>rw[hk]at e2;show(tY e2).trans (tD (x:=.str t.n) (y:=.str x) O O (by rw[vG];rfl))
 |false=>rw[hk]at e2;show yI e2
def Done(w S q d:L4.D)(o:L4.D):Prop:=∃k ns ds hh,d=.obj k ns ds/\yh k=Z hh/\ns.contains "done" = δ/\hh [d,w,S,q]=Z o
def stO(P:List Ky):Option ((Str->Str)×(Str->Int))->L4.D
 |none=>.non
 |some q=>sD P (va q.1 q.2)
def O6(s:Sit T M dk W P a)(mr:Mr T M m){q:L4.D}{t d x:Str}{u:Th}(hx:x∈nrN T)(hu:u∈T)(hm:x="self" -> u.k=.room)(h1:vd [wO T M dk W V R c,sD P (va a m),q,.str t]=Z (.str x))(h2:vd [wO T M dk W V R c,sD P (va a m),q,.str d]=Z (.str u.n)):
  ∃o,Done (wO T M dk W V R c) (sD P (va a m)) q (mvO t d) (stO P o)/\∀p,o=Z p->Inv T p.1/\Mr T M p.2:=by
 let w:=wO T M dk W V R c;let S:=sD P (va a m);let#v[l,h]:=s.i.ch u.n;let ρ:aJ:=[.im (mvO t d),.im w,.im S,.im q,.im (.str x),.im (.str u.n)];have e1:cT (tq EF qS) ρ=Z (u.k.hd&&!decide (u.n=x),ρ):=uz (tf (sZ O (sZ O (sZ O O))) (Qz s.g hx hu));have e2:cT (c2 (dIn δ) az (cL (uN wV jL))) ρ=Z (decide (x∈l),ρ):=uz (tD (x:=.str x) (y:=.lst (l.map D.str)) O (uT (tf (sZ O (sZ O (sZ O O))) (K9 s.p _ h (NO s.g s.i h)))) (yz δ _ _));have go:∀f:FS,tw (tV 4 (tq vd fo)) (tw (tV 5 (tq vd mj)) f) [.im (mvO t d),.im w,.im S,.im q,.un,.un]=f ρ:=λf=>(tu (ρ':=[.im (mvO t d),.im w,.im S,.im q,.im (.str x),.un]) ((tQ (tf (sZ O (sZ O (sZ O (sZ O O)))) h1)).trans O)).trans (tu (ρ':=ρ) ((tQ (tf (sZ O (sZ O (sZ O (sZ O O)))) h2)).trans O))
 cases k:u.k.hd&&!decide (u.n=x)with
 |false=>rw[k]at e1;show⟨J,⟨11,_,_,z8,O,O,O,tE (ρ:=ρ) O ((go _).trans (tZ ((ud (Mh (vN e1))).trans O)))⟩,λp z=>by ext z⟩
 |true=>
  rw[k]at e1;rw[aW,d6,decide_eq_false_iff_not]at k;have e3:=wF (vN e1) e2;cases k2:decide (x∈l)with
  |true=>rw[k2]at e3;show⟨J,⟨11,_,_,z8,O,O,O,tE (ρ:=ρ) O ((go _).trans (tZ ((ud e3).trans O)))⟩,λp z=>by ext z⟩
  |false=>rw[k2]at e3;calc⟨Z (ups a x u.n,m),⟨11,_,_,z8,O,O,O,tE (ρ:=ρ) O ((go _).trans ((vc e3).trans (tL (tf (ds:=[S,kD ("at", x),.str u.n]) (sZ O (sZ O (sZ O O))) ((GQ P s.len (va a m) ("at", x) (.str u.n)).trans (by rw[WX];rfl))))))⟩,λp z=>?_⟩;ext z;show⟨s.i.mv s.g hx (ay.mpr ⟨u,aZ.mpr ⟨hu,k.1⟩,O⟩) (λz=>ay.mpr ⟨u,aZ.mpr ⟨hu,bh (hm z)⟩,O⟩) k.2 h (of_decide_eq_false k2),mr⟩
theorem TL{α:Type}(kf:α->Key)(vf:α->Int)(k:Key):∀l:List α,(vp (l.map kf) (l.map λa=>D.int (vf a)) k).getD .non=.non\/∃z,(vp (l.map kf) (l.map λa=>D.int (vf a)) k).getD .non=.int z
 |[]=>.inl O
 |a::l=>by
  rw[aN,aN];delta vp;split
  .show .inr ⟨vf a,O⟩
  .show TL kf vf k l
def TM(s:Sit T M dk W P a)(mr:Mr T M m){q:L4.D}{t z:Str}(h1:vd [wO T M dk W V R c,sD P (va a m),q,.str t]=Z (.str z)){n:Int}(n0:0<=n):
  ∃o,Done (wO T M dk W V R c) (sD P (va a m)) q (puO t n) (stO P o)/\∀p,o=Z p->Inv T p.1/\Mr T M p.2:=by
 let w:=wO T M dk W V R c;let S:=sD P (va a m);let ρ:aJ:=[.im (puO t n),.im w,.im S,.im q,.im (.str z)];have e0:u6 [w,.str z]=Z ((vp ((mP T M).map λq=>kS q.1) ((mP T M).map λq=>D.int q.2) (kS z)).getD .non):=tE (ρ:=[.im w,.im (.str z)]) O (tL (tD (x:=mD T M) (y:=.str z) O O O));have e4:tV 4 (tq vd fo) [.im (puO t n),.im w,.im S,.im q,.un]=Z (.nx ρ):=(tQ (tf (sZ O (sZ O (sZ O (sZ O O)))) h1)).trans O;have mo:∀(d:L4.D),u6 [w,.str z]=Z d->∀ρ':aJ,cV 0 ρ'=Z (w,ρ')->cV 1 ρ'=Z (.str z,ρ')->tK uM "most_of" ab bG ρ'=Z (d,ρ'):=λd hd ρ' h0 h1=>tW (m:="most_of") (ns:=wNs) (xs:=wA T M dk W V R c) (ys:=[.str z]) h0 O O (sZ h1 O) hd;have fin:∀b,DL [w,.str z,.int n]=Z (.bl b)->(b=γ->∀q∈mP T M,q.1=z->n<=q.2)->∃o,Done w S q (puO t n) (stO P o)/\∀p,o=Z p->Inv T p.1/\Mr T M p.2:=λb hb hk=>by
  have e3:=vN (uz (tf (a:=aCons ai (aCons az mx)) (ρ:=ρ) (sZ O (sZ O (sZ O O))) hb));cases b with
  |false=>show⟨J,⟨12,_,_,DN,O,O,O,tE (ρ:=ρ) O ((tu e4).trans (tZ ((ud e3).trans O)))⟩,λp z=>by ext z⟩
  |true=>show⟨Z (a,ups m z n),⟨12,_,_,DN,O,O,O,tE (ρ:=ρ) O ((tu e4).trans ((vc e3).trans (tL (tf (ds:=[S,kD ("mark", z),.int n]) (sZ O (sZ O (sZ O O))) ((GQ P s.len (va a m) ("mark", z) (.int n)).trans (by rw[WY _ _ _ _ _ (Mw s.p)];rfl))))))⟩,λp e=>by
   ext e;calc⟨s.i,λq hq=>?_⟩;change 0<=(if q.1=z then n else m q.1)/\(if q.1=z then n else m q.1)<=q.2;by_cases hz:q.1=z
   .rw[ao hz];show⟨n0,hk O q hq hz⟩
   .rw[ak hz];show mr q hq⟩
 let r2:aJ:=[.im w,.im (.str z)];let r3:aJ:=[.im w,.im (.str z),.im (.int n)];rcases TL (λq:Str×Int=>kS q.1) bS (kS z) (mP T M)with h|⟨k,h⟩
 .have e5:=e0.trans (bL Z h);have mp:yZ [w,.str z]=Z (.lst []):=by refine tE (ρ:=r2) O (tL ((ET (ρ1:=r2) (uz (tD (mo _ e5 r2 O O) O O))).trans O))
  show fin δ (tE (ρ:=r3) O (tL (yI (ρ1:=r3) (tD (tf (sZ O (sZ O O)) mp) O O)))) λz=>by ext z
 .have e5:=e0.trans (bL Z h);have mp:yZ [w,.str z]=Z (.lst [kD ("mark", z)]):=by calc tE (ρ:=r2) O (tL ?_);have e:cT (c2 xN (tK uM "most_of" ab bG) aE) r2=Z (δ,r2):=uz (tD (mo _ e5 r2 O O) O O);change cIf _ _ _ r2=_;delta cIf;rw[e];rfl
  show fin (decide (n<=k)) (tE (ρ:=r3) O (tL ((tY (ρ1:=r3) (tD (tf (sZ O (sZ O O)) mp) O (TJ _ _))).trans (tD (x:=.int n) (y:=.int k) O (mo _ e5 r3 O O) O)))) λhb u hu hz=>by rw[<-hz,xQ (d:=.int u.2) (J1 s.g) (by rw[eV];show bT (f:=λq:Str×Int=>(kS q.1,D.int q.2)) hu)]at h;injection h with h;rw[h];show bF hb
def acu(g:Good T M dk W){z:Str}(h:z∈plN T):z∈nrN T/\¬z="self" := by let#v[t,ht,rfl]:=ay.mp h;rw[aZ]at ht;have hk:=ht.2;calc⟨(Fp g.ndT _ ht.1).mpr (by cases e:t.k<;>rw[e]at hk<;>first|rfl|ext hk),λz=>?_⟩;let#v[u,hu,e,k]:=Mu g;rw[K6 g.ndT ht.1 hu (z.trans e.symm),k]at hk;ext hk
def TN(s:Sit T M dk W P a)(mr:Mr T M m)(nd:((V++v9).flatMap Vb.ws).Nodup)(hv:v∈V++v9)(hc:Cm T W v x y){d:L4.D}(h:Ds T M v.f d):∃o,Done (wO T M dk W V R c) (sD P (va a m)) (q3 v.n x y) d (stO P o)/\∀p,o=Z p->Inv T p.1/\Mr T M p.2:=by
 cases h with
 |@put q n h n0=>
  rcases h with h|⟨h,_⟩
  .show TM s mr (IE _ _ _ (Ta s.g h)) n0
  .let#v[z,_,e]:=Wc (M:=M) (dk:=dk) (R:=R) (c:=c) nd hv hc (sD P (va a m)) h;show TM s mr e n0
 |@move t b ha hb hm=>
  let#v[z,hz,ez]:=Qx (R:=R) (c:=c) (m:=m) s nd hv hc (λ_ h=>My h) hb;let#v[u,hu,rfl]:=ay.mp hz;rcases ha with ⟨w,hw,rfl,hk⟩|h
  .have e1:=IE (wO T M dk W V R c) (sD P (va a m)) (q3 v.n x y) (TF s.g (ay.mpr ⟨w,hw,O⟩));calc O6 s mr ((Fp s.g.ndT _ hw).mpr (by rw[bj hk];rfl)) hu (λz=>?_) e1 ez;let#v[r,hr,e,kr]:=hm z;have e2:=IE (wO T M dk W V R c) (sD P (va a m)) (q3 v.n x y) (TF s.g (ay.mpr ⟨r,hr,e⟩));rw[e2]at ez;have e3:b=u.n:=by injection ez with ez;injection ez
   rw[<-K6 s.g.ndT hr hu (e.trans e3)];show kr
  .let#v[w,hw,ew]:=Wc (M:=M) (dk:=dk) (R:=R) (c:=c) nd hv hc (sD P (va a m)) h;let#v[h1,h2]:=acu s.g hw;show O6 s mr h1 hu (λz=>ar z h2) ew ez
end
section
variable{T:List Th}{M:List Mk}{dk:aH}{W:List Wy}{V:List Vb}{R:List L4.D}{c:L4.D}{P:List Ky}{a:Str->Str}{m:Str->Int}{v:Vb}{x y:Option Str}
def We{w S q t:L4.D}{b:Bool}(h:Wd 3 w S q t b)(r:Sl):tK (ug 3) "holds" az fq [.im w,.im S,.im q,r,.im t]=Z (.bl b,[.im w,.im S,.im q,r,.im t]):=by let#v[k,ns,ds,hh,rfl,h2,h4,h5]:=h;show tW (g:=ug 3) (m:="holds") (c:=k) (ns:=ns) (hh:=hh) (xs:=ds) (ys:=[w,S,q]) O h2 h4 O h5
def fB:FS:=(sIf (uE (cT (tK (ug 3) "holds" az fq))) (tG bz) tN)
theorem J8{w S q:L4.D}(r:Sl):∀(ts:List L4.D) (s:Sl),(∀t∈ts,∃b,Wd 3 w S q t b)->∃s',forL (gN 4) fB ts [.im w,.im S,.im q,r,s]=Z (.nx [.im w,.im S,.im q,r,s'])\/forL (gN 4) fB ts [.im w,.im S,.im q,r,s]=Z (.rt (.bl δ) [.im w,.im S,.im q,r,s'])
 |[],s,_=>⟨s,.inl O⟩
 |t::ts,s,h=>by
  delta forL;rw[show gN 4 t [.im w,.im S,.im q,r,s]=Z [.im w,.im S,.im q,r,.im t] from O];let#v[b,hb]:=h t aR;have e:=vN (uz (We hb r));cases b with
  |true=>let#v[s',h1]:=J8 (w:=w) (S:=S) (q:=q) r ts (.im t) λu hu=>h u (aU _ hu);have e2:fB [.im w,.im S,.im q,r,.im t]=Z (.nx [.im w,.im S,.im q,r,.im t]):=(uo e).trans O;erw[e2];show⟨s',h1⟩
  |false=>have e2:fB [.im w,.im S,.im q,r,.im t]=Z (.rt (.bl δ) [.im w,.im S,.im q,r,.im t]):=(ud e).trans O;erw[e2];show⟨.im t,.inr O⟩
def TQ{w S q:L4.D}(n:Str)(ts ds:List L4.D)(tx:Str)(rf:Bool)(h:∀t∈ts,∃b,Wd 3 w S q t b):∃b,Fn [w,S,q,ruO n ts ds tx rf]=Z (.bl b):=by
 let r:Sl:=.im (ruO n ts ds tx rf);obtain⟨s',e|e⟩:=J8 r ts .un h
 .show⟨γ,tE (ρ:=[.im w,.im S,.im q,r,s']) O ((tu ((uO (ds:=ts) (ρ1:=[.im w,.im S,.im q,r,.un]) O).trans e)).trans O)⟩
 .show⟨δ,tE (ρ:=[.im w,.im S,.im q,r,s']) O (tZ ((uO (ds:=ts) (ρ1:=[.im w,.im S,.im q,r,.un]) O).trans e))⟩
def yJ(k tx:Str)(S:L4.D):L4.D:=.tup [.tup [.str k,.str tx],S]
def Gd(T:List Th)(M:List Mk)(P:List Ky)(S o:L4.D):Prop:=∃k tx a' m',o=yJ k tx (sD P (va a' m'))/\((k="refused" /\ sD P (va a' m')=S)\/k="told")/\Inv T a'/\Mr T M m'
def dnB:FS:=(tw (tV 4 (tK yh "done" bf (aCons ab mH)))
 (sIf (cT (c2 xN az aE)) (tG (uv (aCons (uv qL) bG))) tN))
theorem IF(nd:((V++v9).flatMap Vb.ws).Nodup)(hv:v∈V++v9)(hc:Cm T W v x y)(S:L4.D)(r:Sl):∀(ds:List L4.D) (a:Str->Str) (m:Str->Int) (s5:Sl),Sit T M dk W P a->Mr T M m->(∀d∈ds,Ds T M v.f d)->
  (∃ρ',forL (gN 5) dnB ds [.im (wO T M dk W V R c),.im S,.im (q3 v.n x y),r,.im (sD P (va a m)),s5]=Z (.rt (yJ "refused" "That cannot be." S) ρ'))\/∃a' m' t5,(Inv T a'/\Mr T M m')/\forL (gN 5) dnB ds [.im (wO T M dk W V R c),.im S,.im (q3 v.n x y),r,.im (sD P (va a m)),s5]=Z (.nx [.im (wO T M dk W V R c),.im S,.im (q3 v.n x y),r,.im (sD P (va a' m')),t5])
 |[],a,m,s5,s,mr,_=>.inr ⟨a,m,s5,⟨s.i,mr⟩,O⟩
 |d::ds,a,m,s5,s,mr,h=>by
  let w:=wO T M dk W V R c;let q:=q3 v.n x y;let#v[o,#v[k,ns,es,hh,rfl,h2,h4,h5],hi]:=TN (R:=R) (c:=c) (m:=m) s mr nd hv hc (h d aR);let D2:L4.D:=.obj k ns es;let ρ:L4.D->aJ:=λz=>[.im w,.im S,.im q,r,.im z,.im D2];have e:=tW (g:=yh) (m:="done") (c:=k) (ns:=ns) (hh:=hh) (xs:=es) (ys:=[w,sD P (va a m),q]) (e:=cV 5) (a:=aCons ab mH) (ρ:=ρ (sD P (va a m))) (ρ1:=ρ (sD P (va a m))) (ρ2:=ρ (sD P (va a m))) O h2 h4 O h5;delta forL;rw[show gN 5 D2 [.im w,.im S,.im q,r,.im (sD P (va a m)),s5]=Z (ρ (sD P (va a m))) from O];cases o with
  |none=>have e2:dnB (ρ (sD P (va a m)))=Z (.rt (yJ "refused" "That cannot be." S) (ρ .non)):=(tu (ρ':=ρ .non) ((tQ e).trans O)).trans ((ud O).trans O);erw[e2];show .inl ⟨_,O⟩
  |some p=>have e2:dnB (ρ (sD P (va a m)))=Z (.nx (ρ (sD P (va p.1 p.2)))):=(tu (ρ':=ρ (sD P (va p.1 p.2))) ((tQ e).trans O)).trans ((uo O).trans O);erw[e2];show IF nd hv hc S r ds p.1 p.2 (.im D2) ⟨s.g,s.p,(hi p O).1⟩ (hi p O).2 λu hu=>h u (aU _ hu)
def Wf(s:Sit T M dk W P a)(mr:Mr T M m)(nd:((V++v9).flatMap Vb.ws).Nodup)(hv:v∈V++v9)(hc:Cm T W v x y)(n:Str)(ts ds:List L4.D)(tx:Str)(rf:Bool)(hd:∀d∈ds,Ds T M v.f d):∃o,Gd T M P (sD P (va a m)) o/\zj [wO T M dk W V R c,sD P (va a m),q3 v.n x y,ruO n ts ds tx rf]=Z o:=by
 let w:=wO T M dk W V R c;let S:=sD P (va a m);let q:=q3 v.n x y;let r:=ruO n ts ds tx rf;let ρ:Sl->Sl->aJ:=λx y=>[.im w,.im S,.im q,.im r,x,y];cases rf with
 |true=>show⟨_,⟨"refused", tx,a,m,O,.inl ⟨O,O⟩,s.i,mr⟩,tE (ρ:=ρ .un .un) O (tZ ((ud O).trans O))⟩
 |false=>
  rcases IF (R:=R) (c:=c) nd hv hc S (.im (ruO n ts ds tx δ)) ds a m .un s mr hd with ⟨ρ',e⟩|⟨a',m',t5,hi,e⟩
  .show⟨_,⟨"refused", "That cannot be.", a,m,O,.inl ⟨O,O⟩,s.i,mr⟩,tE (ρ:=ρ') O ((vc O).trans ((tu (ρ':=ρ (.im S) .un) O).trans (tZ ((uO (ds:=ds) (ρ1:=ρ (.im S) .un) O).trans e))))⟩
  .show⟨_,⟨"told", tx,a',m',O,.inr O,hi⟩,tE (ρ:=ρ (.im (sD P (va a' m'))) t5) O ((vc O).trans ((tu (ρ':=ρ (.im S) .un) O).trans ((tu (ρ':=ρ (.im (sD P (va a' m'))) t5) ((uO (ds:=ds) (ρ1:=ρ (.im S) .un) O).trans e)).trans O)))⟩
def J9{c c':FT}{ρ ρ1:aJ}(h:c ρ=Z (γ,ρ1)):vV c c' ρ=c' ρ1:=by delta vV;rw[h]
def Ka{c c':FT}{ρ ρ1:aJ}(h:c ρ=Z (δ,ρ1)):vV c c' ρ=Z (δ,ρ1):=by delta vV;rw[h]
def W3{e:FE}{ρ ρ1:aJ}{ds:List L4.D}(h:e ρ=Z (.tup ds,ρ1)):iT e ρ=Z (ds,ρ1):=by delta iT;rw[h]
def nmP(A':List (Option Str)):aH:=A'.filterMap id
def fU(A':List (Option Str))(p:Str->Bool):Option Str:=(nmP A').find? λx=>!p x
def uB:FS:=(sIf (vV (cT (c2 vX az aE)) (cT (c2 (dIn γ) az aw))) (tG (uv qQ)) tN)
def acv(o:Option L4.D)(ρ:aJ):Option Out:=Z (match o with|some d=>.rt d ρ|none=>.nx ρ)
def Wg(x:Str)(A':List (Option Str))(p:Str->Bool):fU (Z x::A') p=if p x then fU A' p else Z x:=by delta fU;change (x::nmP A').find? _=_;rw[d9];cases p x<;>rfl
theorem Lc{w q s5:Sl}{S:L4.D}{L:aH}{p:Str->Bool}:∀(A':List (Option Str)) (s:Sl),(∀x∈nmP A',decide (x∈L)=p x)->∃s',forL (gN 4) uB (A'.map oS) [w,.im S,q,.im (.lst (L.map D.str)),s,s5]=acv ((fU A' p).map λx=>yJ "unseen" x S) [w,.im S,q,.im (.lst (L.map D.str)),s',s5]
 |[],s,_=>⟨s,O⟩
 |none::A',s,h=>by let#v[s',e]:=Lc (w:=w) (q:=q) (s5:=s5) (S:=S) (L:=L) (p:=p) A' (.im .non) h;show⟨s',e⟩
 |some x::A',s,h=>by
  let ρ:aJ:=[w,.im S,q,.im (.lst (L.map D.str)),.im (.str x),s5];have hx:=h x aR;have e1:vV (cT (c2 vX az aE)) (cT (c2 (dIn γ) az aw)) ρ=Z (!p x,ρ):=(J9 (ρ1:=ρ) O).trans (uz (tD (x:=.str x) (y:=.lst (L.map D.str)) O O ((yz γ x L).trans (by rw[<-hx];rfl))));rw[aN];delta forL;rw[show gN 4 (oS (Z x)) [w,.im S,q,.im (.lst (L.map D.str)),s,s5]=Z ρ from O];rw[Wg];cases hp:p x with
  |true=>rw[hp]at e1;let#v[s',e]:=Lc (w:=w) (q:=q) (s5:=s5) (S:=S) (L:=L) (p:=p) A' (.im (.str x)) λy hy=>h y (aU _ hy);calc⟨s',?_⟩;have e2:uB ρ=Z (.nx ρ):=(uo e1).trans O;erw[e2];show e
  |false=>rw[hp]at e1;calc⟨.im (.str x),?_⟩;have e2:uB ρ=Z (.rt (yJ "unseen" x S) ρ):=(ud e1).trans O;erw[e2];rfl
def aB:FS:=(sIf (cT (tq Fn jX)) (tG (tq zj jX)) tN)
theorem MA{w S q:L4.D}{s3 s4:Sl}:∀(rs:List L4.D) (s:Sl),(∀r∈rs,(∃b,Fn [w,S,q,r]=Z (.bl b))/\∃o,Gd T M P S o/\zj [w,S,q,r]=Z o)->(∃o ρ',Gd T M P S o/\forL (gN 5) aB rs [.im w,.im S,.im q,s3,s4,s]=Z (.rt o ρ'))\/∃s',forL (gN 5) aB rs [.im w,.im S,.im q,s3,s4,s]=Z (.nx [.im w,.im S,.im q,s3,s4,s'])
 |[],s,_=>.inr ⟨s,O⟩
 |r::rs,s,h=>by
  let#v[#v[b,h1],o,ho,h2]:=h r aR;delta forL;rw[show gN 5 r [.im w,.im S,.im q,s3,s4,s]=Z [.im w,.im S,.im q,s3,s4,.im r] from O];have e:=uz (tf (a:=aCons ab jL) (ρ:=[.im w,.im S,.im q,s3,s4,.im r]) (sZ O (sZ O (sZ O (sZ O O)))) h1);cases b with
  |true=>have e2:aB [.im w,.im S,.im q,s3,s4,.im r]=Z (.rt o [.im w,.im S,.im q,s3,s4,.im r]):=(ud e).trans (tL (tf (sZ O (sZ O (sZ O (sZ O O)))) h2));erw[e2];show .inl ⟨o,_,ho,O⟩
  |false=>have e2:aB [.im w,.im S,.im q,s3,s4,.im r]=Z (.nx [.im w,.im S,.im q,s3,s4,.im r]):=(uo e).trans O;erw[e2];show MA rs (.im r) λu hu=>h u (aU _ hu)
theorem GT(p:Str->Bool):∀A':List (Option Str),(A'.filter λo=>match o with|none=>δ|some x=>p x).map oS=((nmP A').filter p).map D.str
 |[]=>rfl
 |none::A'=>GT p A'
 |some x::A'=>by
  change _=((x::nmP A').filter p).map D.str;rw[fI,fI];change iE oS (if p x=γ then _ else _)=iE _ (if p x=γ then _ else _);by_cases hp:p x=γ
  .rw[ao hp,ao hp,aN,aN,GT p A'];rfl
  .rw[ak hp,ak hp];show GT p A'
def TR(s:Sit T M dk W P a)(mr:Mr T M m){q:L4.D}{n:Str}{A':List (Option Str)}{p:Str->Bool}{rs:List L4.D}(hO:A'.length<=2)(hq:∃d1 d2,q=.tup [.str n,d1,d2])(h1:xk [wO T M dk W V R c,q]=Z .non)(h2:u9 [wO T M dk W V R c,q]=Z (.tup (A'.map oS)))(h3:∀x∈nmP A',wt [wO T M dk W V R c,sD P (va a m),.str x]=Z (.bl (p x)))
  (h4:vQ [wO T M dk W V R c,.str n]=Z (.lst rs)) (h5:∀r∈rs,(∃b,Fn [wO T M dk W V R c,sD P (va a m),q,r]=Z (.bl b))/\∃o,Gd T M P (sD P (va a m)) o/\zj [wO T M dk W V R c,sD P (va a m),q,r]=Z o):∃o,Gd T M P (sD P (va a m)) o/\Bp [wO T M dk W V R c,sD P (va a m),q]=Z (match fU A' p with|some x=>yJ "unseen" x (sD P (va a m))|none=>o):=by
 let w:=wO T M dk W V R c;let S:=sD P (va a m);let L:=(nmP A').filter p;let ls:L4.D:=.lst (L.map D.str);let ρ0:aJ:=[.im w,.im S,.im q,.un];let ρ:aJ:=[.im w,.im S,.im q,.im ls];have e3:tV 3 (cL (tR 1 [0,1] (iT (tq u9 cE)) (gN 0) (cT (tq wt jT)) ab)) ρ0=Z (.nx ρ):=by
  calc(tQ (uT ((yk oS oS (λo=>match o with|none=>δ|some x=>p x) A' (ρ1:=ρ0) (W3 (tf (sZ O (sZ O O)) h2)) () λx hx=>⟨[.im (oS x),.im w,.im S],[.im (oS x),.im w,.im S],O,uz (tf (sZ O (sZ O (sZ O O))) ?_),λ_=>⟨_,O,O⟩,λ_=>O⟩).trans (by rw[GT])))).trans O;cases x with
  |none=>show KF S
  |some x=>show h3 x (ie.mpr ⟨_,hx,O⟩)
 have hans:∃o,Gd T M P S o/\DO [w,S,q,ls]=Z (match fU A' p with|some x=>yJ "unseen" x S|none=>o):=by
  let r0:aJ:=[.im w,.im S,.im q,.im ls,.un,.un];let#v[s',e]:=Lc (w:=.im w) (q:=.im q) (s5:=.un) (S:=S) (L:=L) (p:=p) A' .un λx hx=>by rw[dM,b8,aZ];show⟨λz=>z.2,λz=>⟨hx,z⟩⟩
  have e1:wC (iT (tq u9 cE)) (gN 4) uB r0=_:=(uO (ρ1:=r0) (W3 (tf (sZ O (sZ O O)) h2))).trans e;have gd0:Gd T M P S (yJ "refused" "Nothing comes of it." S):=⟨_,_,a,m,O,.inl ⟨O,O⟩,s.i,mr⟩;cases hf:fU A' p with
  |some x=>rw[hf]at e1;show⟨_,gd0,tE O (tZ e1)⟩
  |none=>
   rw[hf]at e1;let#v[d1,d2,rfl]:=hq;rcases MA (T:=T) (M:=M) (P:=P) (s3:=.im ls) (s4:=s') rs .un h5 with ⟨o,ρ',ho,e2⟩|⟨s2,e2⟩
   .show⟨o,ho,tE O ((tu e1).trans (tZ ((uO (CB (tW (m:="rules_to_try") (ns:=wNs) (xs:=wA T M dk W V R c) (ys:=[.str n]) O O O O h4))).trans e2)))⟩
   .show⟨_,gd0,tE O ((tu e1).trans ((tu ((uO (CB (tW (m:="rules_to_try") (ns:=wNs) (xs:=wA T M dk W V R c) (ys:=[.str n]) O O O O h4))).trans e2)).trans O))⟩
 let#v[o,ho,hans]:=hans;show⟨o,ho,tE (ρ:=ρ) O ((tu (ρ':=ρ0) (uX (tf (sZ O (sZ O O)) h1))).trans ((tu e3).trans (tL (tf (sZ O (sZ O (sZ O (sZ O O)))) hans))))⟩
end
section
variable{T:List Th}{M:List Mk}{dk:aH}{W:List Wy}{V:List Vb}{R:List L4.D}{c:L4.D}{P:List Ky}{a:Str->Str}{m:Str->Int}{v:Vb}{x y:Option Str}
def TU(g:Good T M dk W):("self" : Str)∈hdN T:=by let#v[t,ht,e,k]:=Mu g;show ay.mpr ⟨t,aZ.mpr ⟨ht,by rw[k];rfl⟩,e⟩
def trR(v k:Str)(n:Int)(t1 t2 t3:Str):List L4.D:=[ruO v [noO (kiO "it" k)] [] t1 γ,ruO v [mkO "it" n] [] t2 γ,ruO v [] [puO "it" n] t3 δ]
def aaL:A21=[ruO "take" [kiO "it" "fixed"] [] "That stays." γ,ruO "take" [atO "it" "self"] [] "You have that." γ,ruO "take" [] [mvO "it" "self"] "Taken." δ,ruO "drop" [hsO "it"] [mvO "it" "here"] "Dropped." δ,ruO "drop" [] [] "You lack that." γ,ruO "put" [noO (hsO "it")] [] "You lack that." γ,ruO "put" [noO (kiO "other" "box")] [] "It holds nothing." γ,ruO "put" [mkO "other" 0] [] "It is shut." γ,ruO "put" [] [mvO "it" "other"] "Done." δ]++(trR "open" "box" 1 "It has no lid." "It is open." "Opened." ++ trR "shut" "box" 0 "It has no lid." "It is shut." "Shut." ++ (trR "light" "lamp" 1 "It burns not." "It is lit." "Lit." ++ trR "douse" "lamp" 0 "It burns not." "It is out." "Doused.")):=by kernel_rfl
def zL(hv:v∈v9){ts ds:List L4.D}{tx:Str}{rf:Bool}(ht:∀t∈ts,Ts T M v.f 2 t)(hd:∀e∈ds,Ds T M v.f e):RuS T M V (ruO v.n ts ds tx rf):=⟨v,bE _ hv,ts,ds,tx,rf,O,ht,hd⟩
def on1{α:Type}{p:α->Prop}{d:α}(h:p d):∀e∈[d],p e:=λe he=>by rw[aY.mp he];show h
def on0{α:Type}{p:α->Prop}:∀e∈([]:List α),p e:=λe he=>by ext he
def O7{n k t1 t2 t3:Str}{z:Int}(z0:0<=z)(hv:(⟨n,[],"one", J⟩:Vb)∈v9):∀r∈trR n k z t1 t2 t3,RuS T M V r:=λr hr=>by
 have it:By "one" "it" := .inl ⟨O,by decide⟩;have mt:Mt T M "one" ("it", 1):=.inr ⟨it,by decide⟩;erw[trR,aQ,cw,or_false]at hr;rcases hr with rfl|rfl|rfl
 .show zL hv (on1 (.no (.kind (.inr (.inr it))))) on0
 .show zL hv (on1 (.mark (q:=("it", 1)) mt)) on0
 .show zL hv on0 (on1 (.put (q:=("it", 1)) mt z0))
def aaM(g:Good T M dk W):∀r∈A21,RuS T M V r:=λr hr=>by
 have it:By "one" "it" := .inl ⟨O,by decide⟩;have i2:By "two" "it" := .inl ⟨O,by decide⟩;have o2:By "two" "other" := .inr ⟨O,O⟩;have me:=TU g;have nme:("it" : Str)="self" -> ∀b:Str,∃t∈T,t.n=b/\t.k=.room:=λz=>ar z #[];have tk:(⟨"take", [],"one", J⟩:Vb)∈v9:=by simp[v9]
 have dr:(⟨"drop", [],"one", J⟩:Vb)∈v9:=by simp[v9]
 have pu:(⟨"put", [],"two", Z "in"⟩:Vb)∈v9:=by simp[v9]
 rw[aaL]at hr;rcases ba.mp hr with hr|hr
 .erw[aQ,cw,or_false]at hr;rcases hr with rfl|rfl|rfl|rfl|rfl|rfl|rfl|rfl|rfl
  .show zL tk (on1 (.kind (.inr (.inr it)))) on0
  .show zL tk (on1 (.ats (.inr (.inr it)) (.inl me))) on0
  .show zL tk on0 (on1 (.move (.inr it) (.inl me) λz=>nme z _))
  .show zL dr (on1 (.has (.inr (.inr it)))) (on1 (.move (.inr it) (.inr (.inl O)) λz=>nme z _))
  .show zL dr on0 on0
  .show zL pu (on1 (.no (.has (.inr (.inr i2))))) on0
  .show zL pu (on1 (.no (.kind (.inr (.inr o2))))) on0
  .show zL pu (on1 (.mark (q:=("other", 1)) (.inr ⟨o2,by decide⟩))) on0
  .show zL pu on0 (on1 (.move (.inr i2) (.inr (.inr o2)) λz=>nme z _))
 .rcases ba.mp hr with hr|hr
  .rcases ba.mp hr with hr|hr
   .show O7 #[] (by simp[v9]) r hr
   .show O7 #[] (by simp[v9]) r hr
  .rcases ba.mp hr with hr|hr
   .show O7 #[] (by simp[v9]) r hr
   .show O7 #[] (by simp[v9]) r hr
def NP{r:Str}(h:r∈rmN T):r∈hdN T:=by let#v[u,hu,e]:=ay.mp h;rw[aZ]at hu;show ay.mpr ⟨u,aZ.mpr ⟨hu.1,by rw[bF hu.2];rfl⟩,e⟩
def acw(g:Good T M dk W){w:Wy}(hw:Qq T M w):RuS T M V (goO w):=by
 have hv:(⟨"go", [],"way", J⟩:Vb)∈v9:=by simp[v9]
 let#v[t,ht,e,k]:=Mu g;have mn:("self" : Str)∈T.map Th.n:=ay.mpr ⟨t,ht,e⟩;refine zL hv (λd hd=>?_) (on1 (.move (.inl ⟨t,ht,e,by rw[k];show λz=>by ext z⟩) (.inl (NP hw.hg)) λ_=>?_))
 .delta wtL at hd;rcases ba.mp hd with hd|hd
  .rw[aQ,aY]at hd;rcases hd with rfl|rfl
   .show .ats (.inl mn) (.inl (NP hw.hr))
   .show .word O
  .cases hm:w.m with
   |none=>rw[hm]at hd;cases hd
   |some k=>rw[hm]at hd;rw[aY.mp hd];have:=hw.hm k hm;rw[<-Iw]at this;let#v[q,hq,rfl]:=ay.mp this;show .no (.mark (.inl hq))
 .let#v[u,hu,e]:=ay.mp hw.hg;rw[aZ]at hu;show⟨u,hu.1,e,bF hu.2⟩
def acx(g:Good T M dk W):∀r∈SH W,RuS T M V r:=λr hr=>by
 have hv:(⟨"go", [],"way", J⟩:Vb)∈v9:=by simp[v9]
 have wv:(⟨"wait", [],"alone", J⟩:Vb)∈v9:=by simp[v9]
 delta SH at hr;rcases ba.mp hr with hr|hr
 .rcases ba.mp hr with hr|hr
  .show aaM g r hr
  .rcases ba.mp hr with hr|hr
   .let#v[w,hw,rfl]:=ay.mp hr;show acw g (g.wo w hw)
   .rw[aY.mp hr];show zL hv on0 on0
 .rw[aY.mp hr];show zL wv on0 on0
def vb_f{L:List Vb}(nd:(L.flatMap Vb.ws).Nodup){u v:Vb}(hu:u∈L)(hv:v∈L)(e:u.n=v.n):u.f=v.f:=by have h1:=K2 nd hu;have h2:=K2 nd hv;rw[e,h2]at h1;injection h1 with h1;injection h1 with _ _ h1;injection h1 with _ h1;injection h1 with _ h1;injection h1 with h1 _;injection h1 with h1;show h1.symm
def aaN{ks:List Key}{dss:List (List L4.D)}(hg:∀j,gl ks dss j=(R++SH W).filter λd=>decide (kv d=j))(n:Str):vQ [wO T M dk W V R (.dic ks (dss.map .lst)),.str n]=Z (.lst ((R++SH W).filter λd=>decide (kv d=kS n))):=by let ρ:aJ:=[.im (wO T M dk W V R (.dic ks (dss.map .lst))),.im (.str n)];calc B3 (ρ:=ρ) O (xh ?_);have e:Jx (c1 (tI xS "rules_by_verb") ab) ai (cL (uw uk)) ρ=Z ((vp ks (dss.map .lst) (kS n)).getD (.lst []),ρ):=rfl;rw[OV,hg]at e;change zQ _ ρ=_;delta zQ;rw[e];rfl
def Try(T:List Th)(M:List Mk)(dk:aH)(W:List Wy)(V:List Vb)(R:List L4.D)(c:L4.D):Prop:=∀n:Str,vQ [wO T M dk W V R c,.str n]=Z (.lst ((R++SH W).filter λd=>decide (kv d=kS n)))
def NQ(g:Good T M dk W){x:Str}(hx:x∈plN T):xF [wO T M dk W V R c,.str x]=Z (.bl γ):=by
 let#v[t,ht,rfl]:=ay.mp hx;rw[aZ]at ht;let w:=wO T M dk W V R c;let ρ:aJ:=[.im w,.im (.str t.n),.im (thD t)];have e1:tV 2 (cIf (cT (c1 (uF (uY "str")) ai)) (tK tJ "thing_of" ab bG) aE) [.im w,.im (.str t.n),.un]=Z (.nx ρ):=by calc(tQ (d:=thD t) (ρ':=[.im w,.im (.str t.n),.un]) ?_).trans O;change tK tJ "thing_of" ab bG [.im w,.im (.str t.n),.un]=_;show tW (m:="thing_of") (ns:=wNs) (xs:=wA T M dk W V R c) (ys:=[.str t.n]) O O O O (x6 g.ndT ht.1)
 show tE (ρ:=ρ) O ((tu e1).trans (tL ((tY (ρ1:=ρ) O).trans (tW (m:="is_plainly") (ns:=["name", "words", "kind", "start"]) (xs:=[.str t.n,.tup (t.w.map D.str),.str t.k.s,oS t.s]) (ys:=[]) O O O O ((EN t).trans (by rw[ht.2]))))))
def Wh(g:Good T M dk W)(hc:Cm T W v x y):Ct [wO T M dk W V R c,.str v.f,oS x,oS y]=Z (.bl γ):=by
 rcases hc with ⟨e,n,hn,rfl,rfl⟩|⟨e,n,hn,k,hk,rfl,rfl⟩|⟨e,rfl,rfl⟩|⟨e,d,hd,rfl,rfl⟩
 .rw[e];let ρ:aJ:=[.im (wO T M dk W V R c),.im (.str "one"),.im (.str n),.im .non];show tE (ρ:=ρ) O ((vc O).trans ((vc O).trans ((vc O).trans (tL (by change tq xF cE ρ=_;show tf (sZ O (sZ O O)) (NQ g hn))))))
 .rw[e];let ρ:aJ:=[.im (wO T M dk W V R c),.im (.str "two"),.im (.str n),.im (.str k)];show tE (ρ:=ρ) O (tZ ((ud O).trans (tL ((tY (ρ1:=ρ) (tf (sZ O (sZ O O)) (NQ g hn))).trans (tf (sZ O (sZ O O)) (NQ g hk))))))
 .rw[e];let ρ:aJ:=[.im (wO T M dk W V R c),.im (.str "alone"),.im .non,.im .non];show tE (ρ:=ρ) O ((vc O).trans ((vc O).trans ((vc O).trans (tL O))))
 .rw[e];let ρ:aJ:=[.im (wO T M dk W V R c),.im (.str "way"),.im (.str d),.im .non];calc tE (ρ:=ρ) O ((vc O).trans ((vc O).trans (tZ ((ud O).trans (tL ((tY (ρ1:=ρ) O).trans (tD (x:=.str d) (y:=.lst ((wdN W).map D.str)) O (tW (m:="way_words") (ns:=wNs) (xs:=wA T M dk W V R c) (ys:=[]) O O O O (Mn g.w8 λw hw=>(g.wo w hw).hw)) ((yz δ _ _).trans ?_))))))));change Z (D.bl (decide (d∈wdN W)))=_;rw[bh hd]
def aaO(g:Good T M dk W)(nd:((V++v9).flatMap Vb.ws).Nodup)(hv:v∈V++v9)(hc:Cm T W v x y):xk [wO T M dk W V R c,q3 v.n x y]=Z .non:=by
 let w:=wO T M dk W V R c;let q:=q3 v.n x y;have h1:Bo [w,q]=Z (.bl γ):=by let ρ0:aJ:=[.im w,.im q,.un];let ρ:aJ:=[.im w,.im q,.im (vbO v)];have e1:tV 2 (tK uR "verb_of" ab f6) ρ0=Z (.nx ρ):=(tQ (tW (m:="verb_of") (ns:=wNs) (xs:=wA T M dk W V R c) (ys:=[.str v.n]) O O O O (O5 nd hv))).trans O;refine tE (ρ:=ρ) O ((vc O).trans ((tu e1).trans (tL ((tY (ρ1:=ρ) O).trans ((tY (ρ1:=ρ) (tD (x:=.str v.n) (y:=.str v.n) O O (by rw[vG];simp))).trans (tf (ds:=[w,.str v.f,oS x,oS y]) (sZ O (sZ O (sZ O (sZ O O)))) (Wh g hc)))))))
 show Ae (ρ:=[.im w,.im q]) O ((uo (vN (b:=γ) (uz (tf (sZ O (sZ O O)) h1)))).trans O)
def acy(hc:Cm T W v x y):∀z∈nmP (thO v x y),z∈plN T:=λz hz=>by
 delta thO at hz;rcases hc with ⟨e,n,hn,rfl,rfl⟩|⟨e,n,hn,k,hk,rfl,rfl⟩|⟨e,rfl,rfl⟩|⟨e,d,hd,rfl,rfl⟩
 .rw[e,ak #[],show nmP [Z n,J]=[n] from O,aY]at hz;rw[hz];show hn
 .rw[e,ak #[],show nmP [Z n,Z k]=[n,k] from O,aQ,aY]at hz;rcases hz with rfl|rfl
  .show hn
  .show hk
 .rw[e,ak #[]]at hz;ext hz
 .rw[e,ao O]at hz;ext hz
def TV(s:Sit T M dk W P a)(mr:Mr T M m)(nd:((V++v9).flatMap Vb.ws).Nodup)(ht:Try T M dk W V R c)(hR:∀r∈R,RuS T M V r)(hv:v∈V++v9)(hc:Cm T W v x y){p:Str->Bool}(hp:∀z∈plN T,wt [wO T M dk W V R c,sD P (va a m),.str z]=Z (.bl (p z))):
  ∃o,Gd T M P (sD P (va a m)) o/\Bp [wO T M dk W V R c,sD P (va a m),q3 v.n x y]=Z (match fU (thO v x y) p with|some z=>yJ "unseen" z (sD P (va a m))|none=>o):=by
 calc TR s mr (by delta thO;split<;>show aS 2) ⟨_,_,O⟩ (aaO s.g nd hv hc) (J7 nd hv x y) (λz hz=>hp z (acy hc z hz)) (ht v.n) λr hr=>?_;let#v[hr1,hr2]:=aZ.mp hr;have hs:RuS T M V r:=by
  rcases ba.mp hr1 with h|h
  .show hR r h
  .show acx s.g r h
 let#v[u,hu,ts,ds,tx,rf,rfl,h1,h2]:=hs;have e:u.n=v.n:=ND (bF hr2);rw[vb_f nd hu hv e]at h1 h2;show⟨TQ _ _ _ _ _ λt h=>Qy s nd hv hc (h1 t h) 3 #[],Wf s mr nd hv hc _ _ _ _ _ h2⟩
def acz{q:L4.D}(hf:∀v∈V++v9,v.f∈fms)(hq:q∈cmA (plN T) (wdN W) ((V++v9).map nf)):∃v∈V++v9,∃x y,q=q3 v.n x y/\Cm T W v x y:=by
 let#v[n,hn,hq]:=d8.mp hq;let#v[v,hv,rfl]:=ay.mp hn;let#v[z,hz,rfl]:=ay.mp hq;calc⟨v,hv,?_⟩;have hf:=hf v hv;delta obF at hz;change ∃x y,p3 v.n z=q3 v.n x y/\Cm T W v x y;by_cases h1:v.f="alone"
 .rw[ao (show (nf v).2="alone" from h1)]at hz;rw[aY.mp hz];show⟨J,J,O,.inr (.inr (.inl ⟨h1,O,O⟩))⟩
 .rw[ak (show ¬(nf v).2="alone" from h1)]at hz;by_cases h2:v.f="way"
  .rw[ao (show (nf v).2="way" from h2)]at hz;let#v[d,hd,rfl]:=ay.mp hz;show⟨Z d,J,O,.inr (.inr (.inr ⟨h2,d,hd,O,O⟩))⟩
  .rw[ak (show ¬(nf v).2="way" from h2)]at hz;by_cases h3:v.f="one"
   .rw[ao (show (nf v).2="one" from h3)]at hz;let#v[d,hd,rfl]:=ay.mp hz;show⟨Z d,J,O,.inl ⟨h3,d,hd,O,O⟩⟩
   .rw[ak (show ¬(nf v).2="one" from h3)]at hz;let#v[n,hn,hz]:=d8.mp hz;let#v[k,hk,rfl]:=ay.mp hz;have h4:v.f="two" := by
     erw[fms,aQ,cw,or_false]at hf;rcases hf with h|h|h|h
     .show ar h h3
     .show h
     .show ar h h1
     .show ar h h2
    show⟨Z n,Z k,O,.inr (.inl ⟨h4,n,hn,k,hk,O,O⟩)⟩
end
def Dr(xs:List Int)(n:Nat):Prop:=xs.length=n/\∀x∈xs,0<=x/\x<720
theorem IG{β:Type}{g:FG}{f:FS}(st:List L4.D->β->aJ):∀(l:List L4.D),(∀d∈l,∀acc b,acc.length<100->∃ρ1 x b',g d (st acc b)=Z ρ1/\f ρ1=Z (.nx (st (acc++[.int x]) b'))/\0<=x/\x<720)->
  ∀(xs:List Int) (n:Nat) (b:β),Dr xs n->n+l.length<=100->∃xs' b',forL g f l (st (xs.map D.int) b)=Z (.nx (st (xs'.map D.int) b'))/\Dr xs' (n+l.length)
 |[],_,xs,n,b,h,_=>⟨xs,b,O,h⟩
 |d::l,hs,xs,n,b,h,hl=>by
  rw[aT]at hl;let#v[ρ1,x,b',h1,h2,h3]:=hs d aR (xs.map D.int) b (by rw[aq,h.1];omega);let#v[xs',b2,h4,h5]:=IG st l (λd hd=>hs d (aU _ hd)) (xs++[x]) (n+1) b' ⟨by rw[aM,h.1];rfl,λy hy=>by
   rcases ba.mp hy with hy|hy
   .show h.2 y hy
   .rw[aY.mp hy];show h3⟩ ()
  calc⟨xs',b2,?_,by rw[aT,show n+(l.length+1)=n+1+l.length by omega];show h5⟩;delta forL;rw[h1];erw[h2];rw[bK]at h4;show h4
def md{a b:Int}(h:0<b):0<=a % b/\a % b<b:=⟨Int.emod_nonneg _ (),Int.emod_lt_of_pos _ h⟩
def TX{e:FE}{ρ ρ1:aJ}{n:Nat}(h:e ρ=Z (.int (n:Nat),ρ1))(hn:n<=900):iR1 e ρ=Z (CT 0 n,ρ1):=by delta iR1;rw[h];simp only;rw[ao (),d5]
def MB(c:Int)(n:Nat)(hn:n<=100):∃xs,y6 [.int c,.int n]=Z (xs.map D.int)/\Dr xs n:=by
 have ed:(CT 0 n).length=n:=by delta CT;simp
 have er:∀s2:List L4.D,iR1 ai [.im (.int c),.im (.int n),.ls s2,.un,.un]=Z (CT 0 n,[.im (.int c),.im (.int n),.ls s2,.un,.un]):=λs2=>TX O ();have ap:∀{e:FE} {ρ:aJ} {acc:List L4.D} {d:L4.D},acc.length<100->e ρ=Z (d,ρ)->xK ρ 2=Z acc->uq (zt 2 e) ρ=Z (.nx (putAt ρ 2 (acc++[d]))):=λh1 h2 h3=>uX (BV h3 h2 h3 ());have ec:cT (c2 Vm ab (c2 Oe jJ (cC (.int 18)))) [.im (.int c),.im (.int n),.ls [],.un,.un]=Z (decide ((10:Int) ^ (18:Int).toNat<=c),[.im (.int c),.im (.int n),.ls [],.un,.un]):=rfl;by_cases hc:(10:Int) ^ (18:Int).toNat<=c
 .rw[bh hc]at ec;let#v[xs,b,h1,h2]:=IG (g:=gN 3) (f:=(tw (uq (zt 2 (c2 uf ab gS))) (tV 0 (c2 uV ab gS)))) (λacc (b:Int×Sl)=>[.im (.int b.1),.im (.int n),.ls acc,b.2,.un]) (CT 0 n)
   (λd _ acc b ha=>⟨[.im (.int b.1),.im (.int n),.ls acc,.im d,.un],b.1 % 720,(b.1 / 720,.im d),O,(tu (ap ha (tD (x:=.int b.1) O O (ux #[])) O)).trans ((tQ (tD (x:=.int b.1) (y:=.int 720) O O (div_pos #[] #[]))).trans O),md #[]⟩) [] 0 (c,.un) ⟨O,λ_ h=>by ext h⟩ (by rw[ed];omega)
  rw[ed,lE]at h2;calc⟨xs,yL (ρ:=[.im (.int b.1),.im (.int n),.un,b.2,.un]) O ?_,h2⟩;delta y4;show(tu (ρ':=[.im (.int c),.im (.int n),.ls [],.un,.un]) O).trans (CQ ((ud ec).trans ((tu ((uO (er [])).trans h1)).trans O)))
 .rw[bj hc]at ec;have h7:A6 7919=γ:=by decide
  have h4:A6 48271=γ:=by decide
  let#v[xs,b,h1,h2]:=IG (g:=gN 3) (f:=(tw (tV 4 (c2 uf (c2 vM (c2 vm (c2 vm ab (c2 vM (cC (.int 7919)) aw)) aI) (cC (.int 48271))) jH))
   (tw (tV 4 (c2 uf (c2 vM az (c2 vm (c2 uV az (cC (.int 1009))) (cC (.int 69621)))) jH))
   (uq (zt 2 (c2 uf (c2 uf (c2 vM az (c2 vm (c2 uV az (cC (.int 2003))) (cC (.int 40692)))) (cC (.int 2147483399))) gS)))))) (λacc (b:Sl×Sl)=>[.im (.int c),.im (.int n),.ls acc,b.1,b.2]) (CT 0 n)
   (λd hd acc b ha=>by
    let#v[k,rfl]:∃k:Int,d=.int k:=by delta CT at hd;let#v[i,_,e]:=ay.mp hd;show⟨_,e.symm⟩
    let σ:Sl->aJ:=λs=>[.im (.int c),.im (.int n),.ls acc,.im (.int k),s];let a1:Int:=(c+7919 * k+1) * 48271 % 2147483647;let a2:Int:=a1 * (a1 / 1009+69621) % 2147483647;have g1:=md (a:=(c+7919 * k+1) * 48271) (b:=2147483647) #[];have g2:=md (a:=a1 * (a1 / 1009+69621)) (b:=2147483647) #[];calc⟨σ b.2,a2 * (a2 / 2003+40692) % 2147483399 % 720,(.im (.int k),.im (.int a2)),O,?_,md #[]⟩;calc(tu (ρ':=σ (.im (.int a1))) ((tQ (tD (ρ1:=σ b.2) (tD (tD (tD O (tD O O (zc (.inl h7))) O) O O) O (zc (.inr h4))) O (ux #[]))).trans O)).trans ?_;calc(tu (ρ':=σ (.im (.int a2))) ((tQ (tD (ρ1:=σ (.im (.int a1))) (tD (x:=.int a1) O (tD (tD (x:=.int a1) O O (div_pos #[] #[])) O O) (zc (.inl (LR g1.1 g1.2)))) O (ux #[]))).trans O)).trans ?_;show ap ha (ρ:=σ (.im (.int a2))) (tD (tD (tD (x:=.int a2) O (tD (tD (x:=.int a2) O O (div_pos #[] #[])) O O) (zc (.inl (LR g2.1 g2.2)))) O (ux #[])) O (ux #[])) O) [] 0 (.un,.un) ⟨O,λ_ h=>by ext h⟩ (by rw[ed];omega)
  rw[ed,lE]at h2;calc⟨xs,yL (ρ:=[.im (.int c),.im (.int n),.un,b.1,b.2]) O ?_,h2⟩;delta y4;show(tu (ρ':=[.im (.int c),.im (.int n),.ls [],.un,.un]) O).trans ((tu ((uo ec).trans O)).trans ((tu ((uO (er [])).trans h1)).trans O))
def W4{xs:List Int}{n:Nat}(h:Dr xs n){k:Nat}(hk:k<n):∃x:Int,dIx (.lst (xs.map D.int)) (.int k)=Z (.int x)/\0<=x/\x<720:=by
 have hk':k<xs.length:=by rw[h.1];show hk
 show⟨xs[k],AY (by rw[bC,bg hk'];rfl),h.2 _ (fH hk')⟩
def AW{α:Type}(dd:α->L4.D){L:List α}(h0:L≠[])(x:Int):∃a∈L,dIx (.lst (L.map dd)) (.int (x % ((L.length:Nat):Int)))=Z (dd a):=by
 have h1:0<L.length:=gj.mpr h0;let#v[m0,m1]:=md (a:=x) (b:=((L.length:Nat):Int)) ();let#v[j,hj]:=iX m0;rw[hj]at m1 ⊢;have h2:j<L.length:=by omega
 show⟨L[j],fH h2,AY (by rw[bC,bg h2];rfl)⟩
def Gm{α:Type}(dd:α->L4.D)(L:List α):vv (.lst (L.map dd))=Z (.int L.length):=by change Z (D.int _)=_;rw[aq]
def plD(q:Str×aH):L4.D:=.tup [.str q.1,.tup (q.2.map D.str)]
def Jg(i:Nat):Str×aH:=plL.getD i ("pin", ["red", "key"])
def kL:List Kd:=[.plain,.box,.lamp,.fixed,.plain,.box]
def iL5:List Int:=[1,2,3,8,9]
def tBz:FS:=(tw (tV 6 (c2 dIx ab (c2 dIx (cL (uw qE)) bf)))
 (tw (tV 7 (c2 dIx (cL (uw qA)) (c2 uf bb cg)))
 (tw (tV 8 (MZ (c2 dIx aw (c2 uf (c2 uV bb cg) (c1 vv aw)))))
 (tw (uq (zt 2 (uj 0 (λds=>v8 (ds++[])) qw)))
 (sIf (cT (c2 (dEq δ) bH eE)) (uq (zt 3 (c2 dIx (c2 dIx az bf) aA))) tN)))))
def TY{i:Nat}(h:i<5):Jg i∈plL/\dIx (.lst (plL.map plD)) (.int i)=Z (plD (Jg i)):=by
 have e:plL[i]?=Z (Jg i):=by delta Jg;rw[cF,bg (show i<plL.length from h)];rfl
 show⟨cG e,AY (by rw[bC,e];rfl)⟩
def x_at{xs:List Int}(h:Dr xs 40){i:Nat}(hi:i<5):∃x j:Int,dIx (.lst (iL5.map D.int)) (.int i)=Z (.int j)/\dIx (.lst (xs.map D.int)) (.int j)=Z (.int x):=by
 have hi':i<iL5.length:=hi;let#v[n,hn,e]:∃n:Nat,n<40/\iL5[i]=n:=(show ∀z∈iL5,∃n:Nat,n<40/\z=n from λz hz=>by
  delta iL5 at hz;erw[aQ,cw,or_false]at hz;rcases hz with rfl|rfl|rfl|rfl|rfl
  .show⟨1,by decide,O⟩
  .show⟨2,by decide,O⟩
  .show⟨3,by decide,O⟩
  .show⟨8,by decide,O⟩
  .show⟨9,by decide,O⟩) _ (fH hi')
 let#v[x,h1,_]:=W4 h hn;show⟨x,n,AY (by rw[bC,bg hi',e];rfl),h1⟩
theorem Gp{xs:List Int}(hx:Dr xs 40)(a:Sl):∀(l:List Nat) (P:List Th) (Hs:aH) (s5 s6 s7 s8:Sl),(∀k∈l,k<5)->Hs≠[]->(∀x∈Hs,∃u∈P,u.n=x/\u.k.hd=γ)->Ord P->P.length+l.length<=900->Hs.length+l.length<=900->
  ∃(P':List Th) (Hs':aH) (t5 t6 t7 t8:Sl),Ord (P++P')/\P'.map Th.nw=l.map Jg/\(∀t∈P',t.k.pl=γ)/\
   forL (gN 5) tBz (l.map λk:Nat=>D.int (k:Nat)) [.im (.lst (xs.map D.int)),a,.ls (P.map thD),.ls (Hs.map D.str),.im (.lst (plL.map plD)),s5,s6,s7,s8]=Z (.nx [.im (.lst (xs.map D.int)),a,.ls ((P++P').map thD),.ls (Hs'.map D.str),.im (.lst (plL.map plD)),t5,t6,t7,t8])
 |[],P,Hs,s5,s6,s7,s8,_,_,_,ho,_,_=>⟨[],Hs,s5,s6,s7,s8,by rw[bQ];show ho,O,λr hr=>(cw hr).elim,by rw[bQ];rfl⟩
 |k::l,P,Hs,s5,s6,s7,s8,hk,h0,hH,ho,hl,hl'=>by
  rw[aT]at hl hl';have hi:=hk k aR;let X0:Sl:=.im (.lst (xs.map D.int));let Q:Sl:=.im (.lst (plL.map plD));let K:Sl:=.im (.int (k:Nat));let#v[pm,ea]:=TY hi;let#v[x,j,ej,ex]:=x_at hx hi;let q:=Jg k;let#v[kd,hkd,ek]:=AW (λk:Kd=>D.str k.s) (L:=kL) #[] x;have hpl:kd.pl=γ:=(show ∀k∈kL,Kd.pl k=γ by decide) _ hkd;let#v[p,hp,ep]:=AW D.str h0 (x / 6);let X:Sl:=.im (.int x);let Y:Sl:=.im (.str kd.s);let AT:Sl:=.im (.str p);let t:Th:=⟨q.1,q.2,kd,Z p⟩;let#v[u,hu,hun,huk]:=hH p hp;have ok:KY P t:=.inr (.inr ⟨hpl,u,hu,by rw[hun],huk⟩);let ρ:Sl->Sl->Sl->aJ:=λa1 a2 a3=>[X0,a,.ls (P.map thD),.ls (Hs.map D.str),Q,K,a1,a2,a3];have eq:∀{ρ:aJ} {j:Nat} {d:L4.D},cV 4 ρ=Z (.lst (plL.map plD),ρ)->cV 5 ρ=Z (.int (k:Nat),ρ)->dIx (plD q) (.int j)=Z d->c2 dIx (c2 dIx az bf) (cC (.int j)) ρ=Z (d,ρ):=λh4 h5 h=>tD (tD h4 h5 ea) O h;let Hs1:aH:=if kd=.box then Hs++[q.1]else Hs
  have xb:tBz (ρ s6 s7 s8)=Z (.nx [X0,a,.ls ((P++[t]).map thD),.ls (Hs1.map D.str),Q,K,X,Y,AT]):=by
   delta tBz;calc(tu (ρ':=ρ X s7 s8) ((tQ (tD (x:=.lst (xs.map D.int)) (ρ1:=ρ s6 s7 s8) O (tD (x:=.lst (iL5.map D.int)) O O ej) ex)).trans O)).trans ?_;calc(tu (ρ':=ρ X Y s8) ((tQ (tD (x:=.lst (kL.map λk=>D.str k.s)) (ρ1:=ρ X s7 s8) O (tD (x:=.int x) O O (ux #[])) ek)).trans O)).trans ?_;calc(tu (ρ':=ρ X Y AT) ((tQ (YE (ρ1:=(ρ X Y s8).map Sl.bor) (tD (x:=.lst (Hs.map D.str)) O (tD (tD (x:=.int x) O O (div_pos #[] #[])) (uu (x:=.lst (Hs.map D.str)) O (Gm D.str Hs)) (ux (by have:=gj.mpr h0;omega))) ep) O)).trans O)).trans ?_;let ρ3:aJ:=[X0,a,.ls ((P++[t]).map thD),.ls (Hs.map D.str),Q,K,X,Y,AT];refine(tu (ρ':=ρ3) ((uX (BV (es0:=P.map thD) (es:=P.map thD) (ρ1:=ρ X Y AT) (d:=thD t) O (vH (ds:=[.str q.1,.tup (q.2.map D.str),.str kd.s,.str p]) (sZ (eq (j:=0) O O O) (sZ (eq (j:=1) O O O) (sZ O (sZ O O)))) O) O (by rw[aq];omega))).trans ?_)).trans ?_
   .change Z (Out.nx [X0,a,.ls (P.map thD++[thD t]),.ls (Hs.map D.str),Q,K,X,Y,AT])=_;rw[show P.map thD++[thD t]=(P++[t]).map thD by rw[bK];rfl]
   .have et:cT (c2 (dEq δ) bH eE) ρ3=Z (decide (kd=.box),ρ3):=uz (tD O O (Dl kd .box));by_cases hb:kd=.box
    .rw[bh hb]at et;calc(ud et).trans ((uX (BV (es0:=Hs.map D.str) (es:=Hs.map D.str) (ρ1:=ρ3) (d:=.str q.1) O (eq (j:=0) O O O) O (by rw[aq];omega))).trans ?_);change Z (Out.nx [X0,a,.ls ((P++[t]).map thD),.ls (Hs.map D.str++[.str q.1]),Q,K,X,Y,AT])=_;rw[show Hs1.map D.str=Hs.map D.str++[.str q.1] by rw[show Hs1=Hs++[q.1] from ao hb,bK];rfl]
    .rw[bj hb]at et;calc(uo et).trans ?_;rw[show Hs1=Hs from ak hb];rfl
  have hH1:∀y∈Hs1,∃u∈P++[t],u.n=y/\u.k.hd=γ:=λy hy=>by
   have old:y∈Hs->∃u∈P++[t],u.n=y/\u.k.hd=γ:=λhy=>by let#v[v,hv,h]:=hH y hy;show⟨v,bO _ hv,h⟩
   by_cases hb:kd=.box
   .rw[show Hs1=Hs++[q.1] from ao hb]at hy;rcases ba.mp hy with hy|hy
    .show old hy
    .rw[aY]at hy;calc⟨t,by simp,hy.symm,?_⟩;change kd.hd=γ;rw[hb];rfl
   .rw[show Hs1=Hs from ak hb]at hy;show old hy
  have h01:Hs1≠[]:=by
   by_cases hb:kd=.box
   .rw[show Hs1=Hs++[q.1] from ao hb];simp
   .rw[show Hs1=Hs from ak hb];show h0
  have hl1:Hs1.length<=Hs.length+1:=by
   by_cases hb:kd=.box
   .rw[show Hs1=Hs++[q.1] from ao hb];simp
   .rw[show Hs1=Hs from ak hb];omega
  let#v[P',Hs',t5,t6,t7,t8,g2,g3,g4,g5]:=Gp hx a l (P++[t]) Hs1 K X Y AT (λk h=>hk k (aU _ h)) h01 hH1 (ho.snoc ok) (by rw[aM,cW];omega) ();refine⟨t::P',Hs',t5,t6,t7,t8,by rw[cp]at g2;show g2,by rw[aN,aN,g3];rfl,λr hr=>?_,?_⟩
  .rcases aQ.mp hr with rfl|hr
   .show hpl
   .show g4 r hr
  .rw[aN];delta forL;rw[show gN 5 (.int (k:Nat)) [X0,a,.ls (P.map thD),.ls (Hs.map D.str),Q,s5,s6,s7,s8]=Z (ρ s6 s7 s8) from O];erw[xb];rw[g5,cp];rfl
def rmT(x:Str):Th:=⟨x,["big", "room"],.room,J⟩
structure Drawn(T:List Th):Prop where
 ord:Ord T
 ex:∃(r n:Nat) (y:Str) (P:List Th),1<=r/\r<=3/\n<6/\T=(rmL.take r).map rmT++⟨"self", ["self"],.you,Z y⟩::P/\P.map Th.nw=(bu n).map Jg/\∀t∈P,t.k.pl=γ
theorem Kb:∀(l:aH) (B:List Th),Ord B->Ord (B++l.map rmT)
 |[],B,h=>by rw[fR,bQ];show h
 |x::l,B,h=>by rw[aN,List.append_cons];show Kb l _ (h.snoc (.inl ⟨O,O⟩))
def TZ{e:FE}{lo hi:FO}{ρ ρ1 ρ2 ρ3:aJ}{ds:List L4.D}{l u:Option Int}(h1:e ρ=Z (.lst ds,ρ1))(h2:lo ρ1=Z (l,ρ2))(h3:hi ρ2=Z (u,ρ3)):KE e lo hi ρ=Z (cutD ds l u,ρ3):=by delta KE;rw[h1];erw[h2,h3]
def NR{e:FE}{ρ ρ1:aJ}{i:Int}(h:e ρ=Z (.int i,ρ1)):oAt e ρ=Z (Z i,ρ1):=by delta oAt;rw[h]
def NS(X0:Sl):∀{r:Nat},r<3->tR 1 [1] (iR1 (c1 vv ai)) (gN 0) uQ (uj 0 (λds=>v8 (ds++[D.non])) qD) [X0,.im (.lst ((rmL.take (1+r)).map D.str)),.un,.un,.un,.un,.un,.un,.un]=Z (((rmL.take (1+r)).map rmT).map thD,[X0,.im (.lst ((rmL.take (1+r)).map D.str)),.un,.un,.un,.un,.un,.un,.un])
 |0,_=>by kernel_rfl
 |1,_=>by kernel_rfl
 |2,_=>by kernel_rfl
 |r+3,h=>by omega
def QA{xs:List Int}(hx:Dr xs 40):∃T,Drawn T/\Ar [.lst (xs.map D.int)]=Z (TD T):=by
 let X0:Sl:=.im (.lst (xs.map D.int));let U:Sl:=.un;let#v[x,e0,x0,x1]:=W4 hx (k:=0) #[];have cx:∀{ρ:aJ},cV 0 ρ=Z (.lst (xs.map D.int),ρ)->c2 dIx ab aA ρ=Z (.int x,ρ):=λh=>tD h O e0;let#v[r,hr0,hr1]:∃r:Nat,x % 3=(r:Nat)/\r<3:=by let#v[m0,m1]:=md (a:=x) (b:=3) #[];let#v[r,hr]:=iX m0;show⟨r,hr,by omega⟩
 let R:aH:=rmL.take (1+r);have lR:R.length=1+r:=by change (rmL.take (1+r)).length=_;rw[cO];change min (1+r) 3=_;omega
 let RS:Sl:=.im (.lst (R.map D.str));let T0:List Th:=R.map rmT;have nR:R≠[]:=λz=>by have:=bL eZ z;rw[lR]at this;simp at this
 let#v[y,hy,ey]:=AW D.str nR (x / 2);let me:Th:=⟨"self", ["self"],.you,Z y⟩;let P0:List Th:=T0++[me];have o0:Ord T0:=by have:=Kb R [] .nil;rw[cz]at this;show this
 have o1:Ord P0:=o0.snoc (.inr (.inl ⟨O,rmT y,bT hy,O,O⟩));let Hs:aH:=R++(["self"]:aH);have hH:∀x∈Hs,∃u∈P0,u.n=x/\u.k.hd=γ:=λx hx=>by
  rcases ba.mp hx with hx|hx
  .show⟨rmT x,bO _ (bT hx),O,O⟩
  .show⟨me,bE _ (aY.mpr O),(aY.mp hx).symm,O⟩
 have lP:P0.length=2+r:=by change (R.map rmT++[me]).length=_;rw[aM,aq,lR];change 1+r+1=_;omega
 have lH:Hs.length=2+r:=by change (R++_).length=_;rw[aM,lR];change 1+r+1=_;omega
 let#v[n,hn0,hn1]:∃n:Nat,x / 6 % 6=(n:Nat)/\n<6:=by let#v[m0,m1]:=md (a:=x / 6) (b:=6) #[];let#v[r,hr]:=iX m0;show⟨r,hr,by omega⟩
 let#v[P',Hs',t5,t6,t7,t8,o5,g3,g4,x5]:=Gp hx RS (bu n) P0 Hs U U U U (λk h=>by have:=cu.mp h;omega) (by change R++(["self"]:aH)≠[];simp) hH o1 (by rw[cN];omega) (by rw[cN];omega);let T:List Th:=P0++P';calc⟨T,⟨o5,1+r,n,y,P',by omega,by omega,hn1,by change (R.map rmT++[me])++P'=_;rw[cp];rfl,g3,g4⟩,?_⟩;let Q:Sl:=.im (.lst (plL.map plD));calc B3 (ρ:=[X0,RS,.un,.ls (Hs'.map D.str),Q,t5,t6,t7,t8]) O ?_;delta Aq;have e1:KE (cL (uw qp)) oNo (oAt (c2 vm aI (c2 uf (c2 dIx ab aA) bx))) [X0,U,U,U,U,U,U,U,U]=Z (R.map D.str,[X0,U,U,U,U,U,U,U,U]):=by calc(TZ (ds:=rmL.map D.str) (ρ1:=[X0,U,U,U,U,U,U,U,U]) O O (NR (tD (x:=.int 1) O (tD (cx O) O (ux #[])) O))).trans ?_;rw[hr0];change Z (cutD (rmL.map D.str) J (Z (1+((r:Nat):Int))),_)=_;rw[show (1+((r:Nat):Int))=(((1+r:Nat)):Int) by omega,aau (1+r) (by rw[aq];change 1+r<=3;omega),<- lD]
 calc(tu (ρ':=[X0,RS,U,U,U,U,U,U,U]) ((tQ (uT e1)).trans O)).trans ?_;calc(tu (ρ':=[X0,RS,.ls (T0.map thD),U,U,U,U,U,U]) ((Ol (NS X0 hr1)).trans O)).trans ?_;refine(tu (ρ':=[X0,RS,.ls (T0.map thD),.ls (Hs.map D.str),U,U,U,U,U]) ((Ol (w6 (xs:=R.map D.str) (ys:=[.str "self"]) (ρ1:=[X0,RS,.ls (T0.map thD),U,U,U,U,U,U]) O O (by rw[aq,lR];change 1+r+1<=1000;omega))).trans ?_)).trans ?_
 .change Z (Out.nx [X0,RS,.ls (T0.map thD),.ls (R.map D.str++[.str "self"]),U,U,U,U,U])=Z (Out.nx [X0,RS,.ls (T0.map thD),.ls ((R++(["self"]:aH)).map D.str),U,U,U,U,U]);rw[bK];rfl
 refine(tu (ρ':=[X0,RS,.ls (P0.map thD),.ls (Hs.map D.str),U,U,U,U,U]) ((uX (BV (es0:=T0.map thD) (es:=T0.map thD) (d:=thD me) (ρ1:=[X0,RS,.ls (T0.map thD),.ls (Hs.map D.str),U,U,U,U,U]) O (vH (ds:=[.str "self", .tup [.str "self"],.str "you", .str y]) (sZ O (sZ O (sZ O (sZ (tD (x:=.lst (R.map D.str)) O (tD (tD (cx O) O (div_pos #[] #[])) (uu (x:=.lst (R.map D.str)) O (Gm D.str R)) (ux ())) ey) O)))) O) O (by rw[aq];change (R.map rmT).length<1000;rw[aq,lR];omega))).trans ?_)).trans ?_
 .change Z (Out.nx [X0,RS,.ls (T0.map thD++[thD me]),.ls (Hs.map D.str),U,U,U,U,U])=Z (Out.nx [X0,RS,.ls ((T0++[me]).map thD),.ls (Hs.map D.str),U,U,U,U,U]);rw[show (T0++[me]).map thD=T0.map thD++[thD me] by rw[bK];rfl]
 calc(tu (ρ':=[X0,RS,.ls (P0.map thD),.ls (Hs.map D.str),.im (.lst ((plL.take 3).map plD)),U,U,U,U]) O).trans ?_;calc(tu (ρ':=[X0,RS,.ls (P0.map thD),.ls (Hs.map D.str),Q,U,U,U,U]) O).trans ?_;calc(tu ((uO (ds:=(bu n).map λk:Nat=>D.int (k:Nat)) (ρ1:=[X0,RS,.ls (P0.map thD),.ls (Hs.map D.str),Q,U,U,U,U]) ?_).trans x5)).trans O;have em:c2 uf (c2 uV (c2 dIx ab aA) cg) cg [X0,RS,.ls (P0.map thD),.ls (Hs.map D.str),Q,U,U,U,U]=Z (.int (n:Nat),[X0,RS,.ls (P0.map thD),.ls (Hs.map D.str),Q,U,U,U,U]):=(tD (tD (cx O) O (div_pos #[] #[])) O (ux #[])).trans (by rw[hn0]);calc(TX em ()).trans ?_;delta CT;simp
def VF:List (Str×Str):=[("pray", "alone"),("rub", "one"),("wait", "alone"),("take", "one"),("open", "one"),("peer", "way"),("tie", "two")]
def Tn(f:Str)(N:aH)(x:Str):Prop:=x∈N\/By f x
def isIt(v:Str):Bool:=decide (v∈(["rub", "take", "open", "tie"]:aH))
def acA:∀q∈VF,isIt q.1=γ->By q.2 "it" := λq hq h=>by have:=(show ∀q∈VF,isIt q.1=γ->q.2∈(["one", "two"]:aH) by decide) q hq h;show .inl ⟨O,this⟩
def T2:∀q∈VF,q.1="tie" -> q.2="two" := by decide
def aaP:∀q∈VF,q.1="peer" -> q.2="way" := by decide
def vf_f:∀q∈VF,q.2∈fms:=by decide
def qzI(a b:Int){e:FE}{ρ:aJ}(h:e ρ=Z (.int a,ρ)):cT (c2 (dEq δ) e (cC (.int b))) ρ=Z (decide (a=b),ρ):=uz (tD h O (yp δ a b))
def qzS(a b:Str){e:FE}{ρ:aJ}(h:e ρ=Z (.str a,ρ)):cT (c2 (dEq δ) e (cS b)) ρ=Z (decide (a=b),ρ):=uz (tD h O (vG δ a b))
def NT{c c':FT}{ρ:aJ}{a b:Bool}(h1:c ρ=Z (a,ρ))(h2:c' ρ=Z (b,ρ)):vV c c' ρ=Z (a&&b,ρ):=by
 ext a
 .show Ka h1
 .show(J9 h1).trans h2
def xA{c:FT}{e:FE}{h:FS}{ρ:aJ}{b:Bool}{d:L4.D}(q:c ρ=Z (b,ρ))(hb:b=γ)(hd:e ρ=Z (d,ρ)):tw (sIf c (tG e) tN) h ρ=Z (.rt d ρ):=tZ ((ud (hb▸q)).trans (tL hd))
def wY{c:FT}{e h:FS}{ρ:aJ}{b:Bool}(q:c ρ=Z (b,ρ))(hb:b=δ):tw (sIf c e tN) h ρ=h ρ:=vc (hb▸q)
def CS{α:Type}(dd:α->L4.D){L:List α}(h0:L≠[]){e s:FE}{ρ:aJ}{x a:Int}(hs:s ρ=Z (.lst (L.map dd),ρ))(hx:e ρ=Z (.int x,ρ))(ha:0<a)(ha':a<1073741824):∃z∈L,c2 dIx s (c2 uf (c2 uV e (cC (.int a))) (c1 vv s)) ρ=Z (dd z,ρ):=by let#v[z,hz,e1]:=AW dd h0 (x / a);have:=gj.mpr h0;show⟨z,hz,tD hs (tD (tD hx O (div_pos ha ha')) (uu hs (Gm dd L)) (ux ())) e1⟩
def O8{N:aH}(h0:N≠[]){q:Str×Str}(hq:q∈VF)(x:Int):∃t,yH [.lst (N.map D.str),.str q.1,.int x]=Z (.str t)/\Tn q.2 N t:=by
 let ρ:aJ:=[.im (.lst (N.map D.str)),.im (.str q.1),.im (.int x)];have em:c2 uf aj bx ρ=Z (.int (x % 3),ρ):=tD (x:=.int x) O O (ux #[]);have e1:vV (cT (c2 (dIn δ) ai (uv qo))) (cT (c2 (dEq δ) (c2 uf aj bx) aA)) ρ=Z (isIt q.1&&decide (x % 3=0),ρ):=
  NT (uz (tD (x:=.str q.1) (y:=.tup ((["rub", "take", "open", "tie"]:aH).map D.str)) O O (yA δ q.1 _))) (qzI _ _ em)
 have e2:vV (cT (c2 (dEq δ) ai iI)) (cT (c2 (dEq δ) (c2 uf aj bx) aI)) ρ=Z (decide (q.1="tie")&&decide (x % 3=1),ρ):=NT (qzS q.1 "tie" O) (qzI _ _ em);have fin:∀{t:Str},Cw ρ=Z (.rt (.str t) ρ)->yH [.lst (N.map D.str),.str q.1,.int x]=Z (.str t):=λh=>tE (ρ:=ρ) O h;cases b1:(isIt q.1&&decide (x % 3=0))with
 |true=>show⟨"it", fin (xA e1 b1 O),.inr (acA q hq (by rw[aW]at b1;show b1.1))⟩
 |false=>
  cases b2:(decide (q.1="tie")&&decide (x % 3=1))with
  |true=>show⟨"other", fin ((wY e1 b1).trans (xA e2 b2 O)),.inr (.inr ⟨O,T2 q hq (bF (by rw[aW]at b2;show b2.1))⟩)⟩
  |false=>let#v[z,hz,e3]:=CS D.str h0 (s:=cV 0) (e:=cV 2) (ρ:=ρ) (x:=x) (a:=3) O O #[] #[];show⟨z,fin ((wY e1 b1).trans ((wY e2 b2).trans (tL e3))),.inl hz⟩
section
variable{T:List Th}{M:List Mk}{dk:aH}{W:List Wy}{V:List Vb}{N P K:aH}{q:Str×Str}{x y:Int}
structure Ls(T:List Th)(M:List Mk)(N P K:aH):Prop where
 n0:N≠[]
 n:∀z∈N,∃t∈T,t.n=z/\t.k≠.room
 p0:P≠[]
 pl:P.length<=100
 p:∀z∈P,z∈hdN T
 k0:K≠[]
 k:∀z∈K,∃p∈mP T M,p.1=z/\1<=p.2
def Ls.tm(l:Ls T M N P K){f t:Str}(h:Tn f N t):Tm f (T.map Th.n) t:=by
 rcases h with h|h
 .let#v[u,hu,e,_]:=l.n t h;show .inl (ay.mpr ⟨u,hu,e⟩)
 .show .inr (.inr h)
def m2(y:Int):0<=y % 2/\y % 2<=1:=by have:=md (a:=y) (b:=2) #[];omega
def byD(t:Str):Bool:=decide (t∈(["it", "other"]:aH))
def W5(g:Good T M dk W)(l:Ls T M N P K){f t:Str}(h:Tn f N t)(hb:byD t=γ):By f t:=by
 rcases h with h|h
 .let#v[u,hu,rfl,_]:=l.n t h;show ar (bF hb) ((show ∀z∈nmL,z∉(["it", "other"]:aH) by decide +kernel) _ (Qs g hu))
 .show h
def Wi(g:Good T M dk W)(l:Ls T M N P K)(hq:q∈VF)(x y:Int):∃d,Aa [.lst (N.map D.str),.lst (P.map D.str),.lst (K.map D.str),.str q.1,.int x,.int y]=Z d/\Tq T M (w10 T M dk W V) q.2 2 d:=by
 have hf:=vf_f q hq;let#v[t,et,ht]:=O8 l.n0 hq y;let ρ0:Sl->Sl->aJ:=λa b=>[.im (.lst (N.map D.str)),.im (.lst (P.map D.str)),.im (.lst (K.map D.str)),.im (.str q.1),.im (.int x),.im (.int y),a,b];let ρ:=ρ0 (.im (.int (x % 7))) (.im (.str t));let#v[k0,k1]:=md (a:=x) (b:=7) #[];let#v[p,hp,ep]:=CS D.str l.p0 (s:=cV 1) (e:=cV 4) (ρ:=ρ) (x:=x) (a:=7) O O #[] #[];let#v[m,hm,em]:=CS D.str l.k0 (s:=cV 2) (e:=cV 4) (ρ:=ρ) (x:=x) (a:=7) O O #[] #[];let#v[w,hw,ew]:=AW D.str (L:=(["north", "south"]:aH)) #[] (x / 7);let#v[u,hu,rfl,hu1]:=l.k m hm;have y2:=m2 y;have y3:=m2 (y / 3);have ey:c2 uf bf bp ρ=Z (.int (y % 2),ρ):=tD (x:=.int y) O O (ux #[]);have ey3:c2 uf (c2 uV bf bx) bp ρ=Z (.int (y / 3 % 2),ρ):=tD (tD (x:=.int y) O O (div_pos #[] #[])) O (ux #[]);have d1:vV (cT (c2 (dEq δ) aw (cS "peer"))) (cT (c2 IW bb bx)) ρ=Z (decide (q.1="peer")&&decide ((3:Int)<x % 7),ρ):=NT (qzS q.1 "peer" O) O;have c2':vV (cT (c2 (dIn δ) bH (uv gX))) (cT (c2 IW bb dX)) ρ=Z (byD t&&decide ((4:Int)<x % 7),ρ):=NT (uz (tD (x:=.str t) (y:=.tup ((["it", "other"]:aH).map D.str)) O O (yA δ t _))) O;have ek:∀b:Int,cT (c2 (dEq δ) bb (cC (.int b))) ρ=Z (decide (x % 7=b),ρ):=λb=>qzI (x % 7) b O;have mkd:uj 6 (λds=>uL (ds++[])) jK ρ=Z (mkO u.1 (y % 2),ρ):=vH (ds:=[.str u.1,.int (y % 2)]) (sZ em (sZ ey O)) O;have tmk:∀{n},Tq T M (w10 T M dk W V) q.2 n (mkO u.1 (y % 2)):=⟨OT g hf (.inl hu) y2.1 (),.mark (.inl hu)⟩;have hs:uj 4 (λds=>yc (ds++[])) iP ρ=Z (hsO t,ρ):=vH (ds:=[.str t]) O O;have tt:=l.tm ht;have ths:∀{n},Tq T M (w10 T M dk W V) q.2 n (hsO t):=⟨aaz g hf tt,.has tt⟩
 suffices h:∃d,z9 (ρ0 .un .un)=Z (.rt d ρ)/\Tq T M (w10 T M dk W V) q.2 2 d by let#v[d,h1,h2]:=h;show⟨d,tE (ρ:=ρ) O h1,h2⟩
 delta z9;rw[tu (ρ':=ρ0 (.im (.int (x % 7))) .un) ((tQ (tD (x:=.int x) (ρ1:=ρ0 .un .un) O O (ux #[]))).trans O)];rw[tu (ρ':=ρ) ((tQ (tf (ρ1:=ρ0 (.im (.int (x % 7))) .un) (sZ O (sZ O (sZ O O))) et)).trans O)];cases b1:(decide (q.1="peer")&&decide ((3:Int)<x % 7))with
 |true=>have hq1:q.2="way" := aaP q hq (bF (by rw[aW]at b1;show b1.1));show⟨woO w,xA d1 b1 (vH (ds:=[.str w]) (sZ (tD (x:=.lst ((["north", "south"]:aH).map D.str)) O (tD (tD (x:=.int x) O O (div_pos #[] #[])) O (ux #[])) ew) O) O),by rw[hq1];show V4 hw,.word hq1⟩
 |false=>
 rw[wY d1 b1];cases b2:(byD t&&decide ((4:Int)<x % 7))with
 |true=>have hb:Mt T M q.2 (t,1):=.inr ⟨W5 g l ht (by rw[aW]at b2;show b2.1),(show (1:Int)<=3 by decide)⟩;show⟨mkO t (y / 3 % 2),xA c2' b2 (vH (ds:=[.str t,.int (y / 3 % 2)]) (sZ O (sZ ey3 O)) O),OT g hf hb y3.1 y3.2,.mark hb⟩
 |false=>
 rw[wY c2' b2];by_cases h0:x % 7=0
 .show⟨atO t p,xA (ek 0) (bh h0) (vH (ds:=[.str t,.str p]) (sZ O (sZ ep O)) O),ack g hf tt (.inl (l.p p hp)),.ats tt (.inl (l.p p hp))⟩
 rw[wY (ek 0) (bj h0)];by_cases h1:x % 7=1
 .show⟨hsO t,xA (ek 1) (bh h1) hs,ths⟩
 rw[wY (ek 1) (bj h1)];by_cases h2:x % 7=2
 .show⟨seO t,xA (ek 2) (bh h2) (vH (ds:=[.str t]) O O),V3 g hf tt,.seen tt⟩
 rw[wY (ek 2) (bj h2)];by_cases h3:x % 7=3
 .show⟨liO,xA (ek 3) (bh h3) O,aaA,.lit⟩
 rw[wY (ek 3) (bj h3)];by_cases h4:x % 7=4
 .show⟨noO (mkO u.1 (y % 2)),xA (ek 4) (bh h4) (vH (ds:=[mkO u.1 (y % 2)]) (sZ mkd O) O),Mj tmk.1,.no tmk.2⟩
 rw[wY (ek 4) (bj h4)];by_cases h5:x % 7=5
 .show⟨boO (mkO u.1 (y % 2)) (noO (hsO t)),xA (ek 5) (bh h5) (vH (ds:=[mkO u.1 (y % 2),noO (hsO t)]) (sZ mkd (sZ (vH (ds:=[hsO t]) (sZ hs O) O) O)) O),Qt tmk.1 (Mj (n:=0) ths.1),.bo tmk.2 (.no (n:=0) ths.2)⟩
 rw[wY (ek 5) (bj h5)];show⟨mkO u.1 (y % 2),tL mkd,tmk⟩
def Wj(g:Good T M dk W)(l:Ls T M N P K)(hq:q∈VF)(x y:Int):∃d,Ac [.lst (N.map D.str),.lst (P.map D.str),.lst (K.map D.str),.str q.1,.int x,.int y]=Z d/\Dq T M (w10 T M dk W V) q.2 d:=by
 have hf:=vf_f q hq;let#v[t,et,ht]:=O8 l.n0 hq y;let ρ0:Sl->aJ:=λb=>[.im (.lst (N.map D.str)),.im (.lst (P.map D.str)),.im (.lst (K.map D.str)),.im (.str q.1),.im (.int x),.im (.int y),b];let ρ:=ρ0 (.im (.str t));let#v[m,hm,em]:=CS D.str l.k0 (s:=cV 2) (e:=cV 4) (ρ:=ρ) (x:=x) (a:=2) O O #[] #[];let#v[u,hu,rfl,hu1]:=l.k m hm;let#v[p,hp,ep]:=AW D.str (L:=P++(["here"]:aH)) (by simp) (x / 2);have y2:=m2 y;have y3:=m2 (y / 3);have ey:c2 uf bf bp ρ=Z (.int (y % 2),ρ):=tD (x:=.int y) O O (ux #[]);have ey3:c2 uf (c2 uV bf bx) bp ρ=Z (.int (y / 3 % 2),ρ):=tD (tD (x:=.int y) O O (div_pos #[] #[])) O (ux #[]);have xm:∀{a:Int},0<a->c2 uf az (cC (.int a)) ρ=Z (.int (x % a),ρ):=λh=>tD (x:=.int x) O O (ux h);have d1:vV (cT (c2 (dEq δ) aw iI)) (cT (c2 (dEq δ) (c2 uf az dX) aA)) ρ=Z (decide (q.1="tie")&&decide (x % 4=0),ρ):=NT (qzS q.1 "tie" O) (qzI _ _ (xm #[]));have c2':vV (cT (c2 (dEq δ) (c2 uf az bp) aA)) (cT (c2 (dEq γ) bb iJ)) ρ=Z (decide (x % 2=0)&&!decide (t="self"),ρ):=NT (qzI _ _ (xm #[])) (uz (tD (x:=.str t) O O (vG γ t "self")));have c3:cT (c2 (dIn δ) bb (uv gX)) ρ=Z (byD t,ρ):=uz (tD (x:=.str t) (y:=.tup ((["it", "other"]:aH).map D.str)) O O (yA δ t _))
 suffices h:∃d,Ab (ρ0 .un)=Z (.rt d ρ)/\Dq T M (w10 T M dk W V) q.2 d by let#v[d,h1,h2]:=h;show⟨d,tE (ρ:=ρ) O h1,h2⟩
 delta Ab;rw[tu (ρ':=ρ) ((tQ (tf (ρ1:=ρ0 .un) (sZ O (sZ O (sZ O O))) et)).trans O)];cases b1:(decide (q.1="tie")&&decide (x % 4=0))with
 |true=>have h2:q.2="two" := T2 q hq (bF (by rw[aW]at b1;show b1.1));have ha:Mv T q.2 "it" := .inr (.inl ⟨O,by rw[h2];decide⟩);have hb:Tm q.2 (hdN T) "other" := .inr (.inr (.inr ⟨O,h2⟩));show⟨mvO "it" "other", xA d1 b1 O,OU g hf ha hb λz=>ar z #[],.move ha hb λz=>ar z #[]⟩
 |false=>
 rw[wY d1 b1];cases b2:(decide (x % 2=0)&&!decide (t="self"))with
 |true=>
  have hne:t≠"self" := by erw[aW,d6,decide_eq_false_iff_not]at b2;show b2.2
  have ha:Mv T q.2 t:=ht.imp (l.n t) id;have hb:Tm q.2 (hdN T) p:=by
   rcases ba.mp hp with h|h
   .show .inl (l.p p h)
   .show .inr (.inl (aY.mp h))
  refine⟨mvO t p,xA c2' b2 (vH (ds:=[.str t,.str p]) (sZ O (sZ (tD (x:=.lst ((P++(["here"]:aH)).map D.str)) ((uT (w6 (xs:=P.map D.str) (ys:=[.str "here"]) O O ?_)).trans (by rw[bK];rfl)) (tD (tD (x:=.int x) O O (div_pos #[] #[])) (tD (uu (x:=.lst (P.map D.str)) O (Gm D.str P)) O O) (ux ())) ?_) O)) O),OU g hf ha hb λz=>ar z hne,.move ha hb λz=>ar z hne⟩
  .have:=l.pl;rw[aq];change P.length+1<=1000;omega
  .rw[aM]at ep;show ep
 |false=>
 rw[wY c2' b2];cases b3:byD t with
 |true=>have hb:Mt T M q.2 (t,1):=.inr ⟨W5 g l ht b3,(show (1:Int)<=3 by decide)⟩;show⟨puO t (y / 3 % 2),xA c3 b3 (vH (ds:=[.str t,.int (y / 3 % 2)]) (sZ O (sZ ey3 O)) O),Tc g hf hb y3.1 y3.2,.put hb y3.1⟩
 |false=>
 rw[wY c3 b3];show⟨puO u.1 (y % 2),tL (vH (ds:=[.str u.1,.int (y % 2)]) (sZ em (sZ ey O)) O),Tc g hf (.inl hu) y2.1 (),.put (.inl hu) y2.1⟩
end
def V8:List (Str×Str):=[("pray", "alone"),("rub", "one"),("pray", "alone"),("wait", "alone"),("take", "one"),("open", "one"),("peer", "way"),("tie", "two")]
def v8_v:∀q∈V8,q∈VF:=by decide +kernel
def vf_v:∀q∈VF,∃v∈v6++v9,v.n=q.1/\v.f=q.2:=λq hq=>by have:=(show ∀q∈VF,q∈(v6++v9).map nf by decide +kernel) q hq;let#v[v,hv,e]:=ay.mp this;show⟨v,hv,bL jB e,bL bS e⟩
def tx3:aH:=["Aye.", "So.", "Hm."]
def acC{t:Str}(h:t∈tx3):AQ [.str t]=Z (.bl γ):=CA (bc.mp (show (tx3.all λt=>isT (AQ [.str t]))=γ by kernel_rfl) t h)
def yv(ys:List Int)(i:Nat):Int:=ys.getD i 0
def Ld{ys:List Int}{n:Nat}(h:Dr ys n){i:Nat}(hi:i<n):dIx (.lst (ys.map D.int)) (.int i)=Z (.int (yv ys i)):=by
 have hi':i<ys.length:=by rw[h.1];show hi
 calc AY (by rw[bC,bg hi'];delta yv;rw[cF,bg hi'];rfl)
def aaQ{xs:List Int}(h:Dr xs 40){k:Nat}(hk:k<4):∃ys,cutD (xs.map D.int) (Z (10+6 * (k:Int))) (Z (16+6 * (k:Int)))=ys.map D.int/\Dr ys 6:=by
 calc⟨(xs.drop (10+6 * k)).take 6,?_,by rw[cO,jh,h.1];omega,λx hx=>h.2 x (nH (kn hx))⟩;delta cutD;rw[aq,h.1,lD,lC]
 match k,hk with
 |0,_=>rfl
 |1,_=>rfl
 |2,_=>rfl
 |3,_=>rfl
 |k+4,h=>omega
def IH{x a:Int}(ha:0<a):∃n:Nat,x % a=(n:Nat)/\(n:Int)<a:=by let#v[m0,m1]:=md (a:=x) (b:=a) ha;let#v[r,hr]:=iX m0;show⟨r,hr,by omega⟩
def Fq{e:FE}{ρ ρ1:aJ}{n:Nat}(hn:n<=900)(h:e ρ=Z (.int (n:Nat),ρ1)):iR1 e ρ=Z ((bu n).map λk:Nat=>D.int (k:Nat),ρ1):=by delta iR1;rw[h];simp only;rw[ao (),d5];delta CT;simp
def rB:FS:=(tw (tV 8 (cL (KE aj (oAt (c2 vm jJ (c2 vM cg bH))) (oAt (c2 vm (cC (.int 16)) (c2 vM cg bH))))))
 (tw (tV 9 (c2 dIx (cL (uw qm)) (c2 uf (c2 dIx cD aA) gR)))
 (tw (tV 10 (cL (tR 1 [3,4,5,9,8] (iR1 (c2 uf (c2 uV (c2 dIx cD aA) gR) bx)) (gN 0) uQ (tq Aa qt))))
 (tw (tV 11 (cL (tR 1 [3,4,5,9,8] (iR1 (c2 uf (c2 uV (c2 dIx cD aA) (cC (.int 24))) bx)) (gN 0) uQ (tq Ac qu))))
 (tw (tV 12 (c2 (dEq δ) (c2 uf (c2 uV (c2 dIx cD aA) (cC (.int 72))) fZ) dX))
 (tw (sIf (cT (cV 12)) (tV 11 (cL (uw uk))) tN)
 (uq (zt 6 (uj 13 (λds=>wJ (ds++[])) qv)))))))))
section
variable{T:List Th}{M:List Mk}{dk:aH}{W:List Wy}{N P K:aH}{xs:List Int}
def MC{Pr:L4.D->Prop}{ft:List L4.D->Option L4.D}{N P K:L4.D}{v:Str}{ys:List Int}(hy:Dr ys 6)(ht:∀x y,∃d,ft [N,P,K,.str v,.int x,.int y]=Z d/\Pr d)(i:Nat)(hi:i<=3){e:FE}{ρ:aJ}{n:Nat}(hn:n<=2)
  (he:e ρ=Z (.int (n:Nat),ρ)) (hc:∀j:Nat,gN 0 (.int j) (D7 1 [3,4,5,9,8] ρ)=Z [.im (.int j),.im N,.im P,.im K,.im (.str v),.im (.lst (ys.map D.int))]) (hu:∀j:Nat,xM [3,4,5,9,8] (List.drop 1 [Sl.im (.int j),.im N,.im P,.im K,.im (.str v),.im (.lst (ys.map D.int))]) ρ=Z ρ):
  ∃ts,tR 1 [3,4,5,9,8] (iR1 e) (gN 0) uQ (tq ft (aCons ai (aCons aj (aCons aw (aCons az (aCons (c2 dIx bf (c2 vm (cC (.int i)) ab)) (a1 (c2 dIx bf (c2 vm (cC (.int (i+1:Nat))) ab))))))))) ρ=Z (ts,ρ)/\ts.length<=2/\∀t∈ts,Pr t:=by
 let h:Nat->L4.D:=λj=>(ft [N,P,K,.str v,.int (yv ys (i+j)),.int (yv ys (i+1+j))]).getD .non;have eh:∀j,ft [N,P,K,.str v,.int (yv ys (i+j)),.int (yv ys (i+1+j))]=Z (h j)/\Pr (h j):=λj=>by
  let#v[d,e1,e2]:=ht (yv ys (i+j)) (yv ys (i+1+j));have:h j=d:=by change (ft _).getD _=d;rw[e1];rfl
  rw[this];show⟨e1,e2⟩
 calc⟨(bu n).map h,xg (λk:Nat=>D.int (k:Nat)) h (bu n) (Fq () he) (by rw[cN];omega) λj hj=>?_,by rw[aq,cN];show hn,λt ht=>by let#v[j,_,rfl]:=ay.mp ht;show(eh j).2⟩;have hj':=cu.mp hj;let σ:aJ:=[.im (.int j),.im N,.im P,.im K,.im (.str v),.im (.lst (ys.map D.int))];have ad:∀a:Nat,c2 vm (cC (.int a)) ab σ=Z (.int ((a+j:Nat):Int),σ):=λa=>tD (x:=.int a) (y:=.int j) O O (by change Z (D.int ((a:Int)+(j:Int)))=_;rw[show (a:Int)+(j:Int)=((a+j:Nat):Int) by omega]);show⟨σ,σ,hc j,tf (sZ O (sZ O (sZ O (sZ O (sZ (tD (x:=.lst (ys.map D.int)) O (ad i) (Ld hy ())) (sZ (tD (x:=.lst (ys.map D.int)) O (ad (i+1)) (Ld hy ())) O)))))) (eh j).1,hu j⟩
theorem II(g:Good T M dk W)(l:Ls T M N P K)(hx:Dr xs 40)(a b:Sl):∀(ks:List Nat) (R:List L4.D) (s7 s8 s9 s10 s11 s12:Sl),(∀k∈ks,k<4)->(∀r∈R,RuQ T M v6 (w10 T M dk W v6) r)->R.length+ks.length<=4->
  ∃(R':List L4.D) (t7 t8 t9 t10 t11 t12:Sl),(∀r∈R',RuQ T M v6 (w10 T M dk W v6) r)/\R'.length<=4/\forL (gN 7) rB (ks.map λk:Nat=>D.int (k:Nat)) [a,b,.im (.lst (xs.map D.int)),.im (.lst (N.map D.str)),.im (.lst (P.map D.str)),.im (.lst (K.map D.str)),.ls R,s7,s8,s9,s10,s11,s12]=Z (.nx [a,b,.im (.lst (xs.map D.int)),.im (.lst (N.map D.str)),.im (.lst (P.map D.str)),.im (.lst (K.map D.str)),.ls R',t7,t8,t9,t10,t11,t12])
 |[],R,s7,s8,s9,s10,s11,s12,_,hR,hl=>⟨R,s7,s8,s9,s10,s11,s12,hR,by simpa using hl,O⟩
 |k::ks,R,s7,s8,s9,s10,s11,s12,hk,hR,hl=>by
  rw[aT]at hl;let#v[ys,ey,hy]:=aaQ hx (hk k aR);let X:Sl:=.im (.lst (xs.map D.int));let Y:Sl:=.im (.lst (ys.map D.int));let y0:=yv ys 0;let#v[q,hq8,eq]:=AW (λq:Str×Str=>D.str q.1) (L:=V8) #[] y0;have hq:=v8_v q hq8;let#v[v,hv,vn,vf]:=vf_v q hq;let#v[n1,e1,l1]:=IH (x:=y0 / 8) (a:=3) #[];let#v[n2,e2,l2]:=IH (x:=y0 / 24) (a:=3) #[];let#v[tx,htx,etx]:=AW D.str (L:=tx3) #[] (yv ys 5);let rf:Bool:=decide (y0 / 72 % 5=4);let ρ:Sl->Sl->Sl->Sl->Sl->aJ:=λc8 c9 c10 c11 c12=>[a,b,X,.im (.lst (N.map D.str)),.im (.lst (P.map D.str)),.im (.lst (K.map D.str)),.ls R,.im (.int (k:Nat)),c8,c9,c10,c11,c12];have c0:∀{c9 c10 c11 c12:Sl},c2 dIx cD aA (ρ Y c9 c10 c11 c12)=Z (.int y0,ρ Y c9 c10 c11 c12):=tD (x:=.lst (ys.map D.int)) O O (Ld hy #[]);have dv:∀{c9 c10 c11 c12:Sl} {a m:Int},0<a->a<1073741824->0<m->c2 uf (c2 uV (c2 dIx cD aA) (cC (.int a))) (cC (.int m)) (ρ Y c9 c10 c11 c12)=Z (.int (y0 / a % m),ρ Y c9 c10 c11 c12):=λh1 h2 h3=>tD (tD c0 O (div_pos h1 h2)) O (ux h3);let Q:Sl:=.im (.str q.1);let#v[ts,et,lt,ht]:=MC (ρ:=ρ Y Q s10 s11 s12) hy (λx y=>Wi (V:=v6) (q:=q) g l hq x y) 1 #[] (e:=c2 uf (c2 uV (c2 dIx cD aA) gR) bx) (n:=n1) () ((dv #[] #[] #[]).trans (by rw[e1])) (λ_=>O) (λ_=>O);let#v[ds,ed,ld,hd]:=MC (ρ:=ρ Y Q (.im (.lst ts)) s11 s12) hy (λx y=>Wj (V:=v6) (q:=q) g l hq x y) 3 #[] (e:=c2 uf (c2 uV (c2 dIx cD aA) (cC (.int 24))) bx) (n:=n2) () ((dv #[] #[] #[]).trans (by rw[e2])) (λ_=>O) (λ_=>O);let ds':List L4.D:=if rf then []else ds
  have ld':ds'.length<=2:=by change (if rf then []else ds).length<=2;ext rf<;>simp[ld]
  have hd':∀d∈ds',Dq T M (w10 T M dk W v6) q.2 d:=λd h=>by
   replace h:d∈(if rf then []else ds):=h;cases hr:rf<;>rw[hr]at h
   .show hd d h
   .ext h
  let r:=ruO v.n ts ds' tx rf;have ok:RuQ T M v6 (w10 T M dk W v6) r:=⟨V5 (λ_ h=>h) OQ hv (λt h=>by rw[vf];show(ht t h).1) () (λt h=>by rw[vf];show(hd' t h).1) () (λz=>by change (if rf then []else ds)=[];rw[z];rfl) (acC htx),v,hv,ts,ds',tx,rf,O,λt h=>by rw[vf];show(ht t h).2,λt h=>by rw[vf];show(hd' t h).2⟩;have xb:rB (ρ s8 s9 s10 s11 s12)=Z (.nx [a,b,X,.im (.lst (N.map D.str)),.im (.lst (P.map D.str)),.im (.lst (K.map D.str)),.ls (R++[r]),.im (.int (k:Nat)),Y,Q,.im (.lst ts),.im (.lst ds'),.im (.bl rf)]):=by
   delta rB;have ml:∀c:Int,c2 vm (cC (.int c)) (c2 vM cg bH) (ρ s8 s9 s10 s11 s12)=Z (.int (c+6 * (k:Int)),ρ s8 s9 s10 s11 s12):=λc=>tD (x:=.int c) O (tD (x:=.int 6) (y:=.int k) O O (zc (.inl #[]))) O;calc(tu (ρ':=ρ Y s9 s10 s11 s12) ((tQ (uT ((TZ (ρ1:=ρ s8 s9 s10 s11 s12) (ds:=xs.map D.int) O (NR (ml 10)) (NR (ml 16))).trans (by rw[ey])))).trans O)).trans ?_;calc(tu (ρ':=ρ Y Q s10 s11 s12) ((tQ (tD (x:=.lst (V8.map λq=>D.str q.1)) (ρ1:=ρ Y s9 s10 s11 s12) O (tD c0 O (ux #[])) eq)).trans O)).trans ?_;calc(tu (ρ':=ρ Y Q (.im (.lst ts)) s11 s12) ((tQ (uT et)).trans O)).trans ?_;calc(tu (ρ':=ρ Y Q (.im (.lst ts)) (.im (.lst ds)) s12) ((tQ (uT ed)).trans O)).trans ?_;calc(tu (ρ':=ρ Y Q (.im (.lst ts)) (.im (.lst ds)) (.im (.bl rf))) ((tQ (tD (dv #[] #[] #[]) O (yp δ _ _))).trans O)).trans ?_;refine(tu (ρ':=ρ Y Q (.im (.lst ts)) (.im (.lst ds')) (.im (.bl rf))) ?_).trans ?_
   .have ec:cT (cV 12) (ρ Y Q (.im (.lst ts)) (.im (.lst ds)) (.im (.bl rf)))=Z (rf,ρ Y Q (.im (.lst ts)) (.im (.lst ds)) (.im (.bl rf))):=rfl;change _=Z (Out.nx (ρ Y Q (.im (.lst ts)) (.im (.lst (if rf then []else ds))) (.im (.bl rf))));generalize rf=rf at ec ⊢;ext rf
    .show(uo ec).trans O
    .show(ud ec).trans O
   .refine(uX (BV (es0:=R) (es:=R) (d:=r) (ρ1:=ρ Y Q (.im (.lst ts)) (.im (.lst ds')) (.im (.bl rf))) O (vH (ds:=[.str q.1,.lst ts,.lst ds',.str tx,.bl rf]) (sZ O (sZ O (sZ O (sZ (tD (x:=.lst (tx3.map D.str)) O (tD (tD (x:=.lst (ys.map D.int)) O O (Ld hy #[])) O (ux #[])) etx) (sZ O O))))) (by change wJ [.str q.1,.lst ts,.lst ds',.str tx,.bl rf]=Z (ruN,[.str v.n,.lst ts,.lst ds',.str tx,.bl rf]);rw[vn];kernel_rfl)) O ())).trans O
  let#v[R',t7,t8,t9,t10,t11,t12,h1,h2,h3]:=II g l hx a b ks (R++[r]) (.im (.int (k:Nat))) Y Q (.im (.lst ts)) (.im (.lst ds')) (.im (.bl rf)) (λk h=>hk k (aU _ h)) (λz hz=>by
   rcases ba.mp hz with hz|hz
   .show hR z hz
   .rw[aY.mp hz];show ok) (by rw[aM];simp;omega)
  calc⟨R',t7,t8,t9,t10,t11,t12,h1,h2,?_⟩;rw[aN];delta forL;rw[show gN 7 (.int (k:Nat)) [a,b,X,.im (.lst (N.map D.str)),.im (.lst (P.map D.str)),.im (.lst (K.map D.str)),.ls R,s7,s8,s9,s10,s11,s12]=Z (ρ s8 s9 s10 s11 s12) from O];erw[xb];show h3
end
def aaR{P:Kd->Prop}(h1:P .room)(h2:P .you)(h3:P .plain)(h4:P .fixed)(h5:P .box)(h6:P .lamp):∀k,P k:=λk=>by ext k<;>assumption
def aaS:((bu 6).all λn=>decide (rmL++("self" : Str)::((bu n).map λk=>(Jg k).1)++mkL).Nodup)=γ:=by kernel_rfl
def T4{T T0:List Th}(p:T.Perm T0){t:Th}(h:KY T0 t):CO T t:=by
 have hr:∀u∈T0,u.k=.room->u.n∈rmN T:=λu hu hk=>bT (aZ.mpr ⟨p.mem_iff.mpr hu,bh hk⟩);have hh:∀u∈T0,u.k.hd=γ->u.n∈hdN T:=λu hu hk=>bT (aZ.mpr ⟨p.mem_iff.mpr hu,hk⟩);let#v[n,w,k,s]:=t;rcases h with ⟨h1,h2⟩|⟨h1,u,hu,h2,h3⟩|⟨h1,u,hu,h2,h3⟩
 .simp only at h1 h2;subst h1 h2;show trivial
 .simp only at h1 h2;subst h1 h2;show hr u hu h3
 .simp only at h1 h2;subst h2;cases k with
  |room=>cases h1
  |you=>cases h1
  |plain=>show hh u hu h3
  |fixed=>show hh u hu h3
  |box=>show hh u hu h3
  |lamp=>show hh u hu h3
structure Base(T:List Th):Prop where
 len:T.length<=13
 r1:1<=(T.filter λt=>decide (t.k=.room)).length
 r5:(T.filter λt=>decide (t.k=.room)).length<=5
 y1:(T.filter λt=>decide (t.k=.you)).map Th.n=(["self"]:aH)
 p7:(T.filter λt=>t.k.pl).length<=7
 nd:∀m,(T.map Th.n++mkL.take m).Nodup
 nm:∀x∈T.map Th.n,Nm x
 st:∀t∈T,CO T t
 rk:∃r,KW T r
 wd:∀t∈T,CP t
def Wk{T0:List Th}(d:Drawn T0):Base T0:=by
 have p:T0.Perm T0:=px _;let#v[r,n,y,P,r1,r5,hn,e0,eP,hP]:=d.ex;let R:=(rmL.take r).map rmT;let me:Th:=⟨"self", ["self"],.you,Z y⟩;have lR:R.length=r:=by change ((rmL.take r).map rmT).length=r;rw[aq,cO];change min r 3=r;omega
 have lP:P.length=n:=by have:=bL eZ eP;rw[aq,aq,cN]at this;show this
 have rk:∀t∈R,t.k=.room:=λt h=>by let#v[x,_,rfl]:=ay.mp h;rfl
 have spl:∀p:Th->Bool,T0.filter p=R.filter p++((if p me=γ then [me]else [])++P.filter p):=λp=>by rw[e0,n8,fI];change R.filter p++(if p me=γ then me::P.filter p else P.filter p)=_;split<;>rfl
 have all_:∀(p:Kd->Bool) (L:List Th),(∀t∈L,p t.k=γ)->L.filter (λt=>p t.k)=L:=λp L h=>kq.mpr h;have non_:∀(p:Kd->Bool) (L:List Th),(∀t∈L,p t.k=δ)->L.filter (λt=>p t.k)=[]:=λp L h=>nh.mpr λt ht z=>by rw[h t ht]at z;ext z
 have plk:∀k:Kd,k.pl=γ->decide (k=.room)=δ/\decide (k=.you)=δ:=aaR (λz=>by ext z) (λz=>by ext z) (λ_=>⟨O,O⟩) (λ_=>⟨O,O⟩) (λ_=>⟨O,O⟩) (λ_=>⟨O,O⟩);have fr:T0.filter (λt=>decide (t.k=.room))=R:=by rw[spl,all_ (λk=>decide (k=.room)) R λt h=>by rw[rk t h];rfl,non_ (λk=>decide (k=.room)) P λt h=>(plk t.k (hP t h)).1];show bQ R
 have fy:T0.filter (λt=>decide (t.k=.you))=[me]:=by rw[spl,non_ (λk=>decide (k=.you)) R λt h=>by rw[rk t h];rfl,non_ (λk=>decide (k=.you)) P λt h=>(plk t.k (hP t h)).2];rfl
 have fp:T0.filter (λt=>t.k.pl)=P:=by rw[spl,non_ Kd.pl R λt h=>by rw[rk t h];rfl,all_ Kd.pl P hP];rfl
 have eN:T0.map Th.n=rmL.take r++("self" : Str)::(bu n).map λk=>(Jg k).1:=by
  rw[e0,bK,aN];have e1:((rmL.take r).map rmT).map Th.n=rmL.take r:=by rw[br];show fg _
  have e2:P.map Th.n=(bu n).map λk=>(Jg k).1:=by have:=bL (iE jB) eP;rw[br,br]at this;show this
  rw[e1,e2]
 have big:=bF (bc.mp aaS n (cu.mpr hn));have wP:∀t∈P,t.nw∈plL:=λt h=>by have h1:t.nw∈P.map Th.nw:=bT h;rw[eP]at h1;let#v[k,hk,e]:=ay.mp h1;rw[<-e];show(TY (by have:=cu.mp hk;omega)).1
 have w0:∀t∈T0,CP t:=λt h=>by
  rw[e0]at h;rcases ba.mp h with h|h
  .let#v[x,hx,rfl]:=ay.mp h;show⟨bO _ (ay.mpr ⟨x,kn hx,O⟩),λz=>by ext z⟩
  .rcases aQ.mp h with rfl|h
   .show⟨bE _ aR,λz=>by ext z⟩
   .show⟨bE _ (aU _ (wP t h)),λ_=>wP t h⟩
 have nd0:∀m,(T0.map Th.n++mkL.take m).Nodup:=λm=>by rw[eN];show big.sublist (((kE r rmL).append (sS _)).append (kE m mkL))
 constructor
 .rw[p.length_eq,e0,aM,aT,aq,cO,lP];change min r 3+(n+1)<=13;omega
 .rw[(p.filter _).length_eq,fr,lR];show r1
 .rw[(p.filter _).length_eq,fr,lR];omega
 .rw[fy];rfl
 .rw[(p.filter _).length_eq,fp,lP];omega
 .intro m;show((p.map _).append_right _).nodup_iff.mpr (nd0 m)
 .intro x hx;have hx:=(p.map Th.n).mem_iff.mp hx;rw[eN]at hx;rcases ba.mp hx with hx|hx
  .show bO _ (bO _ (kn hx))
  .calc bO _ (bE _ ?_);rcases aQ.mp hx with rfl|hx
   .show aR
   .let#v[k,hk,rfl]:=ay.mp hx;show aU _ (bT (TY (by have:=cu.mp hk;omega)).1)
 .intro t ht;show T4 p (d.ord.all t (p.mem_iff.mp ht))
 .let#v[rk,h]:=d.ord.rank (cq.mp (nd0 0)).1;calc⟨rk,λt ht=>?_⟩;let#v[h1,h2]:=h t (p.mem_iff.mp ht);calc⟨by rw[p.length_eq];show h1,λq hq=>?_⟩;let#v[h3,u,hu,e]:=h2 q hq;show⟨h3,u,p.mem_iff.mpr hu,e⟩
 .show λt ht=>w0 t (p.mem_iff.mp ht)
def mL(m s:Int):List Mk:=[⟨"tide", 0,m⟩,⟨"sun", s,1⟩]
def T5{T:List Th}{dk:aH}{W:List Wy}{xs:List Int}{m s:Int}(hx:Dr xs 40)(g:Good T (mL m s) dk W):∃R,Bs [TD T,.lst [.str "tide", .str "sun"],.lst (xs.map D.int)]=Z (.lst R)/\(∀r∈R,RuQ T (mL m s) v6 (w10 T (mL m s) dk W v6) r)/\R.length<=4:=by
 have hl:=g.len;let N:=nrN T;let P:=hdN T;let K:aH:=(["tide", "sun"]:aH)++(T.filter λt=>t.k.mk).map Th.n;have lP:P.length<=100:=by change (hdN T).length<=100;delta hdN;rw[aq];show bM (cK _ _) ()
 have ls:Ls T (mL m s) N P K:={
  n0:=λz=>by have:=J4 g;rw[show nrN T=[] from z]at this;ext this
  n:=λz hz=>by let#v[t,ht,e]:=ay.mp hz;rw[aZ]at ht;show⟨t,ht.1,e,λk=>by rw[k]at ht;show ar ht.2 #[]⟩
  p0:=λz=>by have:=TU g;rw[show hdN T=[] from z]at this;ext this
  pl:=lP
  p:=λz hz=>hz
  k0:=by simp[K]
  k:=λz hz=>by
   rcases ba.mp hz with hz|hz
   .have mo:=g.mo;erw[aQ,cw,or_false]at hz;rcases hz with rfl|rfl
    .show⟨("tide", m),bE _ (ay.mpr ⟨_,aR,O⟩),O,(mo _ (aR)).1⟩
    .show⟨("sun", 1),bE _ (ay.mpr ⟨⟨"sun", s,1⟩,aU _ aR,O⟩),O,iC _⟩
   .let#v[t,ht,e]:=ay.mp hz;show⟨(t.n,1),bO _ (ay.mpr ⟨t,ht,O⟩),e,iC _⟩ }
 let#v[n,en,ln]:=IH (x:=yv xs 4) (a:=5) #[];let A:Sl:=.im (TD T);let B:Sl:=.im (.lst [.str "tide", .str "sun"]);let X:Sl:=.im (.lst (xs.map D.int));let#v[R,t7,t8,t9,t10,t11,t12,h1,h2,h3]:=II g ls hx A B (bu n) [] .un .un .un .un .un .un (λk h=>by have:=cu.mp h;omega) (λr h=>by ext h) (by rw[cN];simp;omega);calc⟨R,?_,h1,h2⟩;let ρ:Sl->Sl->Sl->Sl->aJ:=λa b c d=>[A,B,X,a,b,c,d,.un,.un,.un,.un,.un,.un];let NN:Sl:=.im (.lst (N.map D.str));let PP:Sl:=.im (.lst (P.map D.str));let KK:Sl:=.im (.lst (K.map D.str));calc B3 (ρ:=[A,B,X,NN,PP,KK,.un,t7,t8,t9,t10,t11,t12]) O ?_;delta Br;have fl:∀(p:Kd->Bool) {ft:FT} {ρ:aJ},cV 0 ρ=Z (TD T,ρ)->D7 1 [] ρ=[.un]->(∀t:Th,ft [.im (thD t)]=Z (p t.k,[.im (thD t)]))->tR 1 [] (iL ab) (gN 0) ft (c1 (tI uc "name") ab) ρ=Z (((T.filter λt=>p t.k).map Th.n).map D.str,ρ):=λp ft ρ h0 hc hf=>by calc(yk thD (λt=>D.str t.n) (λt=>p t.k) T (CB h0) () λt _=>⟨[.im (thD t)],[.im (thD t)],by rw[hc];rfl,hf t,λ_=>⟨_,O,O⟩,λ_=>O⟩).trans ?_;rw[br];rfl
 calc(tu (ρ':=ρ NN .un .un .un) ((tQ (uT (fl (λk=>!decide (k=.room)) (ρ:=ρ .un .un .un .un) O O λt=>uz (tD (x:=.str t.k.s) O O (K5 t))))).trans O)).trans ?_;calc(tu (ρ':=ρ NN PP .un .un) ((tQ (uT (fl Kd.hd (ρ:=ρ NN .un .un .un) O O λt=>uz (tD (x:=.str t.k.s) (y:=.tup ((["room", "box", "you"]:aH).map D.str)) O O ((yA δ t.k.s _).trans (by cases t.k<;>rfl)))))).trans O)).trans ?_;refine(tu (ρ':=ρ NN PP KK .un) ((tQ (uT (w6 (xs:=[.str "tide", .str "sun"]) (ρ1:=ρ NN PP .un .un) O (uT (fl Kd.mk (ρ:=ρ NN PP .un .un) O O λt=>uz (tD (x:=.str t.k.s) (y:=.tup ((["box", "lamp"]:aH).map D.str)) O O ((yA δ t.k.s _).trans (by cases t.k<;>rfl))))) ?_))).trans ?_)).trans ?_
 .have:=cK (λt:Th=>t.k.mk) T;erw[aq,aT,fL];omega
 .rfl
 calc(tu (ρ':=ρ NN PP KK (.ls [])) O).trans ?_;calc(tu ((uO (ρ1:=ρ NN PP KK (.ls [])) (Fq () ((tD (tD (x:=.lst (xs.map D.int)) O O (Ld hx #[])) O (ux #[])).trans (by rw[en])))).trans h3)).trans O
def acD{T:List Th}(d:Drawn T):∃r,r<3/\rmN T=rmL.take (1+r):=by
 let#v[r,n,y,P,r1,r5,hn,e0,eP,hP]:=d.ex;calc⟨r - 1,by omega,?_⟩;rw[show 1+(r - 1)=r by omega];delta rmN;rw[e0,n8,fI];have h1:((rmL.take r).map rmT).filter (λt=>decide (t.k=.room))=(rmL.take r).map rmT:=kq.mpr λt h=>by let#v[x,_,rfl]:=ay.mp h;rfl
 have h2:P.filter (λt=>decide (t.k=.room))=[]:=nh.mpr λt h z=>by have:=hP t h;rw[bF z]at this;ext this
 rw[h1,h2];change (((rmL.take r).map rmT)++[]).map Th.n=_;rw[bQ,br];show fg _
def ends:∀{r:Nat},r<3->∃a∈rmL.take (1+r),∃b∈rmL.take (1+r),dIx (.lst ((rmL.take (1+r)).map D.str)) (.int 0)=Z (.str a)/\dIx (.lst ((rmL.take (1+r)).map D.str)) (.int (-1))=Z (.str b)
 |0,_=>⟨"hall", by decide,"hall", by decide,O,O⟩
 |1,_=>⟨"hall", by decide,"attic", by decide,O,O⟩
 |2,_=>⟨"hall", by decide,"cellar", by decide,O,O⟩
 |r+3,h=>by omega
def T6(c0:Int):∃T M dk W R c,Bu [.int c0]=Z (wO T M dk W v6 R c)/\Good T M dk W/\(∀r∈R,RuS T M v6 r)/\Try T M dk W v6 R c:=by
 let#v[xs,ed,hx]:=MB c0 40 #[];let#v[T,dr,eT]:=QA hx;have b:=Wk dr;let#v[r,hr,er]:=acD dr;have hl:=b.len;let Rm:=rmN T;let C:Sl:=.im (.int c0);let X:Sl:=.im (.lst (xs.map D.int));let A:Sl:=.im (TD T);let RS:Sl:=.im (.lst (Rm.map D.str));let#v[m3,em3,lm3]:=IH (x:=yv xs 5) (a:=3) #[];let#v[s0,es0,ls0]:=IH (x:=yv xs 5 / 3) (a:=2) #[];let m:Int:=1+(m3:Nat);let s:Int:=(s0:Nat);let M:=mL m s;let Mm:Sl:=.im (MD M);have xa:∀{ρ:aJ} {i:Nat},i<40->cV 1 ρ=Z (.lst (xs.map D.int),ρ)->c2 dIx ai (cC (.int i)) ρ=Z (.int (yv xs i),ρ):=λhi h=>tD h O (Ld hx hi);let p:Nat->Bool:=λk=>decide (iu (yv xs 6 / 2 ^ k) 1=1);let dk:aH:=((bu Rm.length).filter p).map λk=>Rm.getD k "";have sl:dk.Sublist Rm:=by have h:=(i6 (p:=p) (l:=bu Rm.length)).map λk=>Rm.getD k "";rw[IC]at h;show h
 let DK:Sl:=.im (.lst (dk.map D.str));let#v[a,ha,z,hz,ea,ez]:=ends hr;rw[<-er]at ha hz ea ez;have nT:(T.map Th.n).Nodup:=(cq.mp (b.nd 0)).1;have nR:Rm.Nodup:=nT.sublist (sV _ i6);let#v[o1,ho1,eo1]:=AW oS (L:=[J,Z "sun"]) (by simp) (yv xs 7 / 3);let#v[o2,ho2,eo2]:=AW oS (L:=[J,Z "tide"]) (by simp) (yv xs 7 / 18);let b1:Bool:=decide ((0:Int)<yv xs 7 % 3);let b2:Bool:=decide ((0:Int)<yv xs 7 / 6 % 3);let w1:Wy:=⟨a,"north", z,o1⟩;let w2:Wy:=⟨z,"south", a,o2⟩;let W1:List Wy:=if b1 then [w1]else []
 let W:List Wy:=W1++if b2 then [w2]else []
 have mN:∀x∈(["tide", "sun"]:aH),x∈mkN T M:=λx h=>bE _ h;have k1:Qq T M w1:=⟨ha,(show ("north" : Str)∈(["north", "south"]:aH) by decide),hz,λx h=>mN x (by
  rcases aQ.mp ho1 with e|e
  .rw[show w1.m=o1 from O,e]at h;ext h
  .rw[show w1.m=o1 from O,aY.mp e]at h;ext h;decide)⟩
 have k2:Qq T M w2:=⟨hz,(show ("south" : Str)∈(["north", "south"]:aH) by decide),ha,λx h=>mN x (by
  rcases aQ.mp ho2 with e|e
  .rw[show w2.m=o2 from O,e]at h;ext h
  .rw[show w2.m=o2 from O,aY.mp e]at h;ext h;decide)⟩
 have g:Good T M dk W:={
  len:=hl,r1:=b.r1,r5:=b.r5,y1:=b.y1,p7:=b.p7
  m4:=(show 2<=4 by decide)
  mo:=λq hq=>by
   rcases aQ.mp hq with rfl|hq
   .show⟨by change 1<=1+((m3:Nat):Int);omega,by change 1+((m3:Nat):Int)<=3;omega,iC _,by change 0<=1+((m3:Nat):Int);omega⟩
   .rw[aY.mp hq];show⟨iC _,(show (1:Int)<=3 by decide),by change 0<=((s0:Nat):Int);omega,by change ((s0:Nat):Int)<=1;omega⟩
  nm:=λx h=>by
   rcases ba.mp h with h|h
   .show b.nm x h
   .show bE _ h
  nd:=b.nd 2
  st:=b.st,rk:=b.rk,wd:=b.wd
  d0:=bM sl.length_le (by change (rmN T).length<=5;rw[er,cO];change min (1+r) 3<=5;omega)
  d1:=nR.sublist sl
  d2:=λx h=>sl.mem h
  w8:=by change (W1++if b2 then [w2]else []).length<=2;change ((if b1 then [w1]else [])++if b2 then [w2]else []).length<=2;ext b1<;>ext b2<;>simp
  wo:=λw h=>by
   replace h:w∈(if b1 then [w1]else [])++if b2 then [w2]else []:=h
   rcases ba.mp h with h|h
   .cases hb:b1<;>rw[hb]at h
    .ext h
    .rw[aY.mp h];show k1
   .cases hb:b2<;>rw[hb]at h
    .ext h
    .rw[aY.mp h];show k2
  wn:=by
   change (((if b1 then [w1]else [])++if b2 then [w2]else []).map λw=>[w.r,w.w]).Nodup;ext b1<;>ext b2<;>simp[w1,w2];show λ_=>by decide }
 let#v[R,eR,hR,lR]:=T5 hx g;let#v[ks,dss,ew,hg]:=Ti g (λr h=>(hR r h).1) ();calc⟨T,M,dk,W,R,.dic ks (dss.map .lst),?_,g,λr h=>(hR r h).2,λn=>aaN hg n⟩;let U:Sl:=.un;let ρ:Sl->Sl->Sl->Sl->aJ:=λc d e f=>[C,X,A,RS,c,d,e,f];let WW:Sl:=.im (WD W);let VV:Sl:=.im (VD v6);calc tE (ρ:=ρ Mm DK WW VV) O ?_;delta Bt;calc(tu (ρ':=[C,X,U,U,U,U,U,U]) ((tQ (uT (tf (ρ1:=[C,U,U,U,U,U,U,U]) (sZ O (sZ O O)) ed))).trans O)).trans ?_;calc(tu (ρ':=[C,X,A,U,U,U,U,U]) ((tQ (tf (ρ1:=[C,X,U,U,U,U,U,U]) (sZ O O) eT)).trans O)).trans ?_;calc(tu (ρ':=ρ U U U U) ((tQ (uT (Im (i:=2) (ρ:=[C,X,A,U,U,U,U,U]) T () O))).trans O)).trans ?_;calc(tu (ρ':=ρ Mm U U U) ((tQ (uT (RV (ds:=[mkD ⟨"tide", 0,m⟩,mkD ⟨"sun", s,1⟩]) (ρ1:=ρ U U U U) (sZ (vH (ds:=[.str "tide", .int 0,.int m]) (sZ O (sZ O (sZ (tD (x:=.int 1) O ((tD (xa (i:=5) #[] O) O (ux #[])).trans (by rw[em3])) O) O))) O) (sZ (vH (ds:=[.str "sun", .int s,.int 1]) (sZ O (sZ ((tD (tD (xa (i:=5) #[] O) O (div_pos #[] #[])) O (ux #[])).trans (by rw[es0])) (sZ O O))) O) O)) (show 2<=1000 by decide)))).trans O)).trans ?_;have e5:tR 1 [3,1] (iR1 (c1 vv aw)) (gN 0) (cT (c2 (dEq δ) (c2 dAndI (c2 dShrI (c2 dIx aj cg) ab) aI) aI)) (c2 dIx ai ab) (ρ Mm U U U)=Z (dk.map D.str,ρ Mm U U U):=by
  have lR:Rm.length<=5:=by change (rmN T).length<=5;rw[er,cO];change min (1+r) 3<=5;omega
  refine(yk (λk:Nat=>D.int (k:Nat)) (λk=>D.str (Rm.getD k "")) p (bu Rm.length) (ρ1:=ρ Mm U U U) (Fq () (uu (x:=.lst (Rm.map D.str)) O (Gm D.str Rm))) (by rw[cN];omega) λk hk=>⟨[.im (.int k),RS,X],[.im (.int k),RS,X],O,?_,λ_=>⟨[.im (.int k),RS,X],?_,O⟩,λ_=>O⟩).trans ?_
  .calc uz (tD (x:=.int (iu (yv xs 6 / 2 ^ k) 1)) (y:=.int 1) (tD (x:=.int (yv xs 6 / 2 ^ k)) (y:=.int 1) (tD (x:=.int (yv xs 6)) (y:=.int k) (tD (x:=.lst (xs.map D.int)) O O (Ld hx #[])) O ?_) O O) O (yp δ _ _));change (if decide ((0:Int)<=(k:Int))=γ then Z (D.int (yv xs 6 / 2 ^ (k:Int).toNat))else J)=_;rw[bh (),ao O,d5]
  .have h:=cu.mp hk;show tD (x:=.lst (Rm.map D.str)) O O (AY (by rw[bC,bg h,cF,bg h];rfl))
  .change _=Z ((((bu Rm.length).filter p).map λk=>Rm.getD k "").map D.str,_);rw[br];rfl
 calc(tu (ρ':=ρ Mm DK U U) ((tQ (uT e5)).trans O)).trans ?_;calc(tu (ρ':=ρ Mm DK (.ls []) U) O).trans ?_;have x7:∀(q:Sl),c2 dIx ai di (ρ Mm DK q U)=Z (.int (yv xs 7),ρ Mm DK q U):=λq=>xa (i:=7) #[] O;have dv:∀(q:Sl) {a m:Int},0<a->a<1073741824->0<m->c2 uf (c2 uV (c2 dIx ai di) (cC (.int a))) (cC (.int m)) (ρ Mm DK q U)=Z (.int (yv xs 7 / a % m),ρ Mm DK q U):=λq {a m} h1 h2 h3=>tD (tD (x7 q) O (div_pos h1 h2)) O (ux h3);refine(tu (ρ':=ρ Mm DK (.ls (W1.map wyO)) U) ?_).trans ?_
 .have ec:cT (c2 IW (c2 uf (c2 dIx ai di) bx) aA) (ρ Mm DK (.ls []) U)=Z (b1,ρ Mm DK (.ls []) U):=uz (tD (x:=.int (yv xs 7 % 3)) (tD (x7 _) O (ux #[])) O O);change _=Z (Out.nx (ρ Mm DK (.ls ((if b1 then [w1]else []).map wyO)) U));generalize b1=b1 at ec ⊢;ext b1
  .show(uo ec).trans O
  .show(ud ec).trans ((uX (BV (es0:=[]) (es:=[]) (d:=wyO w1) (ρ1:=ρ Mm DK (.ls []) U) O (M3 (ds:=[.str a,.str "north", .str z,oS o1]) (sZ (tD (x:=.lst (Rm.map D.str)) O O ea) (sZ O (sZ (tD (x:=.lst (Rm.map D.str)) (y:=.int (-1)) O O ez) (sZ (tD (x:=.lst (([J,Z "sun"]:List (Option Str)).map oS)) O (dv _ #[] #[] #[]) eo1) O)))) (show 4<=1000 by decide)) O #[])).trans O)
 refine(tu (ρ':=ρ Mm DK (.ls (W.map wyO)) U) ?_).trans ?_
 .have ec:cT (c2 IW (c2 uf (c2 uV (c2 dIx ai di) cg) bx) aA) (ρ Mm DK (.ls (W1.map wyO)) U)=Z (b2,ρ Mm DK (.ls (W1.map wyO)) U):=uz (tD (x:=.int (yv xs 7 / 6 % 3)) (dv _ #[] #[] #[]) O O);change _=Z (Out.nx (ρ Mm DK (.ls ((W1++if b2 then [w2]else []).map wyO)) U));have l1:(W1.map wyO).length<1000:=by rw[aq];change (if b1 then [w1]else []).length<1000;ext b1<;>simp
  generalize b2=b2 at ec ⊢;ext b2
  .calc(uo ec).trans ?_;change Z (Out.nx (ρ Mm DK (.ls (W1.map wyO)) U))=Z (Out.nx (ρ Mm DK (.ls ((W1++[]).map wyO)) U));rw[bQ]
  .calc(ud ec).trans ((uX (BV (es0:=W1.map wyO) (es:=W1.map wyO) (d:=wyO w2) (ρ1:=ρ Mm DK (.ls (W1.map wyO)) U) O (M3 (ds:=[.str z,.str "south", .str a,oS o2]) (sZ (tD (x:=.lst (Rm.map D.str)) (y:=.int (-1)) O O ez) (sZ O (sZ (tD (x:=.lst (Rm.map D.str)) O O ea) (sZ (tD (x:=.lst (([J,Z "tide"]:List (Option Str)).map oS)) O (dv _ #[] #[] #[]) eo2) O)))) (show 4<=1000 by decide)) O l1)).trans ?_);change Z (Out.nx (ρ Mm DK (.ls (W1.map wyO++[wyO w2])) U))=Z (Out.nx (ρ Mm DK (.ls ((W1++[w2]).map wyO)) U));rw[bK];rfl
 calc(tu (ρ':=ρ Mm DK (.ls (W.map wyO)) (.im (VD (v6.take 2)))) O).trans ?_;calc(tu (ρ':=ρ Mm DK (.ls (W.map wyO)) VV) O).trans ?_;show tL (vH (g:=λds=>xY (ds++[])) (ds:=[TD T,MD M,.lst (dk.map D.str),WD W,VD v6,.lst R]) (sZ O (sZ O (sZ O (sZ (ρ1:=ρ Mm DK WW VV) O (sZ O (sZ (tf (sZ O (sZ O (sZ O O))) eR) O)))))) ew)
def cm(T:List Th)(a:Str->Str):Nat->Str->Bool
 |0,x=>decide (x∉nrN T)
 |n+1,x=>if x∈nrN T then cm T a n (a x)else γ
section
variable{T:List Th}{M:List Mk}{dk:aH}{W:List Wy}{V:List Vb}{R:List L4.D}{c:L4.D}{P:List Ky}{a:Str->Str}{m:Str->Int}
theorem W6:∀{n:Nat} {x:Str},cm T a n x=γ->∃l,Ch T a x l
 |0,x,h=>⟨[],.nil (bF h)⟩
 |n+1,x,h=>by
  delta cm at h;by_cases hx:x∈nrN T
  .rw[ao hx]at h;let#v[l,c]:=W6 h;show⟨_,.cons hx c⟩
  .show⟨[],.nil hx⟩
def acE{x:Str}{l:aH}(h:Ch T a x l):∀{n:Nat},l.length<=n->cm T a n x=γ:=by
 induction h with
 |nil h=>intro n _;ext n<;>simp[cm,h]
 |cons h c ih=>
  intro n hn;cases n with
  |zero=>cases hn
  |succ n=>delta cm;rw[ao h];show ih (by exists hn)
def O9:FS:=(tw (sIf (cT (c2 xN aj aE)) (tG cI) tN)
 (tV 2 (tq vI cE)))
def Pa(p:P.Perm (PT T M))(x:Str):vI [sD P (va a m),.str x]=Z (aD T a x):=J5 p x
theorem Kc(p:P.Perm (PT T M))(nm:Sl):∀(rs:List L4.D) (x:Str) (s:Sl),(∃ρ,forL (gN 3) O9 rs [.im (sD P (va a m)),nm,.im (aD T a x),s]=Z (.rt (.bl γ) ρ)/\cm T a rs.length x=γ)\/
  ∃y s',forL (gN 3) O9 rs [.im (sD P (va a m)),nm,.im (aD T a x),s]=Z (.nx [.im (sD P (va a m)),nm,.im (aD T a y),s'])/\cm T a rs.length x=decide (y∉nrN T)
 |[],x,s=>.inr ⟨x,s,O,O⟩
 |r::rs,x,s=>by
  delta forL;rw[show gN 3 r [.im (sD P (va a m)),nm,.im (aD T a x),s]=Z [.im (sD P (va a m)),nm,.im (aD T a x),.im r] from O];by_cases hx:x∈nrN T
  .have e:aD T a x=.str (a x):=ao hx;have ev:O9 [.im (sD P (va a m)),nm,.im (aD T a x),.im r]=Z (.nx [.im (sD P (va a m)),nm,.im (aD T a (a x)),.im r]):=by rw[e];delta O9;show(tu (ρ':=[.im (sD P (va a m)),nm,.im (.str (a x)),.im r]) O).trans ((tQ (tf (sZ O (sZ O O)) (Pa p (a x)))).trans O)
   erw[ev];rw[aT,show cm T a (rs.length+1) x=cm T a rs.length (a x) by rw[cm,ao hx]];show Kc p nm rs (a x) (.im r)
  .have e:aD T a x=.non:=ak hx;rw[e];show .inl ⟨_,O,by rw[aT,cm,ak hx]⟩
def aaT:(P.map λk=>D.tup [kD k,va a m k]).length=P.length:=aq _
def Wl(p:P.Perm (PT T M))(hP:P.length<=900)(x:Str):vB [sD P (va a m),.str x]=Z (.bl (cm T a P.length x)):=by
 let S:=sD P (va a m);let ρ:aJ:=[.im S,.im (.str x),.im (aD T a x),.un];have er:iR1 (c1 vv ab) ρ=Z ((bu P.length).map λk:Nat=>D.int (k:Nat),ρ):=Fq hP (uu (x:=S) O (by change Z (D.int _)=_;rw[aaT]));have e1:tV 2 (tq vI b0) [.im S,.im (.str x),.un,.un]=Z (.nx ρ):=(tQ (tf (sZ O (sZ O O)) (Pa p x))).trans O;have hl:((bu P.length).map λk:Nat=>D.int (k:Nat)).length=P.length:=by rw[aq,cN]
 rcases Kc (a:=a) (m:=m) p (.im (.str x)) ((bu P.length).map λk:Nat=>D.int (k:Nat)) x .un with ⟨ρ',h1,h2⟩|⟨y,s',h1,h2⟩
 .rw[hl]at h2;rw[h2];show tE O ((tu e1).trans (tZ ((uO er).trans h1)))
 .rw[hl]at h2;rw[h2];calc tE (ρ:=[.im S,.im (.str x),.im (aD T a y),s']) O ((tu e1).trans ((tu ((uO er).trans h1)).trans (tL ?_)));by_cases hy:y∈nrN T
  .rw[show aD T a y=.str (a y) from ao hy,bj (λz=>z hy)];rfl
  .rw[show aD T a y=.non from ak hy,bh hy];rfl
def T7(a b:L4.D):AR [.tup [a,b]]=Z (.bl γ):=rfl
def Pb(a:Str):vF [.str a,.str a]=Z (.bl γ):=by calc tE (ρ:=[.im (.str a),.im (.str a)]) O (tL ((tY (ρ1:=[.im (.str a),.im (.str a)]) O).trans (tD (x:=.str a) (y:=.str a) O O ?_)));rw[vG];simp
def Wm(k:Ky):AS [kD k,kD k]=Z (.bl γ):=by let ρ:aJ:=[.im (kD k),.im (kD k)];show tE (ρ:=ρ) O (tL ((tY (ρ1:=ρ) (tf (sZ O O) (T7 _ _))).trans ((tY (ρ1:=ρ) (tf (ds:=[.str k.1,.str k.1]) O (Pb _))).trans (tf (ds:=[.str k.2,.str k.2]) O (Pb _)))))
def NU:F5 [wO T M dk W V R c]=Z (.str "self"):=rfl
def QB(g:Good T M dk W){t:Th}(ht:t∈T)(hh:t.k.hd=γ)(x:Str):Cu [wO T M dk W V R c,.str x,.str t.n]=Z (.bl (if x="self" then decide (t.k=.room)else γ)):=by
 let w:=wO T M dk W V R c;let ρ:aJ:=[.im w,.im (.str x),.im (.str t.n),.im (thD t)];have e1:tV 3 (cIf (cT (c1 (uF (uY "str")) aj)) (tK tJ "thing_of" ab bP) aE) [.im w,.im (.str x),.im (.str t.n),.un]=Z (.nx ρ):=
  (tQ ((ET (ρ1:=[.im w,.im (.str x),.im (.str t.n),.un]) O).trans (tW (m:="thing_of") (ns:=wNs) (xs:=wA T M dk W V R c) (ys:=[.str t.n]) O O O O (x6 g.ndT ht)))).trans O
 have e2:cT (c2 (dEq δ) ai (tK xB "you" ab uk)) ρ=Z (decide (x="self"),ρ):=uz (tD (x:=.str x) (y:=.str "self") O (tW (m:="you") (ns:=wNs) (xs:=wA T M dk W V R c) (ys:=[]) O O O O NU) (vG δ x "self"));calc tE (ρ:=ρ) O ((tu e1).trans ((wY (b:=δ) O O).trans ?_));by_cases hx:x="self"
 .rw[ao hx];show xA e2 (bh hx) (tD (x:=.str t.k.s) (y:=.str "room") O O (Dl t.k .room))
 .rw[ak hx];show(wY e2 (bj hx)).trans (tL (tW (xs:=[.str t.n,.tup (t.w.map D.str),.str t.k.s,oS t.s]) (ys:=[]) O O O O ((GP t).trans (by rw[hh]))))
def vb(T:List Th)(a:Str->Str)(k:Ky):Bool:=if k=(("at", "self"):Ky)then decide (a "self" ∈ rmN T)else γ
def Pc(g:Good T M dk W){q:Str×Int}(h:q∈mP T M):u6 [wO T M dk W V R c,.str q.1]=Z (.int q.2):=by
 have e:u6 [wO T M dk W V R c,.str q.1]=Z ((vp ((mP T M).map λq=>kS q.1) ((mP T M).map λq=>.int q.2) (kS q.1)).getD .non):=by kernel_rfl
 rw[e,xQ (d:=.int q.2) (J1 g) (by rw[eV];show bT (f:=λq:Str×Int=>(kS q.1,D.int q.2)) h)];rfl
def T8(g:Good T M dk W)(p:P.Perm (PT T M))(hd:∀x∈nrN T,a x∈hdN T)(hm:Mr T M m){k:Ky}(hk:k∈P):yi [wO T M dk W V R c,kD k,va a m k]=Z (.bl (vb T a k)):=by
 let w:=wO T M dk W V R c;let#v[s,x]:=k;rcases Mw p _ hk with h|h
 .have h:s="at" := h;subst h;have hx:=(ID p x).mp hk;let#v[t,ht,e,hh]:=Tv (hd x hx);let ρ:aJ:=[.im w,.im (kD ("at", x)),.im (.str (a x))];have e1:cT (c2 (dEq δ) (c2 dIx ai aA) dE) ρ=Z (decide (("at" : Str)="mark"),ρ):=qzS "at" "mark" O;calc tE (ρ:=ρ) O ((wY e1 #[]).trans (tL (tf (ds:=[w,.str x,.str (a x)]) O ?_)));rw[<-e,QB g ht hh];congr 2;delta vb;by_cases hs:x="self"
  .rw[ao hs,hs,ao O];rw[hs]at e;rw[<-e];congr 1;rw[show rmN T=(T.filter λt=>decide (t.k=.room)).map Th.n from O,Fp g.ndT (λt=>decide (t.k=.room)) ht];simp
  .rw[ak hs,ak (λz:(("at", x):Ky)=(("at", "self"):Ky)=>hs (bL bS z))]
 .have h:s="mark" := h;subst h;have hx:=(O0 p x).mp hk;rw[<-Iw]at hx;let#v[q,hq,rfl]:=ay.mp hx;let#v[m0,m1]:=hm q hq;let ρ:aJ:=[.im w,.im (kD ("mark", q.1)),.im (.int (m q.1))];have e1:cT (c2 (dEq δ) (c2 dIx ai aA) dE) ρ=Z (decide (("mark" : Str)="mark"),ρ):=qzS "mark" "mark" O;have e2:tq xt bP ρ=Z (.bl γ,ρ):=tf (ds:=[.int (m q.1)]) O O;calc tE (ρ:=ρ) O (xA e1 #[] ((tY e2).trans ?_));show EO (x:=0) (y:=m q.1) (z:=q.2) O O (tW (m:="most_of") (ns:=wNs) (xs:=wA T M dk W V R c) (ys:=[.str q.1]) O O O O (Pc g hq)) m0 m1
def aaU{a:FA}{ρ ρ1:aJ}{ds es:List L4.D}(h:a ρ=Z ([.tup ds,.lst es],ρ1))(hl:ds.length<=es.length):iZT a ρ=Z (Nf ds es,ρ1):=by delta iZT;rw[h];erw[hl,if_true]
theorem W7(v:Ky->L4.D):∀P:List Ky,Nf (P.map λk=>D.tup [kD k,v k]) (P.map kD)=P.map λk=>D.tup [.tup [kD k,v k],kD k]
 |[]=>rfl
 |k::P=>by have:=W7 v P;delta Nf at this ⊢;rw[aN,aN,f9,this];rfl
def T9:FS:=(sIf (vS (uE (cT (tq AR b7))) (vS (uE (cT (tq AS mF))) (uE (cT (tq yi mw))))) (tG bz) tN)
theorem IJ{w S pt:L4.D}{v:Ky->L4.D}{b:Ky->Bool}:∀(l:List Ky) (s3 s4:Sl),(∀k∈l,yi [w,kD k,v k]=Z (.bl (b k)))->∃s3' s4',forL (gT mh 2) T9 (l.map λk=>D.tup [.tup [kD k,v k],kD k]) [.im w,.im S,.im pt,s3,s4]=Z (if l.all b then .nx [.im w,.im S,.im pt,s3',s4']else .rt (.bl δ) [.im w,.im S,.im pt,s3',s4'])
 |[],s3,s4,_=>⟨s3,s4,O⟩
 |k::l,s3,s4,h=>by
  let ρ:aJ:=[.im w,.im S,.im pt,.im (.tup [kD k,v k]),.im (kD k)];have e1:uE (cT (tq AR b7)) ρ=Z (δ,ρ):=vN (b:=γ) (uz (tf (ds:=[.tup [kD k,v k]]) O (T7 _ _)));have e2:uE (cT (tq AS mF)) ρ=Z (δ,ρ):=vN (b:=γ) (uz (tf (ds:=[kD k,kD k]) O (Wm k)));have e3:uE (cT (tq yi mw)) ρ=Z (!b k,ρ):=vN (uz (tf (ds:=[w,kD k,v k]) O (h k aR)));have e4:=wF e1 (wF e2 e3);let#v[s3',s4',g]:=IJ l (.im (.tup [kD k,v k])) (.im (kD k)) λz hz=>h z (aU _ hz);rw[aN,fO];delta forL;rw[show gT mh 2 (D.tup [.tup [kD k,v k],kD k]) [.im w,.im S,.im pt,s3,s4]=Z ρ from O];cases hb:b k with
  |true=>rw[hb]at e4;have ev:T9 ρ=Z (.nx ρ):=(uo e4).trans O;erw[ev];show⟨s3',s4',g⟩
  |false=>rw[hb]at e4;have ev:T9 ρ=Z (.rt (.bl δ) ρ):=(ud e4).trans O;erw[ev];show⟨_,_,O⟩
def DT(g:Good T M dk W)(p:P.Perm (PT T M))(hp:vE [wO T M dk W V R c]=Z (.lst (P.map kD)))(hd:∀x∈nrN T,a x∈hdN T)(hm:Mr T M m):yj [wO T M dk W V R c,sD P (va a m)]=Z (.bl (P.all (vb T a)&&T.all λt=>cm T a P.length t.n)):=by
 let w:=wO T M dk W V R c;let S:=sD P (va a m);let pt:L4.D:=.lst (P.map kD);have hl:=g.len;have hP:P.length<=900:=by rw[p.length_eq];have:=(K7 g).2;omega
 let ρ:Sl->Sl->aJ:=λa b=>[.im w,.im S,.im pt,a,b];let#v[s3,s4,gg]:=IJ (w:=w) (S:=S) (pt:=pt) (v:=va a m) (b:=vb T a) P .un .un λk hk=>T8 g p hd hm hk;have e1:tV 2 (tK uW "parts" ab uk) [.im w,.im S,.un,.un,.un]=Z (.nx (ρ .un .un)):=(tQ (tW (m:="parts") (ns:=wNs) (xs:=wA T M dk W V R c) (ys:=[]) O O O O hp)).trans O;have e2:vS (uE (cT (c1 (uF (uY "tuple")) ai))) (cT (c2 (dEq γ) (c1 vv ai) (c1 vv aj))) (ρ .un .un)=Z (δ,ρ .un .un):=by calc wF (ρ1:=ρ .un .un) O (uz (tD (x:=.int (P.map λk=>D.tup [kD k,va a m k]).length) (y:=.int (P.map kD).length) O O ?_));rw[aq,aq,yp];simp
 have e3:iZT cj (ρ .un .un)=Z (P.map λk=>D.tup [.tup [kD k,va a m k],kD k],ρ .un .un):=by rw[<-W7];show aaU O (by rw[aq,aq];show aS _)
 have e4:tR 1 [1] (iL (tK u7 "names" ab uk)) (gN 0) uQ (tq vB dF) (ρ s3 s4)=Z (T.map λt=>D.bl (cm T a P.length t.n),ρ s3 s4):=
  xg (λt:Th=>D.str t.n) (λt=>D.bl (cm T a P.length t.n)) T (ρ1:=ρ s3 s4) (CB (tW (m:="names") (ns:=wNs) (xs:=wA T M dk W V R c) (ys:=[]) O O O O (EV T hl))) () λt ht=>⟨[.im (.str t.n),.im S],[.im (.str t.n),.im S],O,tf (sZ O (sZ O O)) (Wl p hP t.n),O⟩
 cases hv:P.all (vb T a)with
 |true=>rw[hv,ao O]at gg;show tE (ρ:=ρ s3 s4) O ((tu e1).trans ((tu ((uo e2).trans O)).trans ((tu ((uO e3).trans gg)).trans (tL (uu (uT e4) (OB T λt=>cm T a P.length t.n))))))
 |false=>rw[hv,ak #[]]at gg;show tE (ρ:=ρ s3 s4) O ((tu e1).trans ((tu ((uo e2).trans O)).trans (tZ ((uO e3).trans gg))))
def aaV(g:Good T M dk W)(p:P.Perm (PT T M))(hd:∀x∈nrN T,a x∈hdN T)(h:(P.all (vb T a)&&T.all λt=>cm T a P.length t.n)=γ):Inv T a:=by
 rw[aW]at h;refine⟨?_,hd,λx=>?_⟩
 .have:=bc.mp h.1 (("at", "self"):Ky) ((ID p "self").mpr (J4 g));delta vb at this;rw[ao O]at this;show bF this
 .by_cases hx:x∈nrN T
  .let#v[t,ht,rfl]:=ay.mp hx;show W6 (bc.mp h.2 t (aZ.mp ht).1)
  .show⟨[],.nil hx⟩
def Wn{x:Str}{l:aH}(h:Ch T a x l):∀y∈(x::l).dropLast,y∈nrN T:=by
 induction h with
 |nil _=>intro y hy;cases hy
 |cons h c ih=>
  intro y hy;rw[List.dropLast_cons_of_ne_nil (by simp)]at hy;rcases aQ.mp hy with e|hy
  .rw[e];show h
  .show ih y hy
def W8{x:Str}{l:aH}(h:Ch T a x l):l.length<=(nrN T).length:=by have nd:(x::l).Nodup:=dg.mpr ⟨O2 h,WZ h⟩;have:=NM (nd.sublist (List.dropLast_sublist _)) (Wn h);rw[List.length_dropLast,aT]at this;omega
def Ua(p:P.Perm (PT T M))(i:Inv T a):(P.all (vb T a)&&T.all λt=>cm T a P.length t.n)=γ:=by
 rw[aW];refine⟨bc.mpr λk _=>?_,bc.mpr λt ht=>?_⟩
 .change (if k=(("at", "self"):Ky)then decide (a "self" ∈ rmN T)else γ)=γ;rw[bh i.me];split<;>rfl
 .let#v[l,hl]:=i.ch t.n;calc acE hl (bM (W8 hl) ?_);rw[p.length_eq];delta PT;rw[aM,aq];omega
end
section
variable{T:List Th}{M:List Mk}{dk:aH}{W:List Wy}{V:List Vb}{R:List L4.D}{c:L4.D}{P:List Ky}{a:Str->Str}{m:Str->Int}
def mr0(g:Good T M dk W)(h:∀x,(vp (M.map λm=>kS m.n) (M.map λm=>D.int m.st) (kS x)).getD (.int 0)=.int (m x)):Mr T M m:=λq hq=>by
 have ndm:(M.map λm=>kS m.n).Nodup:=by have:=AD (cq.mp g.nd).2.1;rw[br]at this;show this
 have e:=h q.1;rcases ba.mp hq with hq|hq
 .let#v[t,ht,rfl]:=ay.mp hq;rw[JC λz=>by
   let#v[u,hu,e]:=ay.mp z;show(cq.mp g.nd).2.2 _ (bT (aZ.mp ht).1) _ (bT hu) (ND e).symm]at e
  injection e with e;rw[<-e];show⟨iC _,(by decide:(0:Int)<=1)⟩
 .let#v[u,hu,rfl]:=ay.mp hq;rw[xQ ndm (d:=.int u.st) (by rw[eV];show ay.mpr ⟨u,hu,O⟩)]at e;injection e with e;rw[<-e];have:=g.mo u hu;show⟨this.2.2.1,this.2.2.2⟩
def hB:FS:=(sIf (cT (c2 (dEq γ) (c1 (tI ua "kind") (tK tJ "thing_of" ab b7)) bX)) (tw (tV 3 (tq vI mG))
 (sIf (cT (c2 (dIn γ) (c1 (tI ua "kind") (tK tJ "thing_of" ab b7)) (uv jQ))) (tG bz) tN)) tN)
def GU(g:Good T M dk W){t:Th}(ht:t∈T){e:FE}{ρ:aJ}(h0:cV 0 ρ=Z (wO T M dk W V R c,ρ))(he:e ρ=Z (.str t.n,ρ)):c1 (tI ua "kind") (tK tJ "thing_of" ab (a1 e)) ρ=Z (.str t.k.s,ρ):=
 uu (tW (m:="thing_of") (ns:=wNs) (xs:=wA T M dk W V R c) (ys:=[.str t.n]) h0 O O (sZ he O) (x6 g.ndT ht)) (yV t)
def NV(g:Good T M dk W){t:Th}(ht:t∈T):t.n∈nrN T ↔ ¬t.k=.room:=by rw[show nrN T=(T.filter λt=>!decide (t.k=.room)).map Th.n from O,Fp g.ndT (λt=>!decide (t.k=.room)) ht];simp
theorem Le(s:Sit T M dk W P a)(nm:Sl):∀(rs:List L4.D) (t:Th) (l:aH) (s4:Sl),t∈T->Ch T a t.n l->l.length<=rs.length->∃u s4',u∈T/\u.k=.room/\forL (gN 4) hB rs [.im (wO T M dk W V R c),.im (sD P (va a m)),nm,.im (.str t.n),s4]=Z (.nx [.im (wO T M dk W V R c),.im (sD P (va a m)),nm,.im (.str u.n),s4'])
 |[],t,l,s4,ht,h,hl=>by
  cases h with
  |nil h=>show⟨t,s4,ht,mV λz=>h ((NV s.g ht).mpr z),O⟩
  |cons h c=>cases hl
 |r::rs,t,l,s4,ht,h,hl=>by
  let w:=wO T M dk W V R c;let S:=sD P (va a m);let ρ:Str->aJ:=λx=>[.im w,.im S,nm,.im (.str x),.im r];have e1:cT (c2 (dEq γ) (c1 (tI ua "kind") (tK tJ "thing_of" ab b7)) bX) (ρ t.n)=Z (!decide (t.k=.room),ρ t.n):=uz (tD (GU s.g ht O O) O (K5 t));delta forL;rw[show gN 4 r [.im w,.im S,nm,.im (.str t.n),s4]=Z (ρ t.n) from O];cases h with
  |nil h=>have k:t.k=.room:=mV λz=>h ((NV s.g ht).mpr z);rw[bh k]at e1;have ev:hB (ρ t.n)=Z (.nx (ρ t.n)):=(uo e1).trans O;erw[ev];show Le s nm rs t [] (.im r) ht (.nil h) (cc _)
  |@cons _ l h ch=>have k:¬t.k=.room:=(NV s.g ht).mp h;rw[bj k]at e1;let#v[u,hu,e,hk]:=Tv (s.i.hd t.n h);have e2:cT (c2 (dIn γ) (c1 (tI ua "kind") (tK tJ "thing_of" ab b7)) (uv jQ)) (ρ u.n)=Z (δ,ρ u.n):=uz (tD (y:=.tup ((["room", "box", "you"]:aH).map D.str)) (GU s.g hu O O) O ((yA γ u.k.s _).trans (by cases e:u.k<;>rw[e]at hk<;>first|rfl|ext hk)));have ev:hB (ρ t.n)=Z (.nx (ρ u.n)):=(ud e1).trans ((tu (ρ':=ρ u.n) ((tQ (tf (sZ O (sZ O O)) ((Pa s.p t.n).trans (by rw[show aD T a t.n=.str (a t.n) from ao h,<- e])))).trans O)).trans ((uo e2).trans O));erw[ev];rw[<-e]at ch;show Le s nm rs u l (.im r) hu ch (by exists hl)
def nB:FS:=(tw (tV 3 aj)
 (tw (wC (iR1 (c1 vv (tK u7 "names" ab uk))) (gN 4) hB)
 (sIf (cT (c2 (dEq γ) (c1 (tI ua "kind") (tK tJ "thing_of" ab b7)) bX)) (tG bz) tN)))
theorem IK(s:Sit T M dk W P a):∀(l:List Th) (s2 s3 s4:Sl),(∀t∈l,t∈T)->∃t2 t3 t4,forL (gN 2) nB (l.map λt=>D.str t.n) [.im (wO T M dk W V R c),.im (sD P (va a m)),s2,s3,s4]=Z (.nx [.im (wO T M dk W V R c),.im (sD P (va a m)),t2,t3,t4])
 |[],s2,s3,s4,_=>⟨s2,s3,s4,O⟩
 |t::l,s2,s3,s4,h=>by have ht:=h t aR;have hl:=s.g.len;let w:=wO T M dk W V R c;let S:=sD P (va a m);let ρ:Sl->Sl->aJ:=λx y=>[.im w,.im S,.im (.str t.n),x,y];let#v[ch,hc]:=s.i.ch t.n;have lc:ch.length<=T.length:=bM (W8 hc) (NJ T);let#v[u,t4,hu,hk,e]:=Le (V:=V) (R:=R) (c:=c) (m:=m) s (.im (.str t.n)) ((bu T.length).map λk:Nat=>D.int (k:Nat)) t ch s4 ht hc (by rw[aq,cN];show lc);have er:iR1 (c1 vv (tK u7 "names" ab uk)) (ρ (.im (.str t.n)) s4)=Z ((bu T.length).map λk:Nat=>D.int (k:Nat),ρ (.im (.str t.n)) s4):=Fq () (uu (tW (m:="names") (ns:=wNs) (xs:=wA T M dk W V R c) (ys:=[]) O O O O (EV T hl)) (Gm (λt:Th=>D.str t.n) T));have e2:cT (c2 (dEq γ) (c1 (tI ua "kind") (tK tJ "thing_of" ab b7)) bX) (ρ (.im (.str u.n)) t4)=Z (δ,ρ (.im (.str u.n)) t4):=uz (tD (GU s.g hu O O) O ((K5 u).trans (by rw[bh hk];rfl)));have ev:nB (ρ s3 s4)=Z (.nx (ρ (.im (.str u.n)) t4)):=(tu (ρ':=ρ (.im (.str t.n)) s4) O).trans ((tu ((uO er).trans e)).trans ((uo e2).trans O));let#v[r2,r3,r4,g]:=IK s l (.im (.str t.n)) (.im (.str u.n)) t4 λz hz=>h z (aU _ hz);calc⟨r2,r3,r4,?_⟩;rw[aN];delta forL;rw[show gN 2 (.str t.n) [.im w,.im S,s2,s3,s4]=Z (ρ s3 s4) from O];erw[ev];show g
def Wo(s:Sit T M dk W P a):x4 [wO T M dk W V R c,sD P (va a m)]=Z (.bl γ):=by have hl:=s.g.len;let w:=wO T M dk W V R c;let S:=sD P (va a m);let#v[t2,t3,t4,e]:=IK (V:=V) (R:=R) (c:=c) (m:=m) s T .un .un .un λ_ h=>h;let#v[r,hr,er]:=ay.mp s.i.me;rw[aZ]at hr;let ρ:aJ:=[.im w,.im S,t2,t3,t4];calc tE (ρ:=ρ) O ((tu ((uO (CB (tW (m:="names") (ns:=wNs) (xs:=wA T M dk W V R c) (ys:=[]) (ρ1:=[.im w,.im S,.un,.un,.un]) O O O O (EV T hl)))).trans e)).trans (tL (tD (GU s.g hr.1 O (tf (ds:=[S,.str "self"]) (sZ O (sZ (tW (m:="you") (ns:=wNs) (xs:=wA T M dk W V R c) (ys:=[]) O O O O NU) O)) ((Pa s.p "self").trans (by rw[show aD T a "self" = .str (a "self") from ao (J4 s.g),er])))) O ((Dl r.k .room).trans (by rw[hr.2])))))
end
section
variable{T:List Th}{M:List Mk}{dk:aH}{W:List Wy}{V:List Vb}{R:List L4.D}{c:L4.D}{P:List Ky}{a:Str->Str}{m:Str->Int}
def plc(T:List Th):aH:=(rmN T++(["self"]:aH))++(T.filter λt=>decide (t.k=.box)).map Th.n
def aaW(g:Good T M dk W):∀z∈plc T,z∈hdN T:=λz hz=>by
 rcases ba.mp hz with hz|hz
 .rcases ba.mp hz with hz|hz
  .show NP hz
  .rw[aY.mp hz];show TU g
 .let#v[t,ht,e]:=ay.mp hz;rw[aZ]at ht;show ay.mpr ⟨t,aZ.mpr ⟨ht.1,by rw[bF ht.2];rfl⟩,e⟩
def Ub:plc T≠[]:=by delta plc;simp
def sB:FS:=(tw (tV 6 (c2 dIx (tK uW "parts" ab uk) (c2 uf (c2 dIx aw (c2 vM bp bf)) (c1 vv (tK uW "parts" ab uk)))))
 (tw (tV 7 (c2 dIx az (c2 uf (c2 dIx aw (c2 vm (c2 vM bp bf) aI)) (c1 vv az))))
 (tw (sIf (cT (c2 (dEq δ) (c2 dIx bb aA) dE)) (tV 7 (c2 uf (c2 dIx aw (c2 vm (c2 vM bp bf) aI)) (c2 vm (tK uM "most_of" ab mE) aI))) tN)
 (tw (tV 8 (tq v7 jY))
 (sIf (cT (tq yj (aCons ab iR))) (tV 2 cD) tN)))))
def NW(s:Sit T M dk W P a)(mr:Mr T M m)(hp:vE [wO T M dk W V R c]=Z (.lst (P.map kD))){xs:List Int}(hx:Dr xs 12){k:Nat}(hk:k<6)(C s6 s7 s8:Sl):
  ∃a' m' t6 t7 t8,Inv T a'/\Mr T M m'/\sB [.im (wO T M dk W V R c),C,.im (sD P (va a m)),.im (.lst (xs.map D.int)),.im (.lst ((plc T).map D.str)),.im (.int (k:Nat)),s6,s7,s8]=Z (.nx [.im (wO T M dk W V R c),C,.im (sD P (va a' m')),.im (.lst (xs.map D.int)),.im (.lst ((plc T).map D.str)),.im (.int (k:Nat)),t6,t7,t8]):=by
 let w:=wO T M dk W V R c;let ρ:L4.D->Sl->Sl->Sl->aJ:=λS x y z=>[.im w,C,.im S,.im (.lst (xs.map D.int)),.im (.lst ((plc T).map D.str)),.im (.int (k:Nat)),x,y,z];let S:=sD P (va a m);have hP:P.length<=900:=s.len;have nP:P≠[]:=λz=>by have:=(ID s.p "self").mpr (J4 s.g);rw[z]at this;ext this
 have lP:0<P.length:=gj.mpr nP;have lL:0<(plc T).length:=gj.mpr Ub;let#v[q,hq,eq]:=AW kD nP (yv xs (2 * k));let#v[z,hz,ez]:=AW D.str (Ub (T:=T)) (yv xs (2 * k+1));have pa:∀{ρ:aJ},cV 0 ρ=Z (w,ρ)->tK uW "parts" ab uk ρ=Z (.lst (P.map kD),ρ):=λh=>tW (m:="parts") (ns:=wNs) (xs:=wA T M dk W V R c) (ys:=[]) h O O O hp;have m2:∀{x y z:Sl},c2 vM bp bf (ρ S x y z)=Z (.int ((2 * k:Nat):Int),ρ S x y z):=tD (x:=.int 2) (y:=.int k) O O ((zc (.inl #[])).trans (by rw[show (2:Int) * (k:Int)=((2 * k:Nat):Int) by omega]));have x1:∀{x y z:Sl},c2 dIx aw (c2 vM bp bf) (ρ S x y z)=Z (.int (yv xs (2 * k)),ρ S x y z):=tD (x:=.lst (xs.map D.int)) O m2 (Ld hx ());have x2:∀{x y z:Sl},c2 dIx aw (c2 vm (c2 vM bp bf) aI) (ρ S x y z)=Z (.int (yv xs (2 * k+1)),ρ S x y z):=tD (x:=.lst (xs.map D.int)) O (tD (x:=.int ((2 * k:Nat):Int)) (y:=.int 1) (z:=.int ((2 * k+1:Nat):Int)) m2 O (by change Z (D.int (((2 * k:Nat):Int)+1))=_;rw[show ((2 * k:Nat):Int)+1=((2 * k+1:Nat):Int) by omega])) (Ld hx ());let Q:Sl:=.im (kD q);have e1:∀f:FS,tw (tV 6 (c2 dIx (tK uW "parts" ab uk) (c2 uf (c2 dIx aw (c2 vM bp bf)) (c1 vv (tK uW "parts" ab uk))))) (tw (tV 7 (c2 dIx az (c2 uf (c2 dIx aw (c2 vm (c2 vM bp bf) aI)) (c1 vv az)))) f) (ρ S s6 s7 s8)=f (ρ S Q (.im (.str z)) s8):=λf=>(tu (ρ':=ρ S Q s7 s8) ((tQ (tD (pa O) (tD x1 (uu (pa O) (Gm kD P)) (ux ())) eq)).trans O)).trans (tu (ρ':=ρ S Q (.im (.str z)) s8) ((tQ (tD (x:=.lst ((plc T).map D.str)) O (tD x2 (uu (x:=.lst ((plc T).map D.str)) O (Gm D.str (plc T))) (ux ())) ez)).trans O))
 let#v[kd,x]:=q;rcases Mw s.p _ hq with h|h
 .have h:kd="at" := h;subst h;have hx':=(ID s.p x).mp hq;let a':=ups a x z;have hd':∀y∈nrN T,a' y∈hdN T:=λy hy=>by
   change (if y=x then z else a y)∈hdN T;split
   .show aaW s.g z hz
   .show s.i.hd y hy
  have ei:=DT (V:=V) (R:=R) (c:=c) (a:=a') (m:=m) s.g s.p hp hd' mr;have e2:cT (c2 (dEq δ) (c2 dIx bb aA) dE) (ρ S Q (.im (.str z)) s8)=Z (decide (("at" : Str)="mark"),ρ S Q (.im (.str z)) s8):=qzS "at" "mark" O;have e3:tV 8 (tq v7 jY) (ρ S Q (.im (.str z)) s8)=Z (.nx (ρ S Q (.im (.str z)) (.im (sD P (va a' m))))):=(tQ (tf (sZ O (sZ O (sZ O O))) ((GQ P hP (va a m) ("at", x) (.str z)).trans (by rw[WX])))).trans O;have e4:=uz (tf (a:=aCons ab iR) (ρ:=ρ S Q (.im (.str z)) (.im (sD P (va a' m)))) (sZ O (sZ O O)) ei);cases hb:(P.all (vb T a')&&T.all λt=>cm T a' P.length t.n)with
  |true=>rw[hb]at e4;show⟨a',m,Q,.im (.str z),.im (sD P (va a' m)),aaV s.g s.p hd' hb,mr,(e1 _).trans ((wY e2 #[]).trans ((tu e3).trans ((ud e4).trans O)))⟩
  |false=>rw[hb]at e4;show⟨a,m,Q,.im (.str z),.im (sD P (va a' m)),s.i,mr,(e1 _).trans ((wY e2 #[]).trans ((tu e3).trans ((uo e4).trans O)))⟩
 .have h:kd="mark" := h;subst h;have hx':=(O0 s.p x).mp hq;rw[<-Iw]at hx';let#v[u,hu,rfl]:=ay.mp hx';let#v[u0,u1]:=mr u hu;let n:Int:=yv xs (2 * k+1) % (u.2+1);let#v[n0,n1]:=md (a:=yv xs (2 * k+1)) (b:=u.2+1) ();let m':=ups m u.1 n;have mr':Mr T M m':=λv hv=>by
   change 0<=(if v.1=u.1 then n else m v.1)/\(if v.1=u.1 then n else m v.1)<=v.2;by_cases e:v.1=u.1
   .rw[ao e];have:v.2=u.2:=by have l1:=xQ (d:=D.int v.2) (J1 s.g) (by rw[eV];show bT (f:=λq:Str×Int=>(kS q.1,D.int q.2)) hv);have l2:=xQ (d:=D.int u.2) (J1 s.g) (by rw[eV];show bT (f:=λq:Str×Int=>(kS q.1,D.int q.2)) hu);rw[e,l2]at l1;injection l1 with l1;injection l1 with l1;show l1.symm
    rw[this];show⟨n0,by change n<=u.2;omega⟩
   .rw[ak e];show mr v hv
  have ei:=DT (V:=V) (R:=R) (c:=c) (a:=a) (m:=m') s.g s.p hp s.i.hd mr';rw[Ua s.p s.i]at ei;have e2:cT (c2 (dEq δ) (c2 dIx bb aA) dE) (ρ S Q (.im (.str z)) s8)=Z (decide (("mark" : Str)="mark"),ρ S Q (.im (.str z)) s8):=qzS "mark" "mark" O;have e5:tV 7 (c2 uf (c2 dIx aw (c2 vm (c2 vM bp bf) aI)) (c2 vm (tK uM "most_of" ab mE) aI)) (ρ S Q (.im (.str z)) s8)=Z (.nx (ρ S Q (.im (.int n)) s8)):=(tQ (tD x2 (tD (x:=.int u.2) (tW (m:="most_of") (ns:=wNs) (xs:=wA T M dk W V R c) (ys:=[.str u.1]) O O O O (Pc s.g hu)) O O) (ux ()))).trans O;have e3:tV 8 (tq v7 jY) (ρ S Q (.im (.int n)) s8)=Z (.nx (ρ S Q (.im (.int n)) (.im (sD P (va a m'))))):=(tQ (tf (sZ O (sZ O (sZ O O))) ((GQ P hP (va a m) ("mark", u.1) (.int n)).trans (by rw[WY _ _ _ _ _ (Mw s.p)])))).trans O;have e4:=uz (tf (a:=aCons ab iR) (ρ:=ρ S Q (.im (.int n)) (.im (sD P (va a m')))) (sZ O (sZ O O)) ei);show⟨a,m',Q,.im (.int n),.im (sD P (va a m')),s.i,mr',(e1 _).trans ((tu ((ud e2).trans e5)).trans ((tu e3).trans ((ud e4).trans O)))⟩
end
def eq_self{d:L4.D}{x:L3.Dq}(e0:KB γ d d=J)(e1:toD d=Z x)(h1:Rb x x=γ)(h2:dpt x<=20):dEq γ d d=Z (.bl δ):=by delta dEq;rw[e0];simp only;delta RG;rw[e1];simp only;rw[h1,Lx,bh h2];rfl
theorem Lf(a:Str->Str)(m:Str->Int):∀P:List Ky,∃l,BU (P.map λk=>.tup [kD k,va a m k])=Z l/\vA l<=2
 |[]=>⟨[],O,by decide⟩
 |k::P=>by
  let#v[l,e,h]:=Lf a m P;let#v[z,z1,z2]:∃z,toD (va a m k)=Z z/\dpt z=0:=by
   delta va;split
   .show⟨.str _,O,O⟩
   .show⟨.int _,O,O⟩
  have e1:toD (.tup [kD k,va a m k])=Z (.tup [.tup [.str k.1,.str k.2],z]):=by
   delta toD;have:BU [kD k,va a m k]=Z [.tup [.str k.1,.str k.2],z]:=by delta BU;rw[show toD (kD k)=Z (.tup [.str k.1,.str k.2]) from O];delta BU;rw[z1];rfl
   rw[this]
  calc⟨_::l,by rw[aN];delta BU;rw[e1,e],?_⟩;rw[vA,dpt,vA,vA,vA,z2];have:dpt (.tup [.str k.1,.str k.2])=1:=by rw[dpt,vA,vA,vA];rfl
  rw[this];omega
def QC(k tx:Str)(P:List Ky)(a:Str->Str)(m:Str->Int):dEq γ (yJ k tx (sD P (va a m))) (yJ k tx (sD P (va a m)))=Z (.bl δ):=by
 let#v[l,e,h]:=Lf a m P;have e1:toD (sD P (va a m))=Z (.tup l):=by delta sD toD;rw[e]
 refine eq_self (x:=.tup [.tup [.str k,.str tx],.tup l]) O ?_ O ?_
 .delta yJ toD;have:BU [.tup [.str k,.str tx],sD P (va a m)]=Z [.tup [.str k,.str tx],.tup l]:=by delta BU;rw[show toD (.tup [.str k,.str tx])=Z (.tup [.str k,.str tx]) from O];delta BU;rw[e1];rfl
  rw[this]
 .have:dpt (.tup [.str k,.str tx])=1:=by rw[dpt,vA,vA,vA];rfl
  rw[dpt,vA,vA,vA,this,dpt];omega
def Pd(ns:List Int)(k:Nat):∃c,vt [.fzl (ns.map D.int),.int k]=Z (.int c):=by
 let ρ:aJ:=[.im (.fzl (ns.map D.int)),.im (.int k)];have ev:cT (c2 MX ai (c1 vv ab)) ρ=Z (decide ((k:Int)<((ns.map D.int).length:Nat)),ρ):=rfl;rw[aq]at ev;by_cases h:k<ns.length
 .rw[bh ()]at ev;calc⟨ns[k],tE (ρ:=ρ) O (tZ ((ud ev).trans (tL (tD (x:=.fzl (ns.map D.int)) (y:=.int k) O O ?_))))⟩;show AY (by rw[bC,bg h];rfl)
 .rw[bj ()]at ev;show⟨0,tE (ρ:=ρ) O ((tu ((uo ev).trans O)).trans O)⟩
def aaX{f:FE}{gg:FG}{ρ ρ1 ρ2:aJ}{d:L4.D}(h1:f ρ=Z (d,ρ1))(h2:gg d ρ1=Z ρ2):MV f gg ρ=Z (.nx ρ2):=by delta MV;rw[h1];erw[h2]
def Wp(P:List Ky)(a:Str->Str)(m:Str->Int):dEq γ (sD P (va a m)) (sD P (va a m))=Z (.bl δ):=by let#v[l,e,h]:=Lf a m P;calc eq_self (x:=.tup l) O (by delta sD toD;rw[e]) O ?_;rw[dpt];omega
section
variable{T:List Th}{M:List Mk}{dk:aH}{W:List Wy}{V:List Vb}{R:List L4.D}{c:L4.D}{P:List Ky}{a:Str->Str}{m:Str->Int}
def Uc(s:Sit T M dk W P a):∃p:Str->Bool,∀x∈plN T,wt [wO T M dk W V R c,sD P (va a m),.str x]=Z (.bl (p x)):=by
 have h:∀x:Str,∃b:Bool,x∈plN T->wt [wO T M dk W V R c,sD P (va a m),.str x]=Z (.bl b):=λx=>by
  by_cases hx:x∈plN T
  .let#v[t,ht,rfl]:=ay.mp hx;let#v[b,e]:=O4 (V:=V) (R:=R) (c:=c) (m:=m) s (aZ.mp ht).1;show⟨b,λ_=>e⟩
  .show⟨δ,λz=>ar z hx⟩
 show⟨λx=>(h x).choose,λx=>(h x).choose_spec⟩
theorem IL(g:Good T M dk W)(p:P.Perm (PT T M))(hp:vE [wO T M dk W V R c]=Z (.lst (P.map kD))){xs:List Int}(hx:Dr xs 12)(C:Sl):∀(ks:List Nat) (a:Str->Str) (m:Str->Int) (s5 s6 s7 s8:Sl),(∀k∈ks,k<6)->Inv T a->Mr T M m->
  ∃a' m' t5 t6 t7 t8,Inv T a'/\Mr T M m'/\forL (gN 5) sB (ks.map λk:Nat=>D.int (k:Nat)) [.im (wO T M dk W V R c),C,.im (sD P (va a m)),.im (.lst (xs.map D.int)),.im (.lst ((plc T).map D.str)),s5,s6,s7,s8]=Z (.nx [.im (wO T M dk W V R c),C,.im (sD P (va a' m')),.im (.lst (xs.map D.int)),.im (.lst ((plc T).map D.str)),t5,t6,t7,t8])
 |[],a,m,s5,s6,s7,s8,_,i,mr=>⟨a,m,s5,s6,s7,s8,i,mr,O⟩
 |k::ks,a,m,s5,s6,s7,s8,hk,i,mr=>by let#v[a1,m1,t6,t7,t8,i1,mr1,e]:=NW (V:=V) (R:=R) (c:=c) ⟨g,p,i⟩ mr hp hx (hk k aR) C s6 s7 s8;let#v[a2,m2,r5,r6,r7,r8,i2,mr2,e2]:=IL g p hp hx C ks a1 m1 (.im (.int (k:Nat))) t6 t7 t8 (λk h=>hk k (aU _ h)) i1 mr1;calc⟨a2,m2,r5,r6,r7,r8,i2,mr2,?_⟩;rw[aN];delta forL;rw[show gN 5 (.int (k:Nat)) [.im (wO T M dk W V R c),C,.im (sD P (va a m)),.im (.lst (xs.map D.int)),.im (.lst ((plc T).map D.str)),s5,s6,s7,s8]=Z [.im (wO T M dk W V R c),C,.im (sD P (va a m)),.im (.lst (xs.map D.int)),.im (.lst ((plc T).map D.str)),.im (.int (k:Nat)),s6,s7,s8] from O];erw[e];show e2
def Ud(g:Good T M dk W)(p:P.Perm (PT T M))(hp:vE [wO T M dk W V R c]=Z (.lst (P.map kD)))(i:Inv T a)(mr:Mr T M m)(hf:xf [wO T M dk W V R c]=Z (sD P (va a m)))(z:Int):∃a' m',Inv T a'/\Mr T M m'/\y7 [wO T M dk W V R c,.int z]=Z (sD P (va a' m')):=by
 let#v[xs,ed,hx]:=MB z 12 #[];let w:=wO T M dk W V R c;have hl:=g.len;let C:Sl:=.im (.int z);let S:Sl:=.im (sD P (va a m));let X:Sl:=.im (.lst (xs.map D.int));let L:Sl:=.im (.lst ((plc T).map D.str));let U:Sl:=.un;let#v[a',m',t5,t6,t7,t8,i',mr',e]:=IL (V:=V) (R:=R) (c:=c) g p hp hx C (bu 6) a m U U U U (λk h=>cu.mp h) i mr;calc⟨a',m',i',mr',tE (ρ:=[.im w,C,.im (sD P (va a' m')),X,L,t5,t6,t7,t8]) O ?_⟩;delta Bv;calc(tu (ρ':=[.im w,C,S,U,U,U,U,U,U]) ((tQ (tf (ρ1:=[.im w,C,U,U,U,U,U,U,U]) (sZ O O) hf)).trans O)).trans ?_;calc(tu (ρ':=[.im w,C,S,X,U,U,U,U,U]) ((tQ (uT (tf (ρ1:=[.im w,C,S,U,U,U,U,U,U]) (sZ O (sZ O O)) ed))).trans O)).trans ?_;let σ:aJ:=[.im w,C,S,X,U,U,U,U,U];have ok:∀k:Kd,tK vC "of_kind" ab (a1 (cC (.str k.s))) σ=Z (.lst (((T.filter λt=>decide (t.k=k)).map Th.n).map D.str),σ):=λk=>(tW (m:="of_kind") (ns:=wNs) (xs:=wA T M dk W V R c) (ys:=[.str k.s]) O O O O (DR T () _ _ k)).trans (by rw[br];rfl);have lr:(rmN T).length<=13:=by delta rmN;rw[aq];show bM (cK _ _) hl
 have lb:((T.filter λt=>decide (t.k=.box)).map Th.n).length<=13:=by rw[aq];show bM (cK _ _) hl
 refine(tu (ρ':=[.im w,C,S,X,L,U,U,U,U]) ((tQ (uT (w6 (xs:=(rmN T++(["self"]:aH)).map D.str) (ys:=((T.filter λt=>decide (t.k=.box)).map Th.n).map D.str) (ρ1:=σ) ((uT (w6 (xs:=(rmN T).map D.str) (ys:=[.str "self"]) (ρ1:=σ) (ok .room) (uT (RV (ds:=[.str "self"]) (sZ (tW (m:="you") (ns:=wNs) (xs:=wA T M dk W V R c) (ys:=[]) O O O O NU) O) (show 1<=1000 by decide))) ?_)).trans (by rw[bK];rfl)) (ok .box) ?_))).trans ?_)).trans ?_
 .rw[aq];change (rmN T).length+1<=1000;omega
 .rw[aq,aq,aM];change (rmN T).length+1+_<=1000;omega
 .change Z (Out.nx [.im w,C,S,X,.im (.lst ((rmN T++(["self"]:aH)).map D.str++((T.filter λt=>decide (t.k=.box)).map Th.n).map D.str)),U,U,U,U])=_;rw[<-bK];rfl
 show(tu ((uO (ρ1:=[.im w,C,S,X,L,U,U,U,U]) (Fq (n:=6) #[] O)).trans e)).trans O
def lB:FS:=(tw (tV 5 (c2 dIx aj (c2 uf az (c1 vv aj))))
 (tw (MV (tq Bp iN) (gT qq 2))
 (tw (sIf (vS (cT (c2 (dIn γ) (c2 dIx bb aA) (uv qI))) (cT (c2 (dEq γ) (c1 vv bb) bp))) (tG bz) tN)
 (tw (sIf (vS (uE (cT (tq yj jZ))) (uE (cT (tq x4 jZ)))) (tG bz) tN)
 (tw (sIf (vS (vV (cT (c2 (dEq γ) (c2 dIx bb aA) gU)) (cT (c2 (dEq γ) bH aw))) (cT (c2 (dEq γ) (tq Bp iN) (uv mq)))) (tG bz) tN)
 (tV 3 bH))))))
def Wq(s:Sit T M dk W P a)(mr:Mr T M m)(hp:vE [wO T M dk W v6 R c]=Z (.lst (P.map kD)))(ht:Try T M dk W v6 R c)(hR:∀r∈R,RuS T M v6 r)(cs:List L4.D)(hcs:cs=cmA (plN T) (wdN W) ((v6++v9).map nf))(n0:cs≠[])(S0:Sl)(z:Int)(s5 s6 s7:Sl):
  ∃a' m' t5 t6 t7,Inv T a'/\Mr T M m'/\lB [S0,.im (wO T M dk W v6 R c),.im (.lst cs),.im (sD P (va a m)),.im (.int z),s5,s6,s7]=Z (.nx [S0,.im (wO T M dk W v6 R c),.im (.lst cs),.im (sD P (va a' m')),.im (.int z),t5,t6,t7]):=by
 let w:=wO T M dk W v6 R c;let S:=sD P (va a m);let#v[q,hq,eq]:=AW id n0 z;rw[fg]at eq;rw[hcs]at hq;let#v[v,hv,x,y,rfl,hc]:=acz (λv hv=>v_fm hv) hq;let#v[p,hpp]:=Uc (V:=v6) (R:=R) (c:=c) (m:=m) s;let#v[o,ho,es]:=TV s mr OQ ht hR hv hc hpp;let#v[k,tx,a',m',e0,hk,i',mr']:∃k tx a' m',Bp [w,S,q3 v.n x y]=Z (yJ k tx (sD P (va a' m')))/\((k∈(["refused", "unseen"]:aH)/\sD P (va a' m')=S)\/k="told")/\Inv T a'/\Mr T M m':=by
  cases hf:fU (thO v x y) p with
  |some z=>rw[hf]at es;show⟨"unseen", z,a,m,es,.inl ⟨by decide,O⟩,s.i,mr⟩
  |none=>rw[hf]at es;let#v[k,tx,a',m',rfl,hk,i',mr']:=ho;show⟨k,tx,a',m',es,hk.imp (λh=>⟨by rw[h.1];decide,h.2⟩) id,i',mr'⟩
 let Q:Sl:=.im (q3 v.n x y);let A:L4.D:=.tup [.str k,.str tx];let S':=sD P (va a' m');have s':Sit T M dk W P a':=⟨s.g,s.p,i'⟩;let ρ:L4.D->Sl->Sl->Sl->aJ:=λSt x y t=>[S0,.im w,.im (.lst cs),.im St,.im (.int z),x,y,t];let σ:=ρ S Q (.im A) (.im S');have hk3:k∈(["told", "refused", "unseen"]:aH):=by
  rcases hk with ⟨h,_⟩|h
  .show aU _ h
  .rw[h];decide
 have st:tq Bp iN σ=Z (yJ k tx S',σ):=tf (sZ O (sZ O (sZ O O))) e0;calc⟨a',m',Q,.im A,.im S',i',mr',?_⟩;delta lB;calc(tu (ρ':=ρ S Q s6 s7) ((tQ (tD (x:=.lst cs) (ρ1:=ρ S s5 s6 s7) O (tD (x:=.int z) O (uu (x:=.lst cs) O (show vv (.lst cs)=Z (.int cs.length) from O)) (ux (by have:=gj.mpr n0;omega))) (show dIx (.lst cs) (.int (z % cs.length))=Z (q3 v.n x y) from eq))).trans O)).trans ?_;calc(tu (ρ':=σ) (aaX (d:=yJ k tx S') (ρ1:=ρ S Q s6 s7) (tf (sZ O (sZ O (sZ O O))) e0) O)).trans ?_;calc(wY (b:=δ) (wF (ρ1:=σ) (uz (tD (x:=.str k) (y:=.tup ((["told", "refused", "unseen"]:aH).map D.str)) O O ((yA γ k _).trans (by rw[bh hk3];rfl)))) O) O).trans ?_;calc(wY (b:=δ) (wF (ρ1:=σ) (vN (b:=γ) (uz (tf (sZ O (sZ O O)) ((DT s.g s.p hp i'.hd mr').trans (by rw[Ua s.p i']))))) (vN (b:=γ) (uz (tf (sZ O (sZ O O)) (Wo s'))))) O).trans ?_;have e3:vV (cT (c2 (dEq γ) (c2 dIx bb aA) gU)) (cT (c2 (dEq γ) bH aw)) σ=Z (δ,σ):=by
  have ek:cT (c2 (dEq γ) (c2 dIx bb aA) gU) σ=Z (!decide (k="told"),σ):=uz (tD (x:=.str k) O O (vG γ k "told"));rcases hk with ⟨_,h⟩|h
  .have e:cT (c2 (dEq γ) bH aw) σ=Z (δ,σ):=uz (tD (x:=S') (y:=S) O O (by change dEq γ (sD P (va a' m')) S=_;rw[h];show Wp P a m));show(NT ek e).trans (by rw[kX])
  .rw[bh h]at ek;show Ka ek
 calc(wY (b:=δ) (wF e3 (uz (tD (x:=yJ k tx S') (y:=yJ k tx S') st O (QC k tx P a' m')))) O).trans ?_;show O
end
def aaY(ns:List Int)(hl:ns.length<=63):WS [.fzl (ns.map D.int)]=Z (.bl γ):=by
 let#v[c0,e0]:=Pd ns 0;let#v[z1,e1]:=Pd ns 1;let#v[T,M,dk,W,R,c,ew,g,hR,ht]:=T6 c0;let#v[P,m,p,hp,hm,ef]:=Tu (V:=v6) (R:=R) (c:=c) g;have mr:=mr0 g hm;let w:=wO T M dk W v6 R c;let cs:List L4.D:=cmA (plN T) (wdN W) ((v6++v9).map nf);have xc:Bq [w]=Z cs:=Mp g (λ_ h=>h) #[];have n0:cs≠[]:=λz=>by
  have:q3 "wait" J J∈cs:=by calc d8.mpr ⟨("wait", "alone"),ay.mpr ⟨⟨"wait", [],"alone", J⟩,bE _ (by simp[v9]),O⟩,?_⟩;delta cmV obF;rw[ao O];show ay.mpr ⟨(.non,.non),aY.mpr O,O⟩
  rw[z]at this;ext this
 let S0:Sl:=.im (.fzl (ns.map D.int));let ρ:L4.D->Sl->Sl->Sl->Sl->aJ:=λSt a b d e=>[S0,.im w,.im (.lst cs),.im St,a,b,d,e];have loop:∀(l:List Int) (a:Str->Str) (m:Str->Int) (s4 s5 s6 s7:Sl),Inv T a->Mr T M m->∃a' m' t4 t5 t6 t7,forL (gN 4) lB (l.map D.int) (ρ (sD P (va a m)) s4 s5 s6 s7)=Z (.nx (ρ (sD P (va a' m')) t4 t5 t6 t7)):=by
  intro l
  induction l with
  |nil=>show λa m s4 s5 s6 s7 _ _=>⟨a,m,s4,s5,s6,s7,O⟩
  |cons z l ih=>intro a m s4 s5 s6 s7 i mr;let#v[a',m',t5,t6,t7,i',mr',ev]:=Wq ⟨g,p,i⟩ mr hp ht hR cs O n0 S0 z s5 s6 s7;let#v[a2,m2,r4,r5,r6,r7,h]:=ih a' m' (.im (.int z)) t5 t6 t7 i' mr';calc⟨a2,m2,r4,r5,r6,r7,?_⟩;rw[aN];delta forL;rw[show gN 4 (.int z) (ρ (sD P (va a m)) s4 s5 s6 s7)=Z (ρ (sD P (va a m)) (.im (.int z)) s5 s6 s7) from O];have ev':lB (ρ (sD P (va a m)) (.im (.int z)) s5 s6 s7)=Z (.nx (ρ (sD P (va a' m')) (.im (.int z)) t5 t6 t7)):=ev;erw[ev'];show h
 let#v[aa,m1,i1,mr1,es]:∃aa m1,Inv T aa/\Mr T M m1/\sIf (cT (c2 (dEq δ) (c2 uf (tq vt iO) bp) aI)) (tV 3 (tq y7 qN)) tN (ρ (sD P (va (at0 T) m)) .un .un .un .un)=Z (.nx (ρ (sD P (va aa m1)) .un .un .un .un)):=by
  let σ:=ρ (sD P (va (at0 T) m)) .un .un .un .un;have ec:tq vt iO σ=Z (.int z1,σ):=tf (sZ O (sZ O O)) e1;have eb:=qzI (e:=c2 uf (tq vt iO) bp) (z1 % 2) 1 (tD (y:=.int 2) ec O (ux #[]));by_cases h:z1 % 2=1
  .rw[bh h]at eb;let#v[a',m',i',mr',e]:=Ud g p hp (inv0 g) mr ef (z1 / 2);show⟨a',m',i',mr',(ud eb).trans ((tQ (tf (sZ O (sZ (tD (y:=.int 2) ec O (div_pos #[] #[])) O)) e)).trans O)⟩
  .rw[bj h]at eb;show⟨at0 T,m,inv0 g,mr,(uo eb).trans O⟩
 let ls:List Int:=(ns.drop (HT.sIx ns.length 0 (Z 2))).take (HT.sIx ns.length ns.length (Z 42) - HT.sIx ns.length 0 (Z 2));have el:cutD (ns.map D.int) (Z 2) (Z 42)=ls.map D.int:=by delta cutD;rw[aq,<- lC,<- lD]
 let#v[a2,m2,t4,t5,t6,t7,e]:=loop ls aa m1 .un .un .un .un i1 mr1;calc tE (ρ:=ρ (sD P (va a2 m2)) t4 t5 t6 t7) O ?_;delta ON;calc(tu (ρ':=[S0,.im w,.un,.un,.un,.un,.un,.un]) ((tQ (tf (sZ (tf (sZ O (sZ O O)) e0) O) ew)).trans O)).trans ?_;calc(tu (ρ':=[S0,.im w,.im (.lst cs),.un,.un,.un,.un,.un]) ((tQ (uT (tf (sZ O O) xc))).trans O)).trans ?_;calc(tu (ρ':=ρ (sD P (va (at0 T) m)) .un .un .un .un) ((tQ (tf (sZ O O) ef)).trans O)).trans ?_;calc(tu es).trans ?_;calc(tu ((uO (ds:=ls.map D.int) (ρ1:=ρ (sD P (va aa m1)) .un .un .un .un) ?_).trans e)).trans O;show(show _=Z (cutD (ns.map D.int) (Z 2) (Z 42),ρ (sD P (va aa m1)) .un .un .un .un) from O).trans (by rw[el])
end K91x
namespace K91x
open PySem L2 L3 L4
open PySem.W (nsIn)
structure Fx(K:av)(C0 C1 C2 C3 C4 C5 C6 C7 C8 C9 C10 C11 C12 C13 C14 C15:Addr):Prop where
 a0:nsIn K aX "Thing" = Z (Z (.ref C0))
 a1:nsIn K aX "Mark" = Z (Z (.ref C1))
 a2:nsIn K aX "Verb" = Z (Z (.ref C2))
 a3:nsIn K aX "At" = Z (Z (.ref C3))
 a4:nsIn K aX "Has" = Z (Z (.ref C4))
 a5:nsIn K aX "Seen" = Z (Z (.ref C5))
 a6:nsIn K aX "Marked" = Z (Z (.ref C6))
 a7:nsIn K aX "Kind" = Z (Z (.ref C7))
 a8:nsIn K aX "Word" = Z (Z (.ref C8))
 a9:nsIn K aX "Not" = Z (Z (.ref C9))
 a10:nsIn K aX "Both" = Z (Z (.ref C10))
 a11:nsIn K aX "Move" = Z (Z (.ref C11))
 a12:nsIn K aX "Put" = Z (Z (.ref C12))
 a13:nsIn K aX "Rule" = Z (Z (.ref C13))
 a14:nsIn K aX "World" = Z (Z (.ref C14))
 a15:nsIn K aX "Lit" = Z (Z (.ref C15))
 k0:CF K C0 ["kind", "name", "start", "words"]
 k1:CF K C1 ["most", "name", "start"]
 k2:CF K C2 ["form", "joining", "name", "others"]
 k3:CF K C3 ["place", "term"]
 k4:CF K C4 ["term"]
 k5:CF K C5 ["term"]
 k6:CF K C6 ["term", "value"]
 k7:CF K C7 ["kind", "term"]
 k8:CF K C8 ["word"]
 k9:CF K C9 ["inner"]
 k10:CF K C10 ["one", "other"]
 k11:CF K C11 ["place", "term"]
 k12:CF K C12 ["term", "value"]
 k13:CF K C13 ["deeds", "refuses", "tests", "text", "verb"]
 k14:CF K C14 ["copied_rules", "kept_dark", "kept_marks", "kept_things", "kept_verbs", "kept_ways", "mosts_by_name", "rules_by_verb", "shared_rules", "shared_verbs", "things_by_name", "verbs_by_word", "your_name", "kept_rules"]
 k15:CF K C15 []
 i_At:vO K [C0,C1,C2,C3,C4,C5,C6,C7,C8,C9,C10,C11,C12,C13,C14,C15] C3 3=γ
 i_Both:vO K [C0,C1,C2,C3,C4,C5,C6,C7,C8,C9,C10,C11,C12,C13,C14,C15] C10 10=γ
 i_Has:vO K [C0,C1,C2,C3,C4,C5,C6,C7,C8,C9,C10,C11,C12,C13,C14,C15] C4 4=γ
 i_Kind:vO K [C0,C1,C2,C3,C4,C5,C6,C7,C8,C9,C10,C11,C12,C13,C14,C15] C7 7=γ
 i_Lit:vO K [C0,C1,C2,C3,C4,C5,C6,C7,C8,C9,C10,C11,C12,C13,C14,C15] C15 15=γ
 i_Mark:vO K [C0,C1,C2,C3,C4,C5,C6,C7,C8,C9,C10,C11,C12,C13,C14,C15] C1 1=γ
 i_Marked:vO K [C0,C1,C2,C3,C4,C5,C6,C7,C8,C9,C10,C11,C12,C13,C14,C15] C6 6=γ
 i_Move:vO K [C0,C1,C2,C3,C4,C5,C6,C7,C8,C9,C10,C11,C12,C13,C14,C15] C11 11=γ
 i_Not:vO K [C0,C1,C2,C3,C4,C5,C6,C7,C8,C9,C10,C11,C12,C13,C14,C15] C9 9=γ
 i_Put:vO K [C0,C1,C2,C3,C4,C5,C6,C7,C8,C9,C10,C11,C12,C13,C14,C15] C12 12=γ
 i_Rule:vO K [C0,C1,C2,C3,C4,C5,C6,C7,C8,C9,C10,C11,C12,C13,C14,C15] C13 13=γ
 i_Seen:vO K [C0,C1,C2,C3,C4,C5,C6,C7,C8,C9,C10,C11,C12,C13,C14,C15] C5 5=γ
 i_Thing:vO K [C0,C1,C2,C3,C4,C5,C6,C7,C8,C9,C10,C11,C12,C13,C14,C15] C0 0=γ
 i_Verb:vO K [C0,C1,C2,C3,C4,C5,C6,C7,C8,C9,C10,C11,C12,C13,C14,C15] C2 2=γ
 i_Word:vO K [C0,C1,C2,C3,C4,C5,C6,C7,C8,C9,C10,C11,C12,C13,C14,C15] C8 8=γ
 n_Lit:cR K (.ref C15) "__init__" = Z (Z (.builtin "object.__init__"))
 nd:decide ([C0,C1,C2,C3,C4,C5,C6,C7,C8,C9,C10,C11,C12,C13,C14,C15]:List Addr).Nodup=γ
 e:((["all", "any", "bool", "int", "isinstance", "len", "list", "range", "set", "sorted", "str", "tuple", "zip"]:aH).all λx=>match nsIn K aX x with|some J=>γ|_=>δ)=γ
 g0:GX K "CANNOT_BE" "That cannot be."
 g1:GS K "FORMS" ["alone", "one", "two", "way"]
 g2:GS K "KINDS" ["room", "plain", "fixed", "box", "lamp", "you"]
 g3:GS K "KINDS_APART" ["room", "you"]
 g4:GS K "KINDS_THAT_HOLD" ["room", "box", "you"]
 g5:GS K "KINDS_WITH_MARK" ["box", "lamp"]
 g6:GC K "MOST_BESIDE" 7
 g7:GC K "MOST_BY_COMMAND" 3
 g8:GC K "MOST_DEEDS" 4
 g9:GC K "MOST_DEEP" 4
 g10:GC K "MOST_IN_NAME" 8
 g11:GC K "MOST_IN_WORD" 12
 g12:GC K "MOST_MARKS" 4
 g13:GC K "MOST_OF_MARK" 3
 g14:GC K "MOST_ROOMS" 5
 g15:GC K "MOST_RULES" 20
 g16:GC K "MOST_SIGNS" 60
 g17:GC K "MOST_TESTS" 5
 g18:GC K "MOST_VERBS" 6
 g19:GC K "MOST_WAYS" 10
 g20:GC K "MOST_WORDS" 4
 g21:GX K "NOTHING_COMES" "Nothing comes of it."
 g22:GS K "NO_NAMES" ["it", "other", "here", "the", "a", "undo", "restart"]
 g23:GS K "NO_WORDS" ["the", "a"]
 g24:GS K "NO_WORDS_OF_ROWS" ["the", "a", "undo", "restart"]
 q25:GD K "is_small_letters" (top 6)
 q26:GD K "is_name" (top 7)
 q27:GD K "is_word" (top 8)
 q28:GD K "is_one_of" (top 10)
 q29:GD K "is_whole" (top 11)
 q30:GD K "is_list_up_to" (top 12)
 q31:GD K "own_list" (top 92)
 q32:GJ K C0 "Thing.__init__" (inClass (top 82) 0) [V.non]
 q33:GM K C1 "__init__" "Mark.__init__" (inClass (top 83) 0)
 q34:GJ K C2 "Verb.__init__" (inClass (top 84) 0) [V.non,(V.str "one"),V.non]
 q35:GM K C3 "__init__" "At.__init__" (inClass (top 39) 0)
 q36:GM K C4 "__init__" "Has.__init__" (inClass (top 40) 0)
 q37:GM K C5 "__init__" "Seen.__init__" (inClass (top 41) 0)
 q38:GM K C6 "__init__" "Marked.__init__" (inClass (top 42) 0)
 q39:GM K C7 "__init__" "Kind.__init__" (inClass (top 43) 0)
 q40:GM K C8 "__init__" "Word.__init__" (inClass (top 44) 0)
 q41:GM K C9 "__init__" "Not.__init__" (inClass (top 46) 0)
 q42:GM K C10 "__init__" "Both.__init__" (inClass (top 47) 0)
 q43:GM K C11 "__init__" "Move.__init__" (inClass (top 72) 0)
 q44:GM K C12 "__init__" "Put.__init__" (inClass (top 73) 0)
 q45:GJ K C13 "Rule.__init__" (inClass (top 91) 0) [(V.bl δ)]
 q46:GM K C0 "can_hold" "Thing.can_hold" (inClass (top 82) 1)
 q47:GM K C0 "has_mark" "Thing.has_mark" (inClass (top 82) 2)
 q48:GM K C0 "is_plainly" "Thing.is_plainly" (inClass (top 82) 3)
 q49:GD K "refuse_unless" (top 121)
 q50:GD K "count_of" (top 124)
 q51:GD K "plain_ones" (top 125)
 q52:GD K "is_mark" (top 127)
 q53:GD K "check_things" (top 123)
 q54:GD K "check_marks" (top 126)
 q55:GD K "are_unlike" (top 129)
 q56:GD K "check_names" (top 128)
 q57:GD K "mark_names" (top 130)
 q58:GD K "is_start" (top 132)
 q59:GDa K "comes_to_room_checks" "comes_to_room" (top 133)
 q60:GD K "check_starts" (top 131)
 q61:GD K "are_words" (top 136)
 q62:GD K "has_all" (top 138)
 q63:GD K "is_told_apart" (top 137)
 q64:GD K "check_words_of_things" (top 135)
 q65:GD K "check_dark" (top 139)
 q66:GD K "is_way" (top 141)
 q67:GD K "check_ways" (top 140)
 q68:GD K "is_verb" (top 143)
 q69:GD K "check_verbs" (top 142)
 q70:GD K "are_apart" (top 145)
 q71:GD K "check_vocabulary" (top 144)
 q72:GD K "check_parts" (top 122)
 q73:GD K "does" (top 149)
 q74:GD K "refuses" (top 150)
 q75:GD K "hand_rules" (top 151)
 q76:GD K "put_rules" (top 152)
 q77:GD K "lid_rules" (top 153)
 q78:GD K "flame_rules" (top 154)
 q79:GD K "way_tests" (top 156)
 q80:GD K "go_rules" (top 155)
 q81:GD K "wait_rules" (top 157)
 q82:GD K "common_rules" (top 148)
 q83:GD K "common_verbs" (top 147)
 q84:GD K "by_name" (top 161)
 q85:GD K "mosts_by_name" (top 162)
 q86:GD K "verbs_by_word" (top 163)
 q87:GD K "by_verb" (top 164)
 q88:GM K C14 "of_kind" "World.of_kind" (inClass (top 160) 3)
 q89:GM K C14 "all_verbs" "World.all_verbs" (inClass (top 160) 13)
 q90:GD K "is_same_text" (top 9)
 q91:GD K "copy_of" (top 93)
 q92:GM K C14 "thing_of" "World.thing_of" (inClass (top 160) 2)
 q93:GM K C14 "most_of" "World.most_of" (inClass (top 160) 6)
 q94:GM K C14 "verb_of" "World.verb_of" (inClass (top 160) 14)
 q95:GM K C14 "you" "World.you" (inClass (top 160) 4)
 q96:GD K "is_by_command" (top 104)
 q97:GD K "is_here" (top 105)
 q98:GD K "named" (top 106)
 q99:GD K "is_of_kind" (top 107)
 q100:GD K "is_term" (top 108)
 q101:GD K "is_place" (top 109)
 q102:GD K "is_moved" (top 110)
 q103:GD K "is_mark_value" (top 111)
 q104:GD K "is_move" (top 103)
 q105:GD K "is_said" (top 96)
 q106:GD K "is_verb_name" (top 95)
 q107:GD K "does_or_refuses" (top 97)
 q108:GD K "is_plain_test" (top 101)
 q109:GD K "is_test" (top 100)
 q110:GD K "is_deed" (top 102)
 q111:GD K "are_tests" (top 98)
 q112:GD K "are_deeds" (top 99)
 q113:GD K "is_rule" (top 94)
 q114:GM K C14 "__init__" "World.__init__" (inClass (top 160) 0)
 q115:GM K C14 "is_dark" "World.is_dark" (inClass (top 160) 5)
 q116:GM K C14 "own_marks" "World.own_marks" (inClass (top 160) 7)
 q117:GM K C14 "names" "World.names" (inClass (top 160) 1)
 q118:GM K C14 "way_words" "World.way_words" (inClass (top 160) 12)
 q119:GM K C14 "rules_to_try" "World.rules_to_try" (inClass (top 160) 16)
 q120:GM K C14 "parts" "World.parts" (inClass (top 160) 18)
 q121:GD K "own_starts" (top 15)
 q122:GD K "first_value" (top 16)
 q123:GD K "first_stand" (top 14)
 q124:GD K "value_of" (top 17)
 q125:GD K "at_of" (top 18)
 q126:GD K "mark_of" (top 19)
 q127:GD K "with_part" (top 20)
 q128:GD K "holders_of" (top 29)
 q129:GD K "room_of" (top 30)
 q130:GD K "has" (top 33)
 q131:GD K "is_shut" (top 32)
 q132:GD K "in_open" (top 31)
 q133:GD K "burns_in" (top 35)
 q134:GD K "is_lit" (top 34)
 q135:GD K "is_seen" (top 36)
 q136:GD K "is_of_way" (top 48)
 q137:GD K "things_of" (top 49)
 q138:GD K "meant" (top 50)
 q139:GD K "at_parts" (top 51)
 q140:GD K "mark_parts" (top 52)
 q141:GD K "can_go" (top 74)
 q142:GD K "can_show" (top 75)
 q143:GM K C3 "holds" "At.holds" (inClass (top 39) 1)
 q144:GM K C4 "holds" "Has.holds" (inClass (top 40) 1)
 q145:GM K C5 "holds" "Seen.holds" (inClass (top 41) 1)
 q146:GM K C6 "holds" "Marked.holds" (inClass (top 42) 1)
 q147:GM K C7 "holds" "Kind.holds" (inClass (top 43) 1)
 q148:GM K C8 "holds" "Word.holds" (inClass (top 44) 1)
 q149:GM K C15 "holds" "Lit.holds" (inClass (top 45) 0)
 q150:GM K C9 "holds" "Not.holds" (inClass (top 46) 1)
 q151:GM K C10 "holds" "Both.holds" (inClass (top 47) 1)
 q152:GM K C11 "done" "Move.done" (inClass (top 72) 1)
 q153:GM K C12 "done" "Put.done" (inClass (top 73) 1)
 q154:GD K "is_object" (top 65)
 q155:GD K "fits_form" (top 64)
 q156:GD K "is_command" (top 63)
 q157:GD K "check_command" (top 62)
 q158:GD K "fits" (top 68)
 q159:GD K "outcome" (top 69)
 q160:GD K "answered" (top 67)
 q161:GD K "step" (top 66)
 q162:GD K "objects_of" (top 61)
 q163:GD K "commands" (top 60)
 q164:GDa K "comes_to_room_stands" "comes_to_room" (top 26)
 q165:GD K "is_two" (top 22)
 q166:GD K "is_part" (top 23)
 q167:GD K "is_holder" (top 25)
 q168:GD K "is_value" (top 24)
 q169:GD K "is_stand" (top 21)
 q170:GD K "_law_cell_at" (top 166)
 q171:GD K "_law_draws" (top 167)
 q172:GD K "_law_things" (top 168)
 q173:GD K "_law_term" (top 169)
 q174:GD K "_law_test" (top 170)
 q175:GD K "_law_deed" (top 171)
 q176:GD K "_law_rules" (top 172)
 q177:GD K "_law_world" (top 173)
 q178:GD K "_law_start" (top 174)
 q179:GD K "_law_is_tree" (top 175)
 q180:GD K "law" (top 176)
class Yx(B:Bz):Prop where
 y:Yw B.P B.w B.mg B.base B.G
 f:Fx B.G.K (B.G.ca 0) (B.G.ca 1) (B.G.ca 2) (B.G.ca 3) (B.G.ca 4) (B.G.ca 5) (B.G.ca 6) (B.G.ca 7) (B.G.ca 8) (B.G.ca 9) (B.G.ca 10) (B.G.ca 11) (B.G.ca 12) (B.G.ca 13) (B.G.ca 14) (B.G.ca 15)
section
variable{B:Bz}[Y:Yx B]
instance:Yb B:=⟨Y.y⟩
instance:Nb B "all" := ⟨Y.y.n Y.f.e 0 O⟩
instance:Nb B "any" := ⟨Y.y.n Y.f.e 1 O⟩
instance:Nb B "bool" := ⟨Y.y.n Y.f.e 2 O⟩
instance:Nb B "int" := ⟨Y.y.n Y.f.e 3 O⟩
instance:Nb B "isinstance" := ⟨Y.y.n Y.f.e 4 O⟩
instance:Nb B "len" := ⟨Y.y.n Y.f.e 5 O⟩
instance:Nb B "list" := ⟨Y.y.n Y.f.e 6 O⟩
instance:Nb B "range" := ⟨Y.y.n Y.f.e 7 O⟩
instance:Nb B "set" := ⟨Y.y.n Y.f.e 8 O⟩
instance:Nb B "sorted" := ⟨Y.y.n Y.f.e 9 O⟩
instance:Nb B "str" := ⟨Y.y.n Y.f.e 10 O⟩
instance:Nb B "tuple" := ⟨Y.y.n Y.f.e 11 O⟩
instance:Nb B "zip" := ⟨Y.y.n Y.f.e 12 O⟩
instance:Co B "CANNOT_BE" FK:=⟨Y.y.cx Y.f.g0⟩
instance:Co B "FORMS" OJ:=⟨Y.y.cs Y.f.g1⟩
instance:Co B "KINDS" GN:=⟨Y.y.cs Y.f.g2⟩
instance:Co B "KINDS_APART" CZ:=⟨Y.y.cs Y.f.g3⟩
instance:Co B "KINDS_THAT_HOLD" zU:=⟨Y.y.cs Y.f.g4⟩
instance:Co B "KINDS_WITH_MARK" zV:=⟨Y.y.cs Y.f.g5⟩
instance:Co B "MOST_BESIDE" Da:=⟨Y.y.ci Y.f.g6⟩
instance:Co B "MOST_BY_COMMAND" zW:=⟨Y.y.ci Y.f.g7⟩
instance:Co B "MOST_DEEDS" Ek:=⟨Y.y.ci Y.f.g8⟩
instance:Co B "MOST_DEEP" FL:=⟨Y.y.ci Y.f.g9⟩
instance:Co B "MOST_IN_NAME" B8:=⟨Y.y.ci Y.f.g10⟩
instance:Co B "MOST_IN_WORD" B9:=⟨Y.y.ci Y.f.g11⟩
instance:Co B "MOST_MARKS" yW:=⟨Y.y.ci Y.f.g12⟩
instance:Co B "MOST_OF_MARK" Ca:=⟨Y.y.ci Y.f.g13⟩
instance:Co B "MOST_ROOMS" Em:=⟨Y.y.ci Y.f.g14⟩
instance:Co B "MOST_RULES" Ep:=⟨Y.y.ci Y.f.g15⟩
instance:Co B "MOST_SIGNS" El:=⟨Y.y.ci Y.f.g16⟩
instance:Co B "MOST_TESTS" Ej:=⟨Y.y.ci Y.f.g17⟩
instance:Co B "MOST_VERBS" En:=⟨Y.y.ci Y.f.g18⟩
instance:Co B "MOST_WAYS" Cb:=⟨Y.y.ci Y.f.g19⟩
instance:Co B "MOST_WORDS" Eo:=⟨Y.y.ci Y.f.g20⟩
instance:Co B "NOTHING_COMES" BC:=⟨Y.y.cx Y.f.g21⟩
instance:Co B "NO_NAMES" HL:=⟨Y.y.cs Y.f.g22⟩
instance:Co B "NO_WORDS" HM:=⟨Y.y.cs Y.f.g23⟩
instance:Co B "NO_WORDS_OF_ROWS" zy:=⟨Y.y.cs Y.f.g24⟩
instance:Ff B AE "copied_rules" := ⟨wM (Y.f.k14.at 0 O)⟩
instance:Ff B AF "deeds" := ⟨wM (Y.f.k13.at 0 O)⟩
instance:Ff B yB "form" := ⟨wM (Y.f.k2.at 0 O)⟩
instance:Ff B Fb "inner" := ⟨wM (Y.f.k9.at 0 O)⟩
instance:Ff B vP "joining" := ⟨wM (Y.f.k2.at 1 O)⟩
instance:Ff B CY "kept_dark" := ⟨wM (Y.f.k14.at 1 O)⟩
instance:Ff B zv "kept_marks" := ⟨wM (Y.f.k14.at 2 O)⟩
instance:Ff B vK "kept_things" := ⟨wM (Y.f.k14.at 3 O)⟩
instance:Ff B B7 "kept_verbs" := ⟨wM (Y.f.k14.at 4 O)⟩
instance:Ff B Ag "kept_ways" := ⟨wM (Y.f.k14.at 5 O)⟩
instance:Ff B ua "kind" := ⟨orQ (wM (Y.f.k0.at 0 O)) (Y.f.k7.at 0 O)⟩
instance:Ff B zw "most" := ⟨wM (Y.f.k1.at 0 O)⟩
instance:Ff B zS "mosts_by_name" := ⟨wM (Y.f.k14.at 6 O)⟩
instance:Ff B uc "name" := ⟨orQ (orQ (wM (Y.f.k0.at 1 O)) (Y.f.k1.at 1 O)) (Y.f.k2.at 2 O)⟩
instance:Ff B GL "one" := ⟨wM (Y.f.k10.at 0 O)⟩
instance:Ff B CH "other" := ⟨wM (Y.f.k10.at 1 O)⟩
instance:Ff B wG "others" := ⟨wM (Y.f.k2.at 3 O)⟩
instance:Ff B CJ "place" := ⟨orQ (wM (Y.f.k3.at 0 O)) (Y.f.k11.at 0 O)⟩
instance:Ff B yC "refuses" := ⟨wM (Y.f.k13.at 1 O)⟩
instance:Ff B xS "rules_by_verb" := ⟨wM (Y.f.k14.at 7 O)⟩
instance:Ff B AG "shared_rules" := ⟨wM (Y.f.k14.at 8 O)⟩
instance:Ff B AH "shared_verbs" := ⟨wM (Y.f.k14.at 9 O)⟩
instance:Ff B vg "start" := ⟨orQ (wM (Y.f.k0.at 2 O)) (Y.f.k1.at 2 O)⟩
instance:Ff B AI "term" := ⟨orQ (orQ (orQ (orQ (orQ (orQ (wM (Y.f.k3.at 1 O)) (Y.f.k4.at 0 O)) (Y.f.k5.at 0 O)) (Y.f.k6.at 0 O)) (Y.f.k7.at 1 O)) (Y.f.k11.at 1 O)) (Y.f.k12.at 0 O)⟩
instance:Ff B CK "tests" := ⟨wM (Y.f.k13.at 2 O)⟩
instance:Ff B Ei "text" := ⟨wM (Y.f.k13.at 3 O)⟩
instance:Ff B zx "things_by_name" := ⟨wM (Y.f.k14.at 10 O)⟩
instance:Ff B CL "value" := ⟨orQ (wM (Y.f.k6.at 1 O)) (Y.f.k12.at 1 O)⟩
instance:Ff B xT "verb" := ⟨wM (Y.f.k13.at 4 O)⟩
instance:Ff B zT "verbs_by_word" := ⟨wM (Y.f.k14.at 11 O)⟩
instance:Ff B HK "word" := ⟨wM (Y.f.k8.at 0 O)⟩
instance:Ff B wq "words" := ⟨wM (Y.f.k0.at 3 O)⟩
instance:Ff B Ah "your_name" := ⟨wM (Y.f.k14.at 12 O)⟩
instance:Af B 0 ["kind", "name", "start", "words"]:=⟨Y.f.k0⟩
instance:Af B 1 ["most", "name", "start"]:=⟨Y.f.k1⟩
instance:Af B 2 ["form", "joining", "name", "others"]:=⟨Y.f.k2⟩
instance:Af B 3 ["place", "term"]:=⟨Y.f.k3⟩
instance:Af B 4 ["term"]:=⟨Y.f.k4⟩
instance:Af B 5 ["term"]:=⟨Y.f.k5⟩
instance:Af B 6 ["term", "value"]:=⟨Y.f.k6⟩
instance:Af B 7 ["kind", "term"]:=⟨Y.f.k7⟩
instance:Af B 8 ["word"]:=⟨Y.f.k8⟩
instance:Af B 9 ["inner"]:=⟨Y.f.k9⟩
instance:Af B 10 ["one", "other"]:=⟨Y.f.k10⟩
instance:Af B 11 ["place", "term"]:=⟨Y.f.k11⟩
instance:Af B 12 ["term", "value"]:=⟨Y.f.k12⟩
instance:Af B 13 ["deeds", "refuses", "tests", "text", "verb"]:=⟨Y.f.k13⟩
instance:Af B 14 ["copied_rules", "kept_dark", "kept_marks", "kept_things", "kept_verbs", "kept_ways", "mosts_by_name", "rules_by_verb", "shared_rules", "shared_verbs", "things_by_name", "verbs_by_word", "your_name", "kept_rules"]:=⟨Y.f.k14⟩
instance:Ic B "At" t_At:=⟨3,ve Y.f.i_At O (B6 16 _) (Bb.at ⟨Y.f.k0.ci,Y.f.k1.ci,Y.f.k2.ci,Y.f.k3.ci,Y.f.k4.ci,Y.f.k5.ci,Y.f.k6.ci,Y.f.k7.ci,Y.f.k8.ci,Y.f.k9.ci,Y.f.k10.ci,Y.f.k11.ci,Y.f.k12.ci,Y.f.k13.ci,Y.f.k14.ci,Y.f.k15.ci,trivial⟩),Y.y.g Y.f.a3⟩
instance:Ic B "Both" Nx:=⟨10,ve Y.f.i_Both O (B6 16 _) (Bb.at ⟨Y.f.k0.ci,Y.f.k1.ci,Y.f.k2.ci,Y.f.k3.ci,Y.f.k4.ci,Y.f.k5.ci,Y.f.k6.ci,Y.f.k7.ci,Y.f.k8.ci,Y.f.k9.ci,Y.f.k10.ci,Y.f.k11.ci,Y.f.k12.ci,Y.f.k13.ci,Y.f.k14.ci,Y.f.k15.ci,trivial⟩),Y.y.g Y.f.a10⟩
instance:Ic B "Has" WN:=⟨4,ve Y.f.i_Has O (B6 16 _) (Bb.at ⟨Y.f.k0.ci,Y.f.k1.ci,Y.f.k2.ci,Y.f.k3.ci,Y.f.k4.ci,Y.f.k5.ci,Y.f.k6.ci,Y.f.k7.ci,Y.f.k8.ci,Y.f.k9.ci,Y.f.k10.ci,Y.f.k11.ci,Y.f.k12.ci,Y.f.k13.ci,Y.f.k14.ci,Y.f.k15.ci,trivial⟩),Y.y.g Y.f.a4⟩
instance:Ic B "Kind" SK:=⟨7,ve Y.f.i_Kind O (B6 16 _) (Bb.at ⟨Y.f.k0.ci,Y.f.k1.ci,Y.f.k2.ci,Y.f.k3.ci,Y.f.k4.ci,Y.f.k5.ci,Y.f.k6.ci,Y.f.k7.ci,Y.f.k8.ci,Y.f.k9.ci,Y.f.k10.ci,Y.f.k11.ci,Y.f.k12.ci,Y.f.k13.ci,Y.f.k14.ci,Y.f.k15.ci,trivial⟩),Y.y.g Y.f.a7⟩
instance:Ic B "Lit" WO:=⟨15,ve Y.f.i_Lit O (B6 16 _) (Bb.at ⟨Y.f.k0.ci,Y.f.k1.ci,Y.f.k2.ci,Y.f.k3.ci,Y.f.k4.ci,Y.f.k5.ci,Y.f.k6.ci,Y.f.k7.ci,Y.f.k8.ci,Y.f.k9.ci,Y.f.k10.ci,Y.f.k11.ci,Y.f.k12.ci,Y.f.k13.ci,Y.f.k14.ci,Y.f.k15.ci,trivial⟩),Y.y.g Y.f.a15⟩
instance:Ic B "Mark" SL:=⟨1,ve Y.f.i_Mark O (B6 16 _) (Bb.at ⟨Y.f.k0.ci,Y.f.k1.ci,Y.f.k2.ci,Y.f.k3.ci,Y.f.k4.ci,Y.f.k5.ci,Y.f.k6.ci,Y.f.k7.ci,Y.f.k8.ci,Y.f.k9.ci,Y.f.k10.ci,Y.f.k11.ci,Y.f.k12.ci,Y.f.k13.ci,Y.f.k14.ci,Y.f.k15.ci,trivial⟩),Y.y.g Y.f.a1⟩
instance:Ic B "Marked" L9:=⟨6,ve Y.f.i_Marked O (B6 16 _) (Bb.at ⟨Y.f.k0.ci,Y.f.k1.ci,Y.f.k2.ci,Y.f.k3.ci,Y.f.k4.ci,Y.f.k5.ci,Y.f.k6.ci,Y.f.k7.ci,Y.f.k8.ci,Y.f.k9.ci,Y.f.k10.ci,Y.f.k11.ci,Y.f.k12.ci,Y.f.k13.ci,Y.f.k14.ci,Y.f.k15.ci,trivial⟩),Y.y.g Y.f.a6⟩
instance:Ic B "Move" SM:=⟨11,ve Y.f.i_Move O (B6 16 _) (Bb.at ⟨Y.f.k0.ci,Y.f.k1.ci,Y.f.k2.ci,Y.f.k3.ci,Y.f.k4.ci,Y.f.k5.ci,Y.f.k6.ci,Y.f.k7.ci,Y.f.k8.ci,Y.f.k9.ci,Y.f.k10.ci,Y.f.k11.ci,Y.f.k12.ci,Y.f.k13.ci,Y.f.k14.ci,Y.f.k15.ci,trivial⟩),Y.y.g Y.f.a11⟩
instance:Ic B "Not" SN:=⟨9,ve Y.f.i_Not O (B6 16 _) (Bb.at ⟨Y.f.k0.ci,Y.f.k1.ci,Y.f.k2.ci,Y.f.k3.ci,Y.f.k4.ci,Y.f.k5.ci,Y.f.k6.ci,Y.f.k7.ci,Y.f.k8.ci,Y.f.k9.ci,Y.f.k10.ci,Y.f.k11.ci,Y.f.k12.ci,Y.f.k13.ci,Y.f.k14.ci,Y.f.k15.ci,trivial⟩),Y.y.g Y.f.a9⟩
instance:Ic B "Put" WQ:=⟨12,ve Y.f.i_Put O (B6 16 _) (Bb.at ⟨Y.f.k0.ci,Y.f.k1.ci,Y.f.k2.ci,Y.f.k3.ci,Y.f.k4.ci,Y.f.k5.ci,Y.f.k6.ci,Y.f.k7.ci,Y.f.k8.ci,Y.f.k9.ci,Y.f.k10.ci,Y.f.k11.ci,Y.f.k12.ci,Y.f.k13.ci,Y.f.k14.ci,Y.f.k15.ci,trivial⟩),Y.y.g Y.f.a12⟩
instance:Ic B "Rule" SO:=⟨13,ve Y.f.i_Rule O (B6 16 _) (Bb.at ⟨Y.f.k0.ci,Y.f.k1.ci,Y.f.k2.ci,Y.f.k3.ci,Y.f.k4.ci,Y.f.k5.ci,Y.f.k6.ci,Y.f.k7.ci,Y.f.k8.ci,Y.f.k9.ci,Y.f.k10.ci,Y.f.k11.ci,Y.f.k12.ci,Y.f.k13.ci,Y.f.k14.ci,Y.f.k15.ci,trivial⟩),Y.y.g Y.f.a13⟩
instance:Ic B "Seen" SQ:=⟨5,ve Y.f.i_Seen O (B6 16 _) (Bb.at ⟨Y.f.k0.ci,Y.f.k1.ci,Y.f.k2.ci,Y.f.k3.ci,Y.f.k4.ci,Y.f.k5.ci,Y.f.k6.ci,Y.f.k7.ci,Y.f.k8.ci,Y.f.k9.ci,Y.f.k10.ci,Y.f.k11.ci,Y.f.k12.ci,Y.f.k13.ci,Y.f.k14.ci,Y.f.k15.ci,trivial⟩),Y.y.g Y.f.a5⟩
instance:Ic B "Thing" OI:=⟨0,ve Y.f.i_Thing O (B6 16 _) (Bb.at ⟨Y.f.k0.ci,Y.f.k1.ci,Y.f.k2.ci,Y.f.k3.ci,Y.f.k4.ci,Y.f.k5.ci,Y.f.k6.ci,Y.f.k7.ci,Y.f.k8.ci,Y.f.k9.ci,Y.f.k10.ci,Y.f.k11.ci,Y.f.k12.ci,Y.f.k13.ci,Y.f.k14.ci,Y.f.k15.ci,trivial⟩),Y.y.g Y.f.a0⟩
instance:Ic B "Verb" SR:=⟨2,ve Y.f.i_Verb O (B6 16 _) (Bb.at ⟨Y.f.k0.ci,Y.f.k1.ci,Y.f.k2.ci,Y.f.k3.ci,Y.f.k4.ci,Y.f.k5.ci,Y.f.k6.ci,Y.f.k7.ci,Y.f.k8.ci,Y.f.k9.ci,Y.f.k10.ci,Y.f.k11.ci,Y.f.k12.ci,Y.f.k13.ci,Y.f.k14.ci,Y.f.k15.ci,trivial⟩),Y.y.g Y.f.a2⟩
instance:Ic B "Word" SU:=⟨8,ve Y.f.i_Word O (B6 16 _) (Bb.at ⟨Y.f.k0.ci,Y.f.k1.ci,Y.f.k2.ci,Y.f.k3.ci,Y.f.k4.ci,Y.f.k5.ci,Y.f.k6.ci,Y.f.k7.ci,Y.f.k8.ci,Y.f.k9.ci,Y.f.k10.ci,Y.f.k11.ci,Y.f.k12.ci,Y.f.k13.ci,Y.f.k14.ci,Y.f.k15.ci,trivial⟩),Y.y.g Y.f.a8⟩
instance:K0f B "Lit" 15:=⟨⟨Y.f.k15.mks,Y.f.n_Lit,Y.f.k15.kp⟩,Y.y.g Y.f.a15⟩
instance:Ij B 16:=⟨injR Y.f.nd⟩
theorem eqL{A:Type}{l:List A}{n:Nat}(h:l.length=n):l.length=n:=h
theorem eqE{e:PySem.Expr}{v:PySem.Env}{r:PySem.Sem PySem.Value}(h:PySem.eval e v=r):PySem.eval e v=r:=h
local macro_rules|`(tactic|trivial)=>do let x:=("zr_l1I acd ab2 ab1 ab3 ab4 OD ab8 Zf ZV ab5 Zd Z3 YY YZ ZZ Z1 ZQ Zh ZC Zk Z4 Y5 Y6 Y7 Y8 Y2 Z2 ab9 Z5 Y3 Z7 Z9 Z0 aaj Zg Ze Zc YX zr_i2I Zp Zq ab6 aab Za Zb Y9 aca acb Zu Y0 Y1 Zv Y4 aag aah aai Z8 aaa aac ab7 Zi Zj aad Zw Zl Zm Zx Zy Zz aae aaf VW VU VX ZD ZJ ZL Zo ZM Zr zr_xeI Zs aat Zt Z6 aaq zr_wxI Zn aal aam aan VT aak".splitOn " ").toArray.map fun s=>Lean.mkIdent (.mkSimple s);`(tactic|repeat' first|(with_reducible intro _)|((with_reducible first|apply eqL|apply eqE);rfl)|kernel_rfl|((with_reducible first|apply ZR|apply ZU);rotate_left 7;rfl)|(with_reducible first $[|apply $x]*)|show pe)
instance:Df B 1 "is_small_letters" (spF B.G xq):=gF4 O Y.f.q25 O (by delta zz;trivial)
instance:Df B 2 "is_name" (spF B.G wN):=gF4 O Y.f.q26 O (by delta JH;trivial)
instance:Df B 2 "is_word" (spF B.G wQ):=gF4 O Y.f.q27 O (by delta JI;trivial)
instance:Df B 1 "is_one_of" (spF B.G uI):=gF4 O Y.f.q28 O (by delta FM;trivial)
instance:Df B 1 "is_whole" (spF B.G xt):=gF4 O Y.f.q29 O (by delta HN;trivial)
instance:Df B 1 "is_list_up_to" (spF B.G uK):=gF4 O Y.f.q30 O (by delta BD;trivial)
instance:Df B 1 "own_list" (spF B.G DA):=gF4 O Y.f.q31 O (by delta HP;trivial)
def Do:Bdz B (nmO (inClass (top 82) 0)) "Thing.__init__" (inClass (top 82) 0) (uG (inClass (top 82) 0)) 0 Bc:=by
 delta Bc;refine OD ?_ ?_
 all_goals trivial
instance:Kf B 1 "Thing" 0 v8 [D.non]:=gJ4 (dds:=[D.non]) Y.f.k0 Y.f.a0 O Y.f.q32 O O Do 0
instance:Kf B 1 "Thing" 0 v8 []:=gJ4 (dds:=[D.non]) Y.f.k0 Y.f.a0 O Y.f.q32 O O Do 1
instance:Kf B 1 "Mark" 1 Cc []:=gI4 Y.f.k1 Y.f.a1 O Y.f.q33 O O (by delta FN;trivial)
def Bw:Bdz B (nmO (inClass (top 84) 0)) "Verb.__init__" (inClass (top 84) 0) (uG (inClass (top 84) 0)) 0 Cd:=by
 delta Cd;refine OD ?_ ?_
 all_goals trivial
instance:Kf B 1 "Verb" 2 vq [D.non,(D.str "one"),D.non]:=gJ4 (dds:=[D.non,(D.str "one"),D.non]) Y.f.k2 Y.f.a2 O Y.f.q34 O O Bw 0
instance:Kf B 1 "Verb" 2 vq [D.non]:=gJ4 (dds:=[D.non,(D.str "one"),D.non]) Y.f.k2 Y.f.a2 O Y.f.q34 O O Bw 2
instance:Kf B 1 "Verb" 2 vq []:=gJ4 (dds:=[D.non,(D.str "one"),D.non]) Y.f.k2 Y.f.a2 O Y.f.q34 O O Bw 3
instance:Kf B 1 "At" 3 CM []:=gI4 Y.f.k3 Y.f.a3 O Y.f.q35 O O (by delta JJ;trivial)
instance:Kf B 1 "Has" 4 yc []:=gI4 Y.f.k4 Y.f.a4 O Y.f.q36 O O (by delta HQ;trivial)
instance:Kf B 1 "Seen" 5 FQ []:=gI4 Y.f.k5 Y.f.a5 O Y.f.q37 O O (by delta FP;trivial)
instance:Kf B 1 "Marked" 6 uL []:=gI4 Y.f.k6 Y.f.a6 O Y.f.q38 O O (by delta Dc;trivial)
instance:Kf B 1 "Kind" 7 wH []:=gI4 Y.f.k7 Y.f.a7 O Y.f.q39 O O (by delta FR;trivial)
instance:Kf B 1 "Word" 8 Ce []:=gI4 Y.f.k8 Y.f.a8 O Y.f.q40 O O (by delta FU;trivial)
instance:Kf B 1 "Not" 9 vR []:=gI4 Y.f.k9 Y.f.a9 O Y.f.q41 O O (by delta HR;trivial)
instance:Kf B 1 "Both" 10 FW []:=gI4 Y.f.k10 Y.f.a10 O Y.f.q42 O O (by delta FV;trivial)
instance:Kf B 1 "Move" 11 wI []:=gI4 Y.f.k11 Y.f.a11 O Y.f.q43 O O (by delta FX;trivial)
instance:Kf B 1 "Put" 12 xu []:=gI4 Y.f.k12 Y.f.a12 O Y.f.q44 O O (by delta HS;trivial)
instance:Kf B 2 "Rule" 13 wJ []:=gJ4 (dds:=[(D.bl δ)]) Y.f.k13 Y.f.a13 O Y.f.q45 O O (by delta FY;trivial) 1
instance:Mf B 9 "can_hold" uJ:=⟨λc h e=>by
 delta uJ at e;split at e
 .ext e;show hF4 (k:=8) Y.f.k0 O Y.f.q46 O (by delta AJ;trivial)
 .ext e⟩
instance:Mf B 9 "has_mark" vY:=⟨λc h e=>by
 delta vY at e;split at e
 .ext e;show hF4 (k:=8) Y.f.k0 O Y.f.q47 O (by delta AK;trivial)
 .ext e⟩
instance:Mf B 9 "is_plainly" uP:=⟨λc h e=>by
 delta uP at e;split at e
 .ext e;show hF4 (k:=8) Y.f.k0 O Y.f.q48 O (by delta zA;trivial)
 .ext e⟩
instance:Df B 1 "refuse_unless" (spF B.G tS):=gF4 O Y.f.q49 O (by delta BE;trivial)
instance:Df B 1 "count_of" (spF B.G Bd):=gF4 O Y.f.q50 O (by delta HU;trivial)
instance:Df B 10 "plain_ones" (spN B.G wR):=gN4 O Y.f.q51 O (by delta Er;trivial)
instance:Df B 2 "is_mark" (spF B.G Fd):=gF4 O Y.f.q52 O (by delta Fc;trivial)
instance:Df B 11 "check_things" (spF B.G zC):=gF4 O Y.f.q53 O (by delta zB;trivial)
instance:Df B 3 "check_marks" (spF B.G Aj):=gF4 O Y.f.q54 O (by delta Ai;trivial)
instance:Df B 1 "are_unlike" (spF B.G wa):=gF4 O Y.f.q55 O (by delta Es;trivial)
instance:Df B 3 "check_names" (spF B.G Al):=gF4 O Y.f.q56 O (by delta Ak;trivial)
instance:Df B 10 "mark_names" (spN B.G wU):=gN4 O Y.f.q57 O (by delta Et;trivial)
instance:Df B 10 "is_start" (spF B.G DC):=gF4 O Y.f.q58 O (by delta DB;trivial)
instance:Df B 1 "comes_to_room_checks" (spF B.G wb):=gA4 O Y.f.q59 O (by delta xU;trivial)
instance:Df B 11 "check_starts" (spF B.G zF):=gF5 ["things", "starts", "thing"] O Y.f.q60 O (by delta zD;trivial)
instance:Df B 3 "are_words" (spF B.G zX):=gF4 O Y.f.q61 O (by delta FZ;trivial)
instance:Df B 1 "has_all" (spF B.G AM):=gF4 O Y.f.q62 O (by delta JK;trivial)
instance:Df B 2 "is_told_apart" (spF B.G yO):=gF4 O Y.f.q63 O (by delta yN;trivial)
instance:Df B 11 "check_words_of_things" (spF B.G v3):=gF4 O Y.f.q64 O (by delta vZ;trivial)
instance:Df B 2 "check_dark" (spF B.G Bf):=gF4 O Y.f.q65 O (by delta Be;trivial)
instance:Df B 3 "is_way" (spF B.G HW):=gF4 O Y.f.q66 O (by delta HV;trivial)
instance:Df B 4 "check_ways" (spF B.G Bi):=gF4 O Y.f.q67 O (by delta Bh;trivial)
instance:Df B 3 "is_verb" (spF B.G JM):=gF4 O Y.f.q68 O (by delta JL;trivial)
instance:Df B 4 "check_verbs" (spF B.G yq):=gF4 O Y.f.q69 O (by delta De;trivial)
instance:Df B 1 "are_apart" (spF B.G yD):=gF4 O Y.f.q70 O (by delta F0;trivial)
instance:Df B 11 "check_vocabulary" (spF B.G wc):=gF4 O Y.f.q71 O (by delta xx;trivial)
instance:Df B 12 "check_parts" (spF B.G An):=gF4 O Y.f.q72 O (by delta Am;trivial)
instance:Df B 4 "does" (spF B.G zG):=gF4 O Y.f.q73 O (by delta SV;trivial)
instance:Df B 4 "refuses" (spF B.G uZ):=gF4 O Y.f.q74 O (by delta JN;trivial)
instance:Df B 5 "hand_rules" (spN B.G Bj):=gN4 O Y.f.q75 O (by delta Eu;trivial)
instance:Df B 5 "put_rules" (spN B.G Cf):=gN4 O Y.f.q76 O (by delta F1;trivial)
instance:Df B 5 "lid_rules" (spN B.G Cg):=gN4 O Y.f.q77 O (by delta F2;trivial)
instance:Df B 5 "flame_rules" (spN B.G Ao):=gN4 O Y.f.q78 O (by delta Dg;trivial)
instance:Df B 3 "way_tests" (spN B.G Ci):=gN4 O Y.f.q79 O (by delta F3;trivial)
instance:Df B 5 "go_rules" (spN B.G DF):=gN4 O Y.f.q80 O (by delta DE;trivial)
instance:Df B 5 "wait_rules" (spN B.G Ex):=gN4 O Y.f.q81 O (by delta Ew;trivial)
instance:Df B 6 "common_rules" (spN B.G zH):=gN4 O Y.f.q82 O (by delta Cj;trivial)
instance:Df B 3 "common_verbs" (spN B.G xV):=gN4 O Y.f.q83 O (by delta Ck;trivial)
instance:Df B 1 "by_name" (spF B.G Fg):=gF4 O Y.f.q84 O (by delta Fe;trivial)
instance:Df B 10 "mosts_by_name" (spF B.G yQ):=gF4 O Y.f.q85 O (by delta yP;trivial)
instance:Df B 1 "verbs_by_word" (spF B.G yR):=gF4 O Y.f.q86 O (by delta BF;trivial)
instance:Df B 1 "by_verb" (spF B.G JP):=gF4 O Y.f.q87 O (by delta JO;calc⟨Qc (stW (by kernel_rfl) Lq O) (QM pe O (LJ (Ly B.G.K (MS (pvI (by kernel_rfl))))) (pgI (by kernel_rfl)) (Ki (NX (Re B.G.K jg kz n4 EX (Sj (pvI (by kernel_rfl)) (Rw (MS (pvI (by kernel_rfl))) (Ff.p (B:=B))) (QW zq) ⟨O,O,O,O⟩) (wu (pvI (by kernel_rfl)) zq))))) (ME (PE.ghost (pvI (by kernel_rfl))))⟩)
instance:Mf B 9 "of_kind" vC:=⟨λc h e=>by
 delta vC at e;split at e
 .ext e;show hF4 (k:=8) Y.f.k14 O Y.f.q88 O (by delta BG;trivial)
 .ext e⟩
instance:Mf B 9 "all_verbs" wj:=⟨λc h e=>by
 delta wj at e;split at e
 .ext e;show hF4 (k:=8) Y.f.k14 O Y.f.q89 O (by delta zY;trivial)
 .ext e⟩
instance:Df B 1 "is_same_text" (spF B.G vF):=gF4 O Y.f.q90 O (by delta Cn;trivial)
instance:Df B 4 "copy_of" (spF B.G Fh):=gF4 O Y.f.q91 O (by delta JQ;trivial)
instance:Mf B 9 "thing_of" tJ:=⟨λc h e=>by
 delta tJ at e;split at e
 .ext e;show hF4 (k:=8) Y.f.k14 O Y.f.q92 O (by delta AN;trivial)
 .ext e⟩
instance:Mf B 9 "most_of" uM:=⟨λc h e=>by
 delta uM at e;split at e
 .ext e;show hF4 (k:=8) Y.f.k14 O Y.f.q93 O (by delta BH;trivial)
 .ext e⟩
instance:Mf B 9 "verb_of" uR:=⟨λc h e=>by
 delta uR at e;split at e
 .ext e;show hF4 (k:=8) Y.f.k14 O Y.f.q94 O (by delta BI;trivial)
 .ext e⟩
instance:Mf B 9 "you" xB:=⟨λc h e=>by
 delta xB at e;split at e
 .ext e;show hF4 (k:=8) Y.f.k14 O Y.f.q95 O (by delta F4;trivial)
 .ext e⟩
instance:Df B 2 "is_by_command" (spF B.G uS):=gF4 O Y.f.q96 O (by delta BJ;trivial)
instance:Df B 2 "is_here" (spF B.G ye):=gF4 O Y.f.q97 O (by delta JR;trivial)
instance:Df B 10 "named" (spF B.G yX):=gF4 O Y.f.q98 O (by delta OK;trivial)
instance:Df B 11 "is_of_kind" (spF B.G yY):=gF4 O Y.f.q99 O (by delta Ey;trivial)
instance:Df B 11 "is_term" (spF B.G AO):=gF4 O Y.f.q100 O (by delta JS;trivial)
instance:Df B 11 "is_place" (spF B.G Bk):=gF4 O Y.f.q101 O (by delta DG;trivial)
instance:Df B 12 "is_moved" (spF B.G DI):=gF4 O Y.f.q102 O (by delta DH;trivial)
instance:Df B 10 "is_mark_value" (spF B.G xj):=gF4 O Y.f.q103 O (by delta xi;trivial)
instance:Df B 13 "is_move" (spF B.G Fj):=gF4 O Y.f.q104 O (by delta Fi;trivial)
instance:Df B 1 "is_said" (spF B.G AQ):=gF4 O Y.f.q105 O (by delta JT;trivial)
instance:Df B 10 "is_verb_name" (spF B.G zI):=gF4 O Y.f.q106 O (by delta Cp;trivial)
instance:Df B 1 "does_or_refuses" (spF B.G xW):=gF4 O Y.f.q107 O (by delta zZ;trivial)
instance:Df B 12 "is_plain_test" (spF B.G yT):=gF4 O Y.f.q108 O (by delta vw;trivial)
instance:Df B 1 "is_test" (spF B.G (xD 0)):=gF4 (k:=0) O Y.f.q109 O (by trivial)
instance:Df B 13 "is_test" (spF B.G (xD 1)):=gF4 (k:=12) O Y.f.q109 O (by delta xC;trivial)
instance:Df B 14 "is_test" (spF B.G (xD 2)):=gF4 (k:=13) O Y.f.q109 O (by delta xC;trivial)
instance:Df B 15 "is_test" (spF B.G (xD 3)):=gF4 (k:=14) O Y.f.q109 O (by delta xC;trivial)
instance:Df B 16 "is_test" (spF B.G (xD 4)):=gF4 (k:=15) O Y.f.q109 O (by delta xC;trivial)
instance:Df B 14 "is_deed" (spF B.G Fk):=gF4 O Y.f.q110 O (by delta CN;trivial)
instance:Df B 18 "are_tests" (spF B.G Cq):=gF4 O Y.f.q111 O (by delta F6;trivial)
instance:Df B 15 "are_deeds" (spF B.G Cr):=gF4 O Y.f.q112 O (by delta F7;trivial)
instance:Df B 19 "is_rule" (spF B.G Fm):=gF4 O Y.f.q113 O (by delta Fl;trivial)
instance:Kf B 20 "World" 14 xY []:=gI4 Y.f.k14 Y.f.a14 O Y.f.q114 O O (by delta xX;trivial)
instance:Mf B 9 "is_dark" yt:=⟨λc h e=>by
 delta yt at e;split at e
 .ext e;show hF4 (k:=8) Y.f.k14 O Y.f.q115 O (by delta BK;trivial)
 .ext e⟩
instance:Mf B 9 "own_marks" yU:=⟨λc h e=>by
 delta yU at e;split at e
 .ext e;show hF4 (k:=8) Y.f.k14 O Y.f.q116 O (by delta z6;trivial)
 .ext e⟩
instance:Mf B 9 "names" u7:=⟨λc h e=>by
 delta u7 at e;split at e
 .ext e;show hF4 (k:=8) Y.f.k14 O Y.f.q117 O (by delta Dh;trivial)
 .ext e⟩
instance:Mf B 9 "way_words" wm:=⟨λc h e=>by
 delta wm at e;split at e
 .ext e;show hF4 (k:=8) Y.f.k14 O Y.f.q118 O (by delta z7;trivial)
 .ext e⟩
instance:Mf B 9 "rules_to_try" xy:=⟨λc h e=>by
 delta xy at e;split at e
 .ext e;show hF4 (k:=8) Y.f.k14 O Y.f.q119 O (by delta yE;trivial)
 .ext e⟩
instance:Mf B 12 "parts" uW:=⟨λc h e=>by
 delta uW at e;split at e
 .ext e;show hF4 (k:=11) Y.f.k14 O Y.f.q120 O (by delta Di;trivial)
 .ext e⟩
instance:Df B 10 "own_starts" (spF B.G Bl):=gF4 O Y.f.q121 O (by delta EB;trivial)
instance:Df B 10 "first_value" (spF B.G w9):=gF4 O Y.f.q122 O (by delta Dj;trivial)
instance:Df B 13 "first_stand" (spF B.G xf):=gF4 O Y.f.q123 O (by delta Dk;trivial)
instance:Df B 1 "value_of" (spF B.G Bm):=gF4 O Y.f.q124 O (by delta HX;trivial)
instance:Df B 2 "at_of" (spF B.G vI):=gF4 O Y.f.q125 O (by delta OL;trivial)
instance:Df B 2 "mark_of" (spF B.G xE):=gF4 O Y.f.q126 O (by delta JU;trivial)
instance:Df B 1 "with_part" (spF B.G v7):=gF4 O Y.f.q127 O (by delta F8;trivial)
instance:Df B 3 "holders_of" (spN B.G wV):=gN4 O Y.f.q128 O (by delta EC;trivial)
instance:Df B 10 "room_of" (spF B.G zi):=gF4 O Y.f.q129 O (by delta JV;trivial)
instance:Df B 10 "has" (spF B.G SW):=gF4 O Y.f.q130 O (by delta WR;trivial)
instance:Df B 10 "is_shut" (spF B.G yf):=gF4 O Y.f.q131 O (by delta JW;trivial)
instance:Df B 11 "in_open" (spF B.G yg):=gF4 O Y.f.q132 O (by delta JX;trivial)
instance:Df B 12 "burns_in" (spF B.G zJ):=gF4 O Y.f.q133 O (by delta HY;trivial)
instance:Df B 13 "is_lit" (spF B.G ED):=gF4 O Y.f.q134 O (by delta Ma;trivial)
instance:Df B 14 "is_seen" (spF B.G wt):=gF4 O Y.f.q135 O (by delta JY;trivial)
instance:Df B 10 "is_of_way" (spF B.G yF):=gF4 O Y.f.q136 O (by delta F9;trivial)
instance:Df B 11 "things_of" (spF B.G u9):=gF4 O Y.f.q137 O (by delta Ga;trivial)
instance:Df B 12 "meant" (spF B.G vd):=gF4 O Y.f.q138 O (by delta OM;trivial)
instance:Df B 10 "at_parts" (spF B.G DJ):=gF4 O Y.f.q139 O (by delta HZ;trivial)
instance:Df B 10 "mark_parts" (spF B.G yZ):=gF4 O Y.f.q140 O (by delta EE;trivial)
instance:Df B 11 "can_go" (spF B.G EF):=gF4 O Y.f.q141 O (by delta Mb;trivial)
instance:Df B 11 "can_show" (spF B.G DL):=gF4 O Y.f.q142 O (by delta Ia;trivial)
instance:Mf B 16 "holds" (ug 0):=⟨λc h e=>by
 delta ug Bn at e;split at e
 .ext e;show hF4 (k:=15) Y.f.k3 O Y.f.q143 O (by delta Ib;trivial)
 .ext e;show hF4 (k:=15) Y.f.k4 O Y.f.q144 O (by delta Gb;trivial)
 .ext e;show hF4 (k:=15) Y.f.k5 O Y.f.q145 O (by delta EG;trivial)
 .ext e;show hF4 (k:=15) Y.f.k6 O Y.f.q146 O (by delta Cs;trivial)
 .ext e;show hF4 (k:=15) Y.f.k7 O Y.f.q147 O (by delta EI;trivial)
 .ext e;show hF4 (k:=15) Y.f.k8 O Y.f.q148 O (by delta EK;trivial)
 .ext e;show hF4 (k:=15) Y.f.k15 O Y.f.q149 O (by delta Ge;trivial)
 .ext e⟩
instance:Mf B 17 "holds" (ug 1):=⟨λc h e=>by
 delta ug at e;split at e
 .ext e;show hF4 (k:=16) Y.f.k9 O Y.f.q150 O (by delta yG;trivial)
 .ext e;show hF4 (k:=16) Y.f.k10 O Y.f.q151 O (by delta wW;trivial)
 .show(Mf.p (B:=B) (g:=ug 0) c h e).mono O⟩
instance:Mf B 18 "holds" (ug 2):=⟨λc h e=>by
 delta ug at e;split at e
 .ext e;show hF4 (k:=17) Y.f.k9 O Y.f.q150 O (by delta yG;trivial)
 .ext e;show hF4 (k:=17) Y.f.k10 O Y.f.q151 O (by delta wW;trivial)
 .show(Mf.p (B:=B) (g:=ug 0) c h e).mono O⟩
instance:Mf B 19 "holds" (ug 3):=⟨λc h e=>by
 delta ug at e;split at e
 .ext e;show hF4 (k:=18) Y.f.k9 O Y.f.q150 O (by delta yG;trivial)
 .ext e;show hF4 (k:=18) Y.f.k10 O Y.f.q151 O (by delta wW;trivial)
 .show(Mf.p (B:=B) (g:=ug 0) c h e).mono O⟩
instance:Mf B 14 "done" yh:=⟨λc h e=>by
 delta yh at e;split at e
 .ext e;show hF4 (k:=13) Y.f.k11 O Y.f.q152 O (by delta Gg;trivial)
 .ext e;show hF4 (k:=13) Y.f.k12 O Y.f.q153 O (by delta Ie;trivial)
 .ext e⟩
instance:Df B 10 "is_object" (spF B.G xF):=gF4 O Y.f.q154 O (by delta Gh;trivial)
instance:Df B 11 "fits_form" (spF B.G Ct):=gF4 O Y.f.q155 O (by delta Gi;trivial)
instance:Df B 12 "is_command" (spF B.G Bo):=gF4 O Y.f.q156 O (by delta EM;trivial)
instance:Df B 13 "check_command" (spF B.G xk):=gF4 O Y.f.q157 O (by delta BL;trivial)
instance:Df B 20 "fits" (spF B.G Fn):=gF4 O Y.f.q158 O (by delta SX;trivial)
instance:Df B 15 "outcome" (spF B.G zj):=gF4 O Y.f.q159 O (by delta JZ;trivial)
instance:Df B 21 "answered" (spF B.G DO):=gF4 O Y.f.q160 O (by delta Ig;trivial)
instance:Df B 22 "step" (spF B.G Bp):=gF4 O Y.f.q161 O (by delta SY;trivial)
instance:Df B 10 "objects_of" (spN B.G we):=gN4 O Y.f.q162 O (by delta wX;trivial)
instance:Df B 11 "commands" (spN B.G Bq):=gN4 O Y.f.q163 O (by delta DP;trivial)
instance:Df B 3 "comes_to_room_stands" (spF B.G vB):=gA4 O Y.f.q164 O (by delta x3;trivial)
instance:Df B 1 "is_two" (spF B.G AR):=gF4 O Y.f.q165 O (by delta Mc;trivial)
instance:Df B 2 "is_part" (spF B.G AS):=gF4 O Y.f.q166 O (by delta J0;trivial)
instance:Df B 10 "is_holder" (spF B.G Cu):=gF4 O Y.f.q167 O (by delta Gj;trivial)
instance:Df B 11 "is_value" (spF B.G yi):=gF4 O Y.f.q168 O (by delta Ih;trivial)
instance:Df B 13 "is_stand" (spF B.G yj):=gF4 O Y.f.q169 O (by delta Ii;trivial)
instance:Df B 1 "_law_cell_at" (spF B.G vt):=gF4 O Y.f.q170 O (by delta Cv;trivial)
instance:Df B 1 "_law_draws" (spN B.G y6):=gN4 O Y.f.q171 O (by delta y4;trivial)
instance:Df B 3 "_law_things" (spF B.G Ar):=gF5 ["_law_xs", "_law_rooms", "_law_things_here", "_law_holders", "_law_rows", "_law_k", "_law_drawn", "_law_kind", "_law_start_here"] O Y.f.q172 O (by delta Aq;trivial)
instance:Df B 1 "_law_term" (spF B.G yH):=gF4 O Y.f.q173 O (by delta Cw;trivial)
instance:Df B 3 "_law_test" (spF B.G Aa):=gF4 O Y.f.q174 O (by delta z9;trivial)
instance:Df B 3 "_law_deed" (spF B.G Ac):=gF4 O Y.f.q175 O (by delta Ab;trivial)
instance:Df B 4 "_law_rules" (spF B.G Bs):=gF4 O Y.f.q176 O (by delta Br;trivial)
instance:Df B 22 "_law_world" (spF B.G Bu):=gF4 O Y.f.q177 O (by delta Bt;trivial)
instance:Df B 14 "_law_start" (spF B.G y7):=gF4 O Y.f.q178 O (by delta Bv;trivial)
instance:Df B 10 "_law_is_tree" (spF B.G x4):=gF4 O Y.f.q179 O (by delta Cy;trivial)
def Ue:Bdz B (nmO (top 176)) "law" (top 176) (uG (top 176)) 22 ON:=by
 delta ON;refine OD ?_ ?_
 all_goals trivial
end
end K91x
namespace K91x
open PySem L2 L3 L4
def Pe(K:av):Sp:=λvs H Q _=>∃(a:Addr) (ns:List Int),vs=[.ref a]/\SqL K H a (ns.map V.int)/\ns.length<=63/\∀H',Q (.bl γ) H'
theorem Ke{G:Bg}{H:Hp}:∀ns:List Int,Reps G H (ns.map D.int) (ns.map V.int)
 |[]=>uy
 |n::ns=>uD (wK n) (Ke ns)
def Wr{G:Bg}:∀vs H Q E,Pe G.K vs H Q E->spF G WS vs H Q E:=λvs H Q E h=>by let#v[a,ns,rfl,hs,hl,k]:=h;calc⟨H,[.fzl (ns.map D.int)],.bl γ,ue.refl _,uD (by delta L4.Rep;show⟨a,_,O,hs,Ke ns⟩) uy,aaY ns hl,λv H0' H' _ _ _ _ r=>?_⟩;delta L4.Rep at r;subst r;show k H'
section
variable{K:av}{x m q:Str}{st:Stmt}{f C:Addr}{oc:ae}{od:Option Addr}{kV doc pm:ae}{an:Option Addr}{cdv ct:ae}{osl:Array (Option ae)}
def Ug(lk:K.lookup f=Z ⟨oc,od,.func (eD x q (xH st) (uG st) (uh st) .none kV doc pm an cdv ct),osl⟩)(hc:gA K cdv q=γ)(kp:dU K (.ref f)=γ):∃fd,Fun K x q st f fd:=⟨_,⟨_,_,_,_,_,_,_,_,_,O,lk,hc⟩,kp⟩
def gd_mk(h:gH K aX x=Z (Z (.ref f)))(lk:K.lookup f=Z ⟨oc,od,.func (eD x x (xH st) (uG st) (uh st) .none kV doc pm an cdv ct),osl⟩)(hc:gA K cdv x=γ)(kp:dU K (.ref f)=γ):GD K x st:=⟨f,(Ug lk hc kp).imp λ_ F=>⟨h,F⟩⟩
def gm_mk(h:cR K (.ref C) m=Z (Z (.ref f)))(hf:jD K (.ref f)=γ)(lk:K.lookup f=Z ⟨oc,od,.func (eD m q (xH st) (uG st) (uh st) .none kV doc pm an cdv ct),osl⟩)(hc:gA K cdv q=γ)(kp:dU K (.ref f)=γ):GM K C m q st:=⟨f,(Ug lk hc kp).imp λ_ F=>⟨h,hf,F⟩⟩
end
theorem all_mk{l:gB}{w:aF}{K:av}{h:Heap}{mg:Str->Option ae}{fa:Addr}(X:K.In h)(Gn:h.Ns aX mg)(hfa:mg "law" = Z (.ref fa)){C0 C1 C2 C3 C4 C5 C6 C7 C8 C9 C10 C11 C12 C13 C14 C15:Addr}(F:Fx K C0 C1 C2 C3 C4 C5 C6 C7 C8 C9 C10 C11 C12 C13 C14 C15):
  ∃fd:cv,(∀(s:af) (v:ae),gG s fd ⟨[v],[]⟩ [("_law_script", v)])/\∀base:Heap,K.In base->base.Ns aX mg->x9 l.prog w K mg base CX0 23 fa fd ["_law_script"] (Pe K):=by
 have gen:∃B:Bg,B.K=K/\B.ca 0=C0/\B.ca 1=C1/\B.ca 2=C2/\B.ca 3=C3/\B.ca 4=C4/\B.ca 5=C5/\B.ca 6=C6/\B.ca 7=C7/\B.ca 8=C8/\B.ca 9=C9/\B.ca 10=C10/\B.ca 11=C11/\B.ca 12=C12/\B.ca 13=C13/\B.ca 14=C14/\B.ca 15=C15:=⟨⟨K,λc=>[C0,C1,C2,C3,C4,C5,C6,C7,C8,C9,C10,C11,C12,C13,C14,C15].getD c 0⟩,O,O,O,O,O,O,O,O,O,O,O,O,O,O,O,O,O⟩;let#v[B,rfl,rfl,rfl,rfl,rfl,rfl,rfl,rfl,rfl,rfl,rfl,rfl,rfl,rfl,rfl,rfl,rfl]:=gen;have AT:∀base,Yx ⟨l.prog,w,mg,base,B⟩:=λbase=>⟨⟨h,X,Gn⟩,F⟩;let#v[f,fd,a,FF]:=F.q180;have e:=hfa.symm.trans (iH X Gn a);ext e;let#v[oc,od,kV,doc,pm,an,cdv,ct,osl,rfl,lk,hcd]:=FF.ex;show⟨_,λs v=>.of_eq O,λbase _ _=>(Oj O O O FF (okk (N:=nmO (top 176)) (ps:=["_law_script"]) (np:=1) (n:=8) (by kernel_rfl)).1 ((@Ue _ (AT base)).ok O _)).imp (Wr (G:=B))⟩
def walk{l:gB}{q:aO}{loose:aH}{XP:(Str->Option ae)->Heap->Prop}{YP:aF->Heap->Prop}{d:DefRec}{K:Params->av}(hn:l.most=Z 63)(hdf:d.params.defaults=[])
  (hY:∀(w:aF) (h:Heap),YP w h->(K w.params).In h)
  (F:∀(w:aF) (mg:Str->Option ae) (fa:Addr) (h:Heap),(K w.params).In h->h.Ns aX mg->mg d.name=Z (.ref fa)->
   ∃fd:cv,(∀(s:af) (u:ae),gG s fd ⟨[u],[]⟩ [("_law_script", u)])/\∀base:Heap,(K w.params).In base->base.Ns aX mg->x9 l.prog w (K w.params) mg base CX0 23 fa fd ["_law_script"] (Pe (K w.params))):
  W.WalkO q loose XP YP l.row.toRowW d [] (λf vs=>l7 f vs):=
 L2.UN (n:=63) (k:=23) (x:="_law_script") (CX:=λ_=>CX0) (sp:=λw=>Pe (K w.params)) hn #[] hdf ⟨O,by decide,by decide⟩ hY F (λ_ _ a ns hl _ hS=>⟨a,ns,O,hS,hl,λ_=>O⟩) λ_ _ _ _ _ z=>z
end K91x
set_option maxHeartbeats 0
open PySem PySem.W PyProof.Rows
theorem PySem.Challenge.cw_tellworld_k91_whole_one_place_and_no_rin_holds : PySem.Challenge.rw_tellworld_k91_whole_one_place_and_no_rin.Holds := by
 refine hd ?_
 k_fill
 refine K91x.walk (l:=PySem.Challenge.rw_tellworld_k91_whole_one_place_and_no_rin) rfl rfl (λw h Y=>Y) ?F
 case F=>
  intro w mg fa h KX G hmg;refine' K91x.all_mk KX G hmg ?Q
  case Q=>
   constructor
   all_goals as_aux_lemma=>first
   |k_is
   |kernel_rfl
   |exact⟨⟨⟨by k_is,by k_is,by k_is,by k_is⟩,by k_is,by k_is,by k_is,by k_is⟩,by k_is,by k_is,by kernel_rfl⟩
   |exact⟨_,by k_is⟩
   |exact K91x.gd_mk (by k_is) (by k_is) (by k_is) (by k_is)
   |exact⟨_,_,by k_is,⟨_,_,_,_,_,_,_,_,_,rfl,by k_is,by k_is⟩,by k_is⟩
   |exact K91x.gm_mk (by k_is) (by k_is) (by k_is) (by k_is) (by k_is)
   |exact⟨_,_,_,_,by k_is,by k_is,by rfl,by rfl,by simp,by repeat' first|exact .nil|exact .cons rfl .nil|refine .cons rfl ?_⟩
   |exact⟨_,_,_,_,[_],_,by k_is,by k_is,⟨⟨_,_,_,_,_,_,_,_,_,rfl,by k_is,by k_is⟩,by k_is⟩,by k_is,by rfl,.cons (by first|rfl|exact⟨_,rfl⟩) .nil⟩
   |exact⟨_,_,_,_,[_,_,_],_,by k_is,by k_is,⟨⟨_,_,_,_,_,_,_,_,_,rfl,by k_is,by k_is⟩,by k_is⟩,by k_is,by rfl,.cons (by first|rfl|exact⟨_,rfl⟩) (.cons (by first|rfl|exact⟨_,rfl⟩) (.cons (by first|rfl|exact⟨_,rfl⟩) .nil))⟩
end
