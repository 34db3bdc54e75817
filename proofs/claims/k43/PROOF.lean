import PyProof.Rows.All
import Open.Pieces
import OpenK.KLine
import PySem.Challenge.RW_tellworld_k43_phrases
import PyProof.EqAt
import PyProof.EqKinds
import PyProof.TupleCall
import PyProof.StrWalks
import PyProof.ConsumeWalk
import PyProof.NeKinds
import PyProof.Rows.SetFrom
import KE.KIsAll
import PyProof.WalksMore
import PyProof.TupleKey
import PyProof.DictWalks
import PyProof.Rows.ZipGen
import KE.KDictLaws
import PyProof.DictItems
import KE.KSortTup
import PyProof.TupleOfSeq
import PyProof.Rows.SortStr
import PyProof.Rows.StrInSeq3
import PyProof.TupleIter
import KE.KDictOf
import PyProof.CollectWalk
import PyProof.Rows.SeqMore
import PyProof.IsiH_tuple
import PyProof.AttrMiss
import PyProof.Rows.Tup
import PyProof.WalksS
import PyProof.DictRoadsH
import PyProof.EnumIter
import PyProof.EnumFor
import PyProof.EnumMake
import PyProof.EnumStmt
import PyProof.Rows.StrJoin2
import PyProof.AutoSeq1
set_option genSizeOf false
set_option compiler.extract_closed false
local macro_rules|`(#v[$a,*])=>`(⟨$a,*⟩)
local macro_rules (kind:=Lean.Parser.Command.in)|s=>do
 if s[0][1].getId != `r then Lean.Macro.throwUnsupported
 return Lean.mkNullNode (((s[0][3].isStrLit?.getD "").splitOn ";").toArray.map fun l=>
  let w:=l.splitOn " "
  let f:=fun z:String=>match z.splitOn "ϑ" with
   |a::b=>a++"".intercalate (b.map fun x=>w.getD (x.front.toNat-48) ""++(x.drop 1).toString)
   |_=>z
  s[2].rewriteBottomUp fun t=>match t with
   |.ident i _ n _=>
    let y:=n.toString
    if y.contains 'ϑ' then let y:=f y;if y.front.isDigit then .node i `num #[.atom i y] else Lean.mkIdentFrom t y.toName else t
   |.atom i x=>.atom i (f x)
   |_=>t)
local macro_rules (kind:=Lean.Parser.Command.set_option)|s=>if s[1].getId= `h then return s.setArg 1 (Lean.mkIdent `tactic.hygienic) else Lean.Macro.throwUnsupported
local macro_rules (kind:=Lean.Parser.Command.declaration)|s=>do
 if s.getPos?.isNone||s[1][1][0].getId.getRoot== `PySem then Lean.Macro.throwUnsupported
 let s:=s.rewriteBottomUp (·.setInfo .none)
 if s[1].getKind∈[``Lean.Parser.Command.definition,``Lean.Parser.Command.abbrev,``Lean.Parser.Command.instance]&&s[0][4].isNone then
  return s.setArg 0 (s[0].setArg 4 (Lean.mkNullNode #[Lean.Syntax.node .none ``Lean.Parser.Command.noncomputable #[Lean.mkAtom "noncomputable"]]))
 return s
set_option bootstrap.genMatcherCode false
noncomputable section
open Option renaming some->Z,none->U
open Bool renaming true->γ,false->δ
def O{b:Sort _}{a:b}:a=a:=rfl
open List renaming length_map->af,length_append->aA,getElem?_eq_getElem->aP,mem_map->aw,all_eq_true->aK,mem_filter->aO,length_cons->aS,mem_cons_of_mem->bb,mem_cons->aJ,mem_cons_self->ba,getD_eq_getElem?_getD->bN,map_append->aV,mem_append->aW,mem_append_right->bB,size_toArray->bf,range->aB,mem_singleton->br,map_cons->aU,getElem?_map->bq,mem_append_left->bJ,map_map->aX,getElem?_eq_some_iff->cj,length_range->bK,mem_range->bx,mem_map_of_mem->bY,mem_of_getElem?->cf,length_filter_le->cq,not_mem_nil->bU,append_assoc->cc,append_nil->bZ,nodup_append->cn,length_singleton->cR,getElem?_set->cE,length_take->cA,length_replicate->c6,nil_append->cB,mergeSort_perm->dq,length_drop->cW,filterMap_cons->dG,mem_flatMap->c8,getElem?_append_right->f9,length_eq_zero_iff->fK,getElem?_append_left->gb,length_nil->du,getElem?_drop->eL,nodup_cons->dO,take_of_length_le->gh,drop_eq_getElem_cons->ic,length->cO,getElem?_eq_none->gj,zip_cons_cons->fM,lookup_cons->eU,length_pos_of_mem->ik,flatMap_cons->fO,find?_cons->eX,any_eq_true->fP,replicate->eZ,take_add_one->gu,pairwise_mergeSort->iU,map_nil->eh,zipWith_cons_cons->iX,filter_eq_nil_iff->iZ,lookup->dP,map_drop->fj,map_take->fw,getElem_mem->gv,filter_cons->gx,mem_filterMap->iq,length_set->gB,zipWith->fz,idxOf_lt_length_iff->jC,getElem?_replicate->jD,map->c5,filter_cons_of_pos->jF,getElem?_set_self->jG,length_zip->iw,all_cons->gH,any_cons->gL,getElem?_toArray->jH,perm_append_singleton->k9,map_congr_left->jK,foldl_cons->jf,filter_cons_of_neg->lp,map_id->gU,take_sublist->jO,reverse_cons->jP,contains_iff_mem->lu,take_append_drop->ly,getElem_inj->jU,cons_append->jX,zip_map'->ji,getElem?_set_ne->lA,mem_iff_getElem->lC,mem_of_mem_drop->lG,length_take_le'->lI,of_mem_zip->j3,range_succ->j5,getElem?_range->lL,length_zipWith->lQ,getElem_of_mem->lS,length_reverse->lX,filter_sublist->lY,take_sublist_take_left->oH,find?_eq_none->mh,filter_append->mm,mem_of_find?_eq_some->oQ,ext_getElem?->mx,pairwise_map->mH,length_erase_of_mem->oV,drop_length->mN,take_length->mQ,drop_eq_nil_of_le->o7,zip_append->mT,find?_some->mV,filterMap_append->pf,nodup_nil->m7,mem_erase_of_ne->pA,length_eraseIdx->pB,mem_of_mem_take->pC,filter_eq_self->pL,length_pos_iff->pM,perm_singleton->pO,contains_cons->pV,map_filterMap->pZ,getElem_idxOf->p8,getElem_range->qa,any_eq_false->qb,foldl_append->qe,filter_congr->qp,head?_filter->qr,nodup_range->qC,range'_succ->qE,map_flatMap->qF,ext_getElem->qG,getElem_map->qH,filter_map->qS,drop_zero->ro,drop_nil->rF,all_map->rQ,range'->sr,rec->sD
open PySem renaming wpAny_bind->ah,Value->ab,wpAny_pure->aq,Shared->ae,wpAny->ao,starEach->aF,sizeLine->aI,Program->aL,mainGlobals->bL,Spec->vh,Around->aQ,World->aC,compareOp->bC,sizeLine_eq->bV,wpAny_newObj_type->cU,wpAny_holding->cF,wpAny_setState_of->dt,SetTable->bS,wpAny_truthy_bool->dJ,wpAny_Call_Name_kw->dZ,wpAny_mono->cy,codeAny_builtin->d6,FuncData->cp,wpAny_call_entry->eQ,backTo->bO,assignEach->de,binaryOp->cG,bootBuiltins->d9,attributeBase->fi,keywordEach->dQ,strKind->fo,sysModules->dy,wpAny_passesOwn->gz,wpAny_pyIter_list->ir,codeAny->cH,mem_of_lookup->i6,wpAny_callSpecial?_slot->jE,behindInMarks->gG,swapsWith->dR,plainId_quiet->gM,foldedSetIterable->i7,ofAClassStatement->i8,wpAny_setField->iz,wpAny_typeOf->gR,filterMap_getElem?_range->lj,letOwnedTupleGo->jd,wpAny_specialOf->je,call_meets->fV,tupleKind_room_in1->jN,codeAny_mono->iF,NameKind->eE,call_meetsIn->iG,wpAny_Call_method->jQ,wpAny_storeSet_of->jS,wpAny_forIn_list->jW,wpAny_rule->gW,wpAny_field->iI,wpAny_execs_nil->jZ,Keyword->eF,isSubtype_type->j8,Scope->cQ,wpAny_sequenceKey->mC,Builtin->fD,Paired->gX,GenState->gY,noFill_tuple_add->mK,wpAny_askSetting->mM,IsPart->eG,typeIs_str->jl,wpAny_Call_method_late->o6,wpAny_updateSeq->mU,wpAny_isTrue_Compare1->pd,wpAny_eqIsQuiet_tuple->pe,builtinLookup_eq_fast->pj,carriedByValue->mY,wpAny_seqItems->mZ,codeAny_call_builtin->pz,typeIs_none->kg,seq_tuple_add->nh,evalPart_none->nu,wpAny_newList->nD,wpAny_pyIter_tuple->pT,wpAny_call->kj,PlainAttrs->ko,Within->nF,BindsTo->iM,concat_meets->nL,slot_list_getitem->qc,wpAny_pyIter_slot->qj,fits_of_scanBound->qk,wpAny_setEpoch_of->ql,wpAny_pyHash_str->qu,wpAny_execs_cons->qv,PassesOwn->ku,Result->hE,wpAny_isInstance->qD,codeAny_of_tree->qK,typeLookup_type->qP,wpAny_Name->nS,meets_dict_get->qY,call->nT,wpAny_runValue->qZ,boot_len->q8,wpAny_newTuple->q9,entryFor_alias->rj,KeyKind->rp,intBits_le_64->rq,evalPart_some->rB,call_list_seq->rD,wpAny_standAt->rE,signature?_of->rJ
open PySem.Heap renaming get?_push_of_some->aR,get?_push_size->bw,lt_size->a9,size_push->c9,get?_update_self->gm,SameBut->ee,get?_update_other->iW
open Bool renaming and_eq_true->aT,false_ne_true->bG,not_eq_true'->c7,eq_iff_iff->d5,false_eq_true->gp,or_eq_true->gE,eq_false_iff->i9,or_eq_false_iff->lD,and_false->mX,false_or->nv,not_eq_true->qB,false_and->qW,rec->nX
open Nat renaming le_refl->aH,mod_lt->aM,le_of_ble_eq_true->bX,ne_of_lt->bg,le_trans->bz,lt_of_lt_of_le->cw,zero_le->bT,lt_succ_self->dM,lt_succ_of_lt->eO,lt_of_le_of_lt->gn,le_succ->dw,lt_of_succ_lt_succ->iY,min_eq_left->gA,lt_irrefl->fT,le_add_right->iu,ne_of_gt->gQ,min_self->gS,zero_add->iB,le_of_lt->iC,ble_eq->gV,succ_le_succ->jY,add_right_comm->lZ,succ_pos->j9,mod_add_mod->mW,ble->gZ,eq_zero_or_pos->p9,le_of_lt_succ->qf,le_of_succ_le->qo,le_of_not_lt->qz,not_lt_zero->qR,beq->jq,le_of_eq->rL,sub_self->rP,pow_succ->rT,max_le->sy,sub_le->sA
open Array renaming length_toList->bR,getD_eq_getD_getElem?->ib,getElem?_toList->il,getElem?_eq_getElem->jB,getElem?_eq_some_iff->oK,perm_iff_toList_perm->oM,toList_push->mI,size_eq_one_iff->pq,forIn_toList->pW,replicate->qO,size_map->rg,toList->rK,map->sC
open PySem.W renaming Frag->av,kia_one->cP,kitOne->cJ,emptyDict->eA,findIn->c4,instObj->fA,keepIn->eD,kitx_dict->iH,kitx_list->jk,fnOf->fE,codeIn->iJ,OpenLaw->iK,plainGet_of->m9,callWith_K0->ng,plainGet->kh,kitx_tuple->nG,callWith_K->nJ,cellsFrom_some->qw,methodObj->nN,hasDictIn->nO,methodCall_KW->qJ,mg_of->js,lookIn->kz,looks_findIn->qX,kas_sort->kA,makes_of->nU,takerIn->nV,makesIn->nW,kas_ask->kB,nsIn->jt,plainOver->rY,make_core->rZ,specialIn->r6,kitx_none->sd,kitx_bool->se,isFn->kC
open PyProof.Rows renaming slot_tuple_getitem->dX,StrsAre->i4,boot_isinstance->j4,entry_tuple_getitem->lK,slicePart_none->j7,args_tuple_getitem->l5,AllBare->fB,subscriptTail_builtinR->o5,tupleItemsOf_->ni,listUpdate_at->nz,Subscript_->km,IsTup->fF,seqEpoch_at->nP,boot_sorted->nQ,get?_update_seq->qM,entry_list_sort->qN,IntsAre->jr,split_le->qV,slot_list_sort->ra,args_list_sort->rb,slicePart_int->rA,ext_toList->uy,split_pos->uz,tail_any->nY,lt_str->u4
open PyProof.Rows.F renaming plain_set_update_loop->dY,entry_set_update_loop->ie
open PySem.Heap.SameBut renaming update->dH
open Option.some renaming inj->cX,injEq->vb
open PySem.SetTable.layClean renaming free->eI
open PySem.Builtin.Tuple renaming tupleExact->fJ,tupleItemsOf->k7
open PySem.Around renaming under_plainId->eJ,under->nH
open PySem.Builtin.Slice renaming slicePlaces->gf,sliceApplied->jA,sliceAdjust->lg,sliceFields->oN,slicePartIndex->tP
open Option renaming map_eq_some_iff->fL,map_some->gy,isSome_iff_exists->oR,getD_some->qA,map->sv
open PySem.SetTable renaming bits->cY,below->d7,grown->d8,runEnd->fR,Probe->fS,turns->iy,insertAt->jT,fits->jh,advance->mO,insertAt_perm->pb,fill->nE,layClean->qg,laid->rH,has->rS
open Prod renaming snd->b8,fst->dA
open PySem.Calls renaming spliced_cons->eK,callWith_builtin->ig,evalArgs_plain->ip,spliced_nil->gq,Name_function_global->oI,call_function_entry->oO
open PySem.Obj renaming data_mapFields->fN,mapSeq->eC,mapFields->gO,isFreed_of_fields->jI,cls_mapFields->mJ,putSet->kq
open PySem.Builtin.List renaming listTooLong->iR,listSameRef->oW,listExtendWith->tR
open Int renaming toNat_natCast->gr,emod_nonneg->jg,natCast_nonneg->jL,fdiv_eq_ediv_of_nonneg->oJ,emod_lt_of_pos->mj,eq_ofNat_of_zero_le->oZ,negSucc_lt_zero->pE,max_eq_right->qx,le_refl->nR,min_eq_left->qI,ediv_one->rM,ofNat_le->rN,le_of_lt->rO
open Classical renaming propDecidable->iV,byContradiction->oP,axiomOfChoice->o4
open False renaming elim->dc
open PySem.F renaming slot_dict_get->fQ,called_set->fU,plainAttrs_list->ja,slot_NoneType_hash->jJ,entry_dict_get->jc,slot_list_extend->jM,plainAttrs_dict->jR,slot_str_split->jV,sub_list_frozenset->lE,args_tuple_add_2->l4,slot_list_append->l7,args_str_split_2->mf,entry_tuple_add->mB,args_dict_get_2->mE,entry_str_split->mG,slot_tuple_add->mL,slot_dict_setdefault->o8,type_dict_get->mS,args_list_extend_2->px,sub_list_set->m6,entry_list_extend->pJ,type_list_append->pX,type_list_extend->pY,slot_list_insert->p0,slot_tuple_index->p6,args_dict_get_3->qd,plain_list_iadd->qm,plain_set_new->qL,slot_set_iter->qQ
open PySem.Txt renaming split->cZ,mul->fC
open PySem.SetTable.probe renaming go->jb
open PySem.Value renaming isStrOf->iA,isInt->rX
open List.Perm renaming eq_of_pairwise->lh
open LawfulBEq renaming eq_of_beq->fW
open Ne renaming symm->dS
open PySem.Str renaming ofString->jj
open PySem.Builtin renaming bitAnd->j6
open PySem.SeqAt.EqAt renaming str_str->l6,of_refs->l8,same->mR,none_int->pF,none_str->pG,int_none->pH,str_none->pI,int_str->pQ,str_int->pS,tuple_none->uA,tuple_bool->uB,tuple_list->uC,list_tuple->uD,none_tuple->uE,bool_tuple->uF,none_bool->uH,bool_none->uI,bool_bool->uJ,tuple_int->uK,tuple_str->uL,list_none->uM,list_bool->uN,none_list->uO,bool_list->uP,int_tuple->uQ,str_tuple->uR,bool_int->uS,bool_str->uT,int_bool->uU,str_bool->uV,list_int->uW,list_str->uX,int_list->uY,str_list->uZ,int_int->u5
open PySem.AutoSeq1 renaming wpAny_loadPart'->oU
open PySem.SeqAt renaming eq_list_lengthsAt->oX,EqAt->jm,in_tupleAt->qy
open PySem.Builtin.Str renaming occurrences->oY,strKind->pK,partsBetween->uw
open PySem.Walks renaming list->jo
open Sum.inr renaming inj->ka
open PySem.Moved renaming trans->kc
open Std.Legacy.Range renaming forIn_eq_forIn_range'->tN,size->uG
open PySem.Paired renaming length->m8,snoc->sg
open PySem.Shared renaming TypeIs->ny
open PySem.Heap.IsSliceOf renaming new->pU
open PySem.Code renaming isFrame->nI,frames->sf
open Nat.succ renaming inj->nM
open PySem.SetTable.below renaming go->qh
open PyProof.Rows.IsTup renaming new->ky
open PySem.Builtin.Frozenset renaming updateFrom->tQ,newClass->tT
open PySem.PassesOwn renaming never->qU
open PySem.SeqAt.RcNeAt renaming lists_lengths->tS,tuples->u0,lists->u6
open PySem.EqNone renaming eq_none_none->tU,eq_none_bool->tV,eq_bool_none->tW,ne_none_none->t6,ne_none_bool->t7,ne_bool_none->t8,eq_none_int->ud,eq_none_str->ue,eq_int_none->uf,eq_str_none->uh,ne_none_int->uj,ne_none_str->um,ne_int_none->uo,ne_str_none->ur
open PySem.EqMixed renaming eq_bool_str->tY,eq_str_bool->tZ,ne_bool_str->ua,ne_str_bool->uc,eq_int_str->ug,eq_str_int->ui,ne_int_str->uq,ne_str_int->uu
open PySem.SeqAt.RcAt renaming lists_lengths->uv,tuples->vc,lists->ve
open PySem.Pv renaming boot_tuple->rG,boot_list->rR,boot_set->sj,boot_int->sk
open PySem.Builtin.Range renaming rangeSize->ux
open PySem.pickOrder renaming go->rV
open Prod.mk renaming inj->rW
open PySem.W.WShape renaming has->su
open List.Sublist renaming nodup->u7
open PySem.Within renaming cons->u9
open List.Pairwise renaming map->vd
open PySem.Heap.DictOf renaming new->vg
def aj:=@if_pos
def aZ:=@decide_eq_false
def ak:=@if_neg
def bj:=@of_decide_eq_true
def aY:=@decide_eq_true
def ar:=@absurd
def bE:=@decide_eq_true_eq
def bD:=@congrArg
def Eq.t:=@Eq.trans
def Iff.t:=@Iff.trans
def List.Perm.t:=@List.Perm.trans
def PySem.Heap.SameBut.t:=@PySem.Heap.SameBut.trans
def PySem.Moved.t:=@PySem.Moved.trans
abbrev cN:=List (PySem.Addr×PySem.Obj)
abbrev aE:=List PySem.Str
set_option Elab.async false
set_option linter.all false
namespace L5
open PySem PySem.W
noncomputable def w?(l:List Obj):Nat->List Addr->List Obj:=
 @sD Obj (λ_=>Nat->List Addr->List Obj) (λ_ _=>[])
  (λo _ b i as=>@sD Addr (λ_=>List Obj) [] (λa r _=>@nX (λ_=>List Obj) (b (Nat.succ i) as) (o::b (Nat.succ i) r) (jq a i)) as) l
def RB(i:Nat)(as:List Addr):w? [] i as=[]:=rfl
def Vw(o:Obj)(l:List Obj)(i:Nat)(r:List Addr):w? (o::l) i (i::r)=o::w? l (i+1) r:=by show @nX (λ_=>List Obj) _ _ (jq i i)=_;rw[Nat.beq_refl];rfl
def Vx(o:Obj)(l:List Obj)(i a:Nat)(r:List Addr)(h:a≠i):w? (o::l) i (a::r)=w? l (i+1) (a::r):=by
 show @nX (λ_=>List Obj) _ _ (jq a i)=_;have:jq a i=δ:=by
  cases q:jq a i with
  |false=>rfl
  |true=>exact ar (Nat.eq_of_beq_eq_true q) h
 rw[this];rfl
theorem Kn:∀(l:List Obj) (i:Nat) (as:List Addr),(w? l i as).length=as.length->∀j (c:j<as.length),∃b,as[j]=i+b/\l[b]?=(w? l i as)[j]?
 |[],i,as,h,j,c=>by rw[RB]at h;simp at h;omega
 |o::l,i,[],h,j,c=>by simp at c
 |o::l,i,a::r,h,j,c=>by
  by_cases q:a=i
  .subst q;rw[Vw]at h ⊢;cases j with
   |zero=>exact#v[0,O,O]
   |succ j=>obtain⟨b,d,e⟩:=Kn l (a+1) r (by simpa using h) j (by simpa using c);exact#v[b+1,by rw[List.getElem_cons_succ,d];exact lZ a 1 b,by simpa using e]
  .rw[Vx _ _ _ _ _ q]at h ⊢;obtain⟨b,d,e⟩:=Kn l (i+1) (a::r) h j c;exact#v[b+1,by rw[d];exact lZ i 1 b,by simpa using e]
def live(o:Obj):Bool:=match o with|#v[_,_,.freed,_]=>δ|_=>γ
def Vy{h:Heap}{as:List Addr}{K:Frag}(e:as=K.map (·.1))(x:(w? h.objs.toList 0 as,K.all λp=>live p.2)=(K.map (·.2),γ)):K.In h:=by
 obtain⟨i,r⟩:=rW x;refine Frag.in_of e (mx λj=>?_);rw[bq,bq];by_cases a:j<as.length
 .have q:(w? h.objs.toList 0 as).length=as.length:=by rw[i,e,af,af]
  obtain⟨b,l,m⟩:=Kn _ _ _ q j a;have f:j<K.length:=by rw[e,af]at a;exact a
  rw[aP a,aP f,gy,gy,l,iB];have o:h.objs[b]?=Z (K[j].2):=by rw[<-il,m,i,bq,aP f];rfl
  have lv:live K[j].2=γ:=aK.1 r _ (gv f);refine bD Z ?_;unfold Heap.get?;rw[o];revert lv;cases K[j].2 with
  |mk c d data t=>cases data<;>intro lv<;>first|rfl|cases lv
 .rw[gj (by omega),gj (by rw[e,af]at a;omega)];rfl
noncomputable def ac0(K:Params->Frag) (as:List Addr) (e:∀P,as=(K P).map (·.1)):Hook:=
 #v[List Obj×Bool,λs=>(w? s.heap.objs.toList 0 as,γ),λw=>((K w.params).map (·.2),(K w.params).all λp=>live p.2),InK K,λw s x=>Vy (e w.params) (by
  obtain⟨a,b⟩:=rW x;rw[a,<- b]),InK.keeps]
end L5
section
open PySem PySem.W PyProof.Rows
local macro_rules|`(tactic|o_head ($f:ident $k $as $e))=>`(tactic|o_head ((L5.ac0 $k $as (fun _=>by kernel_rfl)):W.Hook))
local macro_rules|`(command|#where)=>do
 let mut r:=#[]
 for (k,l) in [("o",List.range' 43 1769),("sts",[49,124,206,234,277,320,363,406,449,492,528,571,621,664,679,725,798,814,864,914,935,980,1003,1027,1086,1175,1243,1319,1399,1626,1709,1785]),("tree",[47,123,205,233,276,319,362,405,448,491,527,570,620,663,678,724,797,813,863,913,934,979,1002,1026,1085,1174,1242,1318,1398,1537,1622,1708,1784,1811]),("heap",[39,46,1812]),("view",[39])] do
  for n in l do
   let x:=Lean.mkIdent (.mkSimple s!"tw{((Lean.Name.mkSimple "hd").str s!"{k}_{n}").hash}")
   r:=r.push ((<-`(command|noncomputable def $x:ident:=0)).raw.rewriteBottomUp (·.setInfo .none))
 return Lean.mkNullNode r
noncomputable section
namespace PySem.W.Fast
def tw2464755472317145439:=0
#where
end PySem.W.Fast
end
def zvp:=PySem.Challenge.pw_tellworld_k43_phrases
noncomputable def zvq:=view zvp [192]
local macro_rules|`(tactic|refine $t)=>do
 if t.raw[0].getId != ``PySem.W.holds_open||t.raw[1][0][3].getId.eraseMacroScopes== `zvq then Lean.Macro.throwUnsupported
 let n:=fun (i:Nat) (x:Lean.Term) (a:Array Lean.Syntax)=>a.set! i (a[i]!.setArg 3 x)
 `(tactic|refine $(Lean.TSyntax.mk (t.raw.setArg 1 (Lean.mkNullNode (n 0 (<-`(zvq)) (n 1 (<-`(zvp.boundNames)) (n 2 (<-`(fun s=>xlAt zvq [] s&&recOk [] s)) (n 3 (<-`(XL zvq [])) t.raw[1].getArgs))))))))
set_option maxRecDepth 100000 in
set_option maxHeartbeats 0 in
open_top hd for PySem.Challenge.rw_tellworld_k43_phrases
end
set_option h false
set_option maxRecDepth 100000
theorem zA0(h:True:=by rfl):True:=h
theorem zA1(h:True:=by decide):True:=h
theorem zA2(h:True:=by first|exact .inl O|exact .inr O|assumption):True:=h
theorem zA3(h:True:=by intro _;rfl):True:=h
theorem zA4(h:True:=by with_unfolding_all rfl):True:=h
theorem zA5(h:True:=by (repeat intro _);rfl):True:=h
theorem zA6(h:True:=by kernel_rfl):True:=h
theorem zA7(h:True:=by (repeat intro _);exact#v[_,O,O]):True:=h
namespace L2
open PySem PySem.Spec PyProof.Rows
abbrev d?:=Sum Int Str
def HL:d?->ab->Bool
 |.inl k,v=>rX k v
 |.inr x,v=>iA x v
def keyH(w:aC):d?->Int
 |.inl k=>hashInt k
 |.inr x=>hashStr w x
def wX:∀{k:d?} {v:ab},HL k v=γ->(∃i t,k=Sum.inl i/\v=Value.int i t)\/(∃x t,k=Sum.inr x/\v=Value.str x t)
 |.inl i,v,h=>by obtain⟨t,e⟩:=Value.isInt_shape (k:=i) (v:=v) h;exact .inl #v[i,t,O,e]
 |.inr x,v,h=>by obtain⟨t,e⟩:=Value.isStrOf_shape (x:=x) (v:=v) h;exact .inr #v[x,t,O,e]
def Qe(i:Int)(t:Tok):HL (.inl i) (.int i t)=γ:=by simp[HL,rX]
def Qf(x:Str)(t:Tok):HL (.inr x) (.str x t)=γ:=by simp[HL,iA]
def Y0(a b:Int):decide ((Sum.inl a:d?)=Sum.inl b)=(a==b):=by
 by_cases e:a=b
 .subst e;simp
 .have h:¬(Sum.inl a:d?)=Sum.inl b:=λq=>e (Sum.inl.inj q);rw[aZ h];exact(beq_eq_false_iff_ne.2 e).symm
def Y1(a b:Str):decide ((Sum.inr a:d?)=Sum.inr b)=decide (a=b):=by
 by_cases e:a=b
 .subst e;simp
 .have h:¬(Sum.inr a:d?)=Sum.inr b:=λq=>e (ka q);rw[aZ h,aZ e]
set_option r "2 Int Str l r;3 Str Int r l" in def Yϑ0(a:ϑ1)(b:ϑ2):decide ((Sum.inϑ3 a:d?)=Sum.inϑ4 b)=δ:=aZ (λq=>nomatch q)
def vU(prog:aL)(w:aC):rp prog w d? where
 is:=HL
 hash:=keyH w
 inj:=λv a b ha hb=>by
  rcases wX ha with ⟨i,t,rfl,rfl⟩|⟨x,t,rfl,rfl⟩
  .rcases wX hb with ⟨j,u,rfl,e⟩|⟨y,u,rfl,e⟩
   .injection e with c _;rw[c]
   .exact nomatch e
  .rcases wX hb with ⟨j,u,rfl,e⟩|⟨y,u,rfl,e⟩
   .exact nomatch e
   .injection e with c _;rw[c]
 byValue:=λk v h=>by rcases wX h with ⟨i,t,rfl,rfl⟩|⟨x,t,rfl,rfl⟩<;>rfl
 pyHash:=λd h=>by
  rcases wX d with ⟨i,t,rfl,rfl⟩|⟨x,t,rfl,rfl⟩
  .exact wpAny_pyHash_int h
  .exact qu h
 eqBool:=λf d h=>by
  rcases wX f with ⟨i,t,rfl,rfl⟩|⟨x,t,rfl,rfl⟩
  .rcases wX d with ⟨j,u,rfl,rfl⟩|⟨y,u,rfl,rfl⟩
   .rw[Y0]at h;exact wpAny_eqBool_int h
   .rw[Y2]at h;exact pQ i t y u _ _ _ _ h
  .rcases wX d with ⟨j,u,rfl,rfl⟩|⟨y,u,rfl,rfl⟩
   .rw[Y3]at h;exact pS x t j u _ _ _ _ h
   .rw[Y1]at h;exact wpAny_eqBool_str h
 «strs»:=λk x t v h=>by
  rcases wX h with ⟨i,u,rfl,e⟩|⟨y,u,rfl,e⟩
  .exact nomatch e
  .injection e with c _;subst c;cases v<;>rfl
set_option r "I i Int l int e;J x Str r str f" in def Lϑ0(prog:aL)(w:aC)(ϑ1:ϑ2)(t:Tok):(vU prog w).is (.inϑ3 ϑ1) (.ϑ4 ϑ1 t)=γ:=Qϑ5 ϑ1 t
inductive V where
 |O|X (b:Bool)|int (i:Int)|str (x:Str)|Xi (b:Array UInt8)|flt (b:UInt64)|ref (a:Addr)|ty (n:String)
 deriving DecidableEq
abbrev bF:=List V
def dd:V->ab->Prop
 |.O,u=>u=Value.none
 |.X b,u=>u=Value.bool b
 |.int i,u=>∃t,u=Value.int i t
 |.str x,u=>∃t,u=Value.str x t
 |.Xi b,u=>∃t,u=Value.bytes b t
 |.flt b,u=>∃t,u=Value.float b t
 |.ref a,u=>u=Value.ref a
 |.ty n,u=>u=Value.type n
abbrev cm:bF->List ab->Prop:=gX dd
theorem cm.length(r:cm xs a):xs.length=a.length:=m8 r
theorem cm.get:∀{b:bF} {a:List ab} {i:Nat} {x:V},cm b a->b[i]?=Z x->∃u,a[i]?=Z u/\dd x u
 |_,_,_,_,.nil,e=>by simp at e
 |_,_,0,_,.cons r _,e=>by simp at e;subst e;exact#v[_,O,r]
 |_,_,i+1,x,.cons _ t,e=>by obtain⟨u,c,d⟩:=cm.get (i:=i) (x:=x) t (by simpa using e);exact#v[u,by simpa using c,d]
theorem cm.append:∀{b c:bF} {a ws:List ab},cm b a->cm c ws->cm (b++c) (a++ws)
 |_,_,_,_,.nil,s=>s
 |_,_,_,_,.cons r t,s=>.cons r (cm.append t s)
theorem cm.take:∀{xs:bF} {a:List ab} (n:Nat),cm xs a->cm (xs.take n) (a.take n)
 |_,_,0,_=>.nil
 |_,_,_+1,.nil=>.nil
 |_,_,n+1,.cons r t=>.cons r (cm.take n t)
theorem cm.drop:∀{xs:bF} {a:List ab} (n:Nat),cm xs a->cm (xs.drop n) (a.drop n)
 |_,_,0,r=>r
 |_,_,_+1,.nil=>.nil
 |_,_,n+1,.cons _ t=>cm.drop n t
def Dn:Option V->Option ab->Prop
 |some v,Z u=>dd v u
 |none,U=>True
 |_,_=>False
def KV{a:Type}:List (a×V)->List (a×ab)->Prop:=gX λ(p:a×V) (q:a×ab)=>p.1=q.1/\dd p.2 q.2
def kV:d?->V
 |.inl i=>.int i
 |.inr x=>.str x
inductive HO where
 |a3 (xs:bF)
 |a7 (xs:bF)
 |dK (kvs:List (d?×V))|dT (kvs:List (List d?×V))
 |set (S:Int->Bool) (n:Nat)
 |k0 (C dx:Addr) (fs:List (Str×V))
 |fh (x:Addr)
 |xd (fs:List (Str×V))
 |met (f x:Addr)
 |rng (lo hi:Int)
 |mi (o:Obj) (u:HO)
 |tbl (ps:Array ab)
 |ext (φ:Heap->Prop)
abbrev Hp:=Addr->Option HO
def eg(H:Hp)(a:Addr)(o:HO):Hp:=λb=>if b=a then Z o else H b
def vE:eg H a o a=Z o:=by unfold eg;rw[aj O]
def vH(h:b≠a):eg H a o b=H b:=by unfold eg;rw[ak h]
def ac2{H:Hp}{a b:Addr}{o u:HO}(h:H a=Z o)(c:H b=Z u)(d:o≠u):a≠b:=by intro e;subst e;rw[h]at c;exact d (cX c)
def ym{H:Hp}{a b:Addr}{o:HO}(h:H a=Z o)(c:H b=U):a≠b:=by intro e;subst e;rw[h]at c;cases c
section
variable(P:aL)(w:aC)
def eo(H:Hp)(h:Heap)(a:Addr):HO->Prop
 |.a3 c=>c.length<=aI/\∃(b:List ab) (n:Nat),cm c b/\h.get? a=Z { cls:=.type "list", data:=.seq b.toArray n }
 |.a7 c=>c.length<=aI/\∃b:List ab,cm c b/\fF h a b.toArray/\∀o,h.get? a=Z o->o.dict=U
 |.dK kvs=>kvs.length<=aI/\(a==dy)=δ/\∃m,KV kvs m/\h.DictOf (vU P w) a m
 |.dT kvs=>kvs.length<=aI/\(a==dy)=δ/\∃c:List (List d?×Addr×ab),
   gX (λ(p:List d?×V) (q:List d?×Addr×ab)=>p.1=q.1/\H q.2.1=Z (.a7 (p.1.map kV))/\dd p.2 q.2.2) kvs c/\
   ∃o i r,h.get? a=Z o/\o.ExactDict/\o.data=.dict i r/\i.toList=c.map (entryOfKey (tupleKind (vU P w)))/\(c.map (·.1)).Nodup
 |.set S n=>h.SetOf (intKind P w) a S n
 |.k0 C d fs=>H d=Z (.fh a)/\fs.length<=1000/\d≠a/\h.get? a=Z (fA C d)/\
   ∃mA,h.Ns1 d mA/\(∀f,Dn (fs.lookup f) (mA f))/\nF mA (fs.map (·.1))
 |.fh _=>∃o,h.get? a=Z o
 |.xd fs=>∃mA,h.Ns1 a mA/\∀f,Dn (fs.lookup f) (mA f)
 |.rng lo y=>∃t u v,h.get? a=Z { cls:=.type "range", data:=.fields #[.int lo t,.int y u,.int 1 v] }
 |.mi o u=>h.get? a=Z o/\eo H h a u
 |.tbl z=>h.get? a=Z { cls:=.none,data:=.fields z }
 |.met f x=>h.get? a=Z (nN (.ref f) (.ref x))
 |.ext e=>e h/\(∃o,h.get? a=Z o)/\∀j l:Heap,e j->(∀o,j.get? a=Z o->l.get? a=Z o)->e l
def n7(H:Hp)(h:Heap):Prop:=∀a o,H a=Z o->eo P w H h a o
end
section
variable{P:aL}{w:aC}{H H':Hp}{h h':Heap}{a:Addr}{o:HO}
theorem eo.lt(x:eo P w H h a o):a<h.objs.size:=by
 cases o with
 |a3 b=>obtain⟨_,_,_,_,e⟩:=x;exact a9 e
 |a7 b=>obtain⟨_,_,_,p,_⟩:=x;exact p.lt
 |dK kvs=>obtain⟨_,_,_,_,o,_,_,e,_⟩:=x;exact a9 e
 |dT kvs=>obtain⟨_,_,_,_,o,_,_,e,_⟩:=x;exact a9 e
 |set S n=>obtain⟨o,_,_,_,e,_⟩:=x;exact a9 e
 |k0 C c fs=>obtain⟨_,_,_,e,_⟩:=x;exact a9 e
 |fh y=>obtain⟨_,e⟩:=x;exact a9 e
 |xd fs=>obtain⟨_,⟨_,_,_,e,_⟩,_⟩:=x;exact a9 e
 |rng lo d=>obtain⟨_,_,_,e⟩:=x;exact a9 e
 |mi i u=>obtain⟨e,_⟩:=x;exact a9 e
 |tbl j=>exact a9 (show h.get? a=Z _ from x)
 |met f y=>exact a9 (show h.get? a=Z _ from x)
 |ext l=>obtain⟨_,⟨_,e⟩,_⟩:=x;exact a9 e
theorem Paired.mapP{e i:Type}{F G:e->i->Prop}:∀{c:List e} {d:List i},gX F c d->(∀a b,F a b->G a b)->gX G c d
 |_,_,.nil,_=>.nil
 |_,_,.cons r t,f=>.cons (f _ _ r) (Paired.mapP t f)
def eo.Rr(x:eo P w H h a o)(k:∀b u,(b=a\/H b=Z (.fh a))->h.get? b=Z u->h'.get? b=Z u)
  (I:∀b,H b=Z (.fh a)->H' b=Z (.fh a)) (J:∀b A,H b=Z (.a7 A)->H' b=Z (.a7 A)):eo P w H' h' a o:=by
 induction o with
 |a3 A=>obtain⟨z,m,n,r,e⟩:=x;exact#v[z,m,n,r,k _ _ (.inl O) e]
 |a7 A=>obtain⟨z,m,r,⟨i,e,c⟩,f⟩:=x;exact#v[z,m,r,#v[i,k _ _ (.inl O) e,c],λW E=>by rw[k _ _ (.inl O) e]at E;cases E;exact f _ e]
 |dK kvs=>obtain⟨z,y,Q,r,i,l,j,e,c⟩:=x;exact#v[z,y,Q,r,i,l,j,k _ _ (.inl O) e,c]
 |dT kvs=>obtain⟨z,y,A,r,i,l,j,e,c⟩:=x;exact#v[z,y,A,Paired.mapP r λp q z=>#v[z.1,J _ _ z.2.1,z.2.2],i,l,j,k _ _ (.inl O) e,c]
 |set S n=>obtain⟨i,l,j,t,e,c⟩:=x;exact#v[i,l,j,t,k _ _ (.inl O) e,c]
 |k0 C R fs=>obtain⟨d,z,N,e,mA,⟨B,l,j,G,c⟩,r⟩:=x;exact#v[I _ d,z,N,k _ _ (.inl O) e,mA,#v[B,l,j,k _ _ (.inr d) G,c],r]
 |fh y=>obtain⟨i,e⟩:=x;exact#v[i,k _ _ (.inl O) e]
 |xd fs=>obtain⟨mA,⟨B,l,j,e,c⟩,r⟩:=x;exact#v[mA,#v[B,l,j,k _ _ (.inl O) e,c],r]
 |rng lo T=>obtain⟨t,u,v,e⟩:=x;exact#v[t,u,v,k _ _ (.inl O) e]
 |mi i u M=>obtain⟨e,q⟩:=x;exact#v[k _ _ (.inl O) e,M q]
 |tbl F=>have e:h.get? a=Z { cls:=.none,data:=.fields F }:=x;show h'.get? a=Z { cls:=.none,data:=.fields F };exact k a _ (.inl O) e
 |met f y=>have e:h.get? a=Z (nN (.ref f) (.ref y)):=x;show h'.get? a=Z (nN (.ref f) (.ref y));exact k a _ (.inl O) e
 |ext X=>obtain⟨p,⟨o,e⟩,st⟩:=x;exact#v[st _ _ p λo q=>k _ _ (.inl O) q,#v[o,k _ _ (.inl O) e],st]
theorem n7.lt(x:n7 P w H h)(e:H a=Z o):a<h.objs.size:=(x a o e).lt
def n7.fresh(x:n7 P w H h)(e:h.objs.size<=a):H a=U:=by
 cases q:H a with
 |none=>rfl
 |some u=>exact ar (cw (x.lt q) e) (fT _)
def n7.fu(x:n7 P w H h)(k:∀b u,h.get? b=Z u->h'.get? b=Z u):n7 P w H h':=λa o e=>
 (x a o e).Rr (λb u y q=>k b u q) (λy q=>q) λy y q=>q
def n7.laid(x:n7 P w H h)(k:∀b u,h.get? b=Z u->h'.get? b=Z u)(i:h.objs.size<=a)(new:eo P w (eg H a o) h' a o):n7 P w (eg H a o) h':=λb u e=>by
 have f:=x.fresh i;by_cases d:b=a
 .subst d;rw[vE]at e;cases e;exact new
 .rw[vH d]at e;exact(x b u e).Rr (λc v y q=>k c v q) (λc q=>by rw[vH (ym q f)];exact q) λc j q=>by rw[vH (ym q f)];exact q
end
def Rd(H:Hp)(a:Addr)(u:HO):Prop:=H a=Z u\/∃o,H a=Z (.mi o u)
def Rd.ok(r:Rd H a u)(x:n7 P w H h):eo P w H h a u:=by
 rcases r with r|⟨o,r⟩
 .exact x a u r
 .obtain⟨_,q⟩:=x a _ r;exact q
def Mut:Option HO->Prop
 |some (.a3 _)=>True
 |some (.dK _)=>True
 |some (.dT _)=>True
 |some (.set _ _)=>True
 |some (.k0 _ _ _)=>True
 |some (.ext _)=>True
 |_=>False
section
variable{P:aL}{w:aC}{H:Hp}{h h':Heap}{x e:Addr}{o':HO}
def n7.t?(ok:n7 P w H h)(f:Mut (H x))(j:e=x\/H e=Z (.fh x))(k:∀b u,b≠e->h.get? b=Z u->h'.get? b=Z u)(heo:∃u,h'.get? e=Z u)
  (new:eo P w (eg H x o') h' x o'):n7 P w (eg H x o') h':=λb u q=>by
 have nown:∀c y,H c=Z (.fh y)->c≠x:=λc y r z=>by subst z;rw[r]at f;exact f
 have ntup:∀c i,H c=Z (.a7 i)->c≠x:=λc i r z=>by subst z;rw[r]at f;exact f
 by_cases a:b=x
 .subst a;rw[vE]at q;cases q;exact new
 .rw[vH a]at q;by_cases hbe:b=e
  .have l:H b=Z (.fh x):=by
    rcases j with z|z
    .exact ar (hbe.t z) a
    .rw[hbe];exact z
   rw[q]at l;cases l;obtain⟨v,m⟩:=heo;exact#v[v,by rw[hbe];exact m]
  .refine(ok b u q).Rr (λc v d r=>k c v ?_ r) (λc r=>by rw[vH (nown c b r)];exact r) λc i r=>by rw[vH (ntup c i r)];exact r
   rcases d with rfl|d
   .exact hbe
   .rintro rfl;rcases j with z|z
    .exact nown c b d z
    .rw[d]at z;cases z;exact a O
end
structure Un(fs ex:List Addr)(H H':Hp)(h h':Heap):Prop where
 keep:∀b o,h.get? b=Z o->H b=U->b∉fs->b∉ex->h'.get? b=Z o
 slot:∀b o,h.get? b=Z o->H b=U->b∈fs->b∉ex->∃sl,h'.get? b=Z { o with slots:=sl }
 free:∀b o,h.get? b=Z o->H b=U->b∉ex->H' b=U
 there:∀b o,h.get? b=Z o->b∉ex->∃o',h'.get? b=Z o'
 u1:∀b xs,H b=Z (.a7 xs)->H' b=Z (.a7 xs)
 vl:∀b o u,H b=Z (.mi o u)->H' b=Z (.mi o u)
 A':∀b ps,H b=Z (.tbl ps)->∃more,H' b=Z (.tbl (ps++more))
section
variable{fs fs' ex ex':List Addr}{H H1 H2:Hp}{h h1 h2 h':Heap}{a x e:Addr}{o:HO}
def Un.any(u:Un fs ex H H1 h h1)(q:h.get? b=Z ob)(n:H b=U)(c:b∉ex):∃sl,h1.get? b=Z { ob with slots:=sl }:=by
 by_cases hb:b∈fs
 .exact u.slot b ob q n hb c
 .exact#v[ob.slots,u.keep b ob q n hb c]
def Un.fu(k:∀b u,h.get? b=Z u->h'.get? b=Z u):Un fs ex H H h h':=
 #v[λb c q y y y=>k b c q,λb c q y y y=>#v[c.slots,k b c q],λy y y n y=>n,λb c q y=>#v[c,k b c q],λy y q=>q,λy y y q=>q,λy d q=>#v[#[],by rw[q];simp]]
def Un.refl:Un fs ex H H h h:=Un.fu λy y q=>q
def Un.laid(k:∀b u,h.get? b=Z u->h'.get? b=Z u)(c:h.objs.size<=a)(hn:H a=U):Un fs ex H (eg H a o) h h' where
 keep:=λb u q y y y=>k b u q
 slot:=λb u q y y y=>#v[u.slots,k b u q]
 free:=λb u q n y=>by rw[vH (bg (cw (a9 q) c))];exact n
 there:=λb u q y=>#v[u,k b u q]
 u1:=λb xs q=>by rw[vH (ym q hn)];exact q
 vl:=λb u xs q=>by rw[vH (ym q hn)];exact q
 A':=λb ps q=>#v[#[],by rw[vH (ym q hn),q];simp]
def Un.t?(c:Mut (H x))(j:e=x\/H e=Z (.fh x))(k:∀b u,b≠e->h.get? b=Z u->h'.get? b=Z u)(heo:∃u,h'.get? e=Z u):Un fs ex H (eg H x o) h h':=by
 have i:∀b,H b=U->b≠x:=λb n z=>by subst z;rw[n]at c;exact c
 have f:∀b,H b=U->b≠e:=λb n z=>by
  subst z;rcases j with r|r
  .exact i b n r
  .rw[n]at r;cases r
 have d:∀b u,H b=Z u->¬Mut (Z u)->b≠x:=λb u q l z=>by subst z;rw[q]at c;exact l c
 refine#v[λb u q n y y=>k b u (f b n) q,λb u q n y y=>#v[u.slots,k b u (f b n) q],λb u q n y=>by rw[vH (i b n)];exact n,λb u q y=>?_,
  λb m q=>by rw[vH (d b _ q λz=>z)];exact q,λb u m q=>by rw[vH (d b _ q λz=>z)];exact q,λb p q=>#v[#[],by rw[vH (d b _ q λz=>z),q];simp]]
 by_cases hbe:b=e
 .subst hbe;exact heo
 .exact#v[u,k b u hbe q]
end
def trk(h:Heap)(H:Hp):List Addr:=(aB h.objs.size).filter λa=>(H a).isSome
def Ko(h:Heap)(H:Hp):Heap:=W.hideAll h (trk h H)
def Qg(h:Heap)(H:Hp):(Ko h H).objs.size=h.objs.size:=W.hideAll_size _ _
def RD{h:Heap}(e:h.get? b=Z o)(n:H b=U):(Ko h H).get? b=Z o:=
 W.hideAll_get _ e λa=>by have q:(H b).isSome=γ:=(aO.1 a).2;rw[n]at q;simp at q
def Vz(e:(Ko h H).get? b=Z o):h.get? b=Z o/\H b=U:=by
 have a:h.get? b=Z o:=W.of_hideAll (trk h H) e;refine#v[a,?_];cases q:H b with
 |none=>rfl
 |some x=>have c:b∈trk h H:=aO.2 #v[bx.2 (a9 a),by simp[q]];have z:(Ko h H).get? b=U:=W.hideAll_none (trk h H) c;rw[z]at e;cases e
def VA(g h:Heap)(L:Addr):cN:=(aB h.objs.size).filterMap λa=>if a=L\/(g.get? a).isSome=γ then U else (h.get? a).map λo=>(a,o)
def et(g h:Heap)(L d:Addr):cN:=(VA g h L).filter λp=>decide (p.1≠d)
structure Mod(K:av)(mg:Str->Option ab)(a5:Heap):Prop where
 kin:K.In a5
 xo:a5.Ns bL mg
 blt:∃mb,a5.Ns builtinsNs mb/\∀x:Str,x≠"__name__" -> mb x=d9 x
 nolimit:a5.NoLimit
structure Cx where
 prog:aL
 w:aC
 K:av
 mg:Str->Option ab
 a5:Heap
 A:aQ
 N:aE
 s₀:ae
 H₀:Hp
 a4:Env
 b3:List Env
 stack:List Env
 ex:List Addr
 fn:Str->Bool
 l0:Bool
 pn:cN
 xe:ab->ae->Prop
def X1(l:List Env):List Addr:=l.filterMap (·.frame)
abbrev Cx.fs(X:Cx):List Addr:=X1 X.b3
def Vis(a:cQ)(x:Str):Prop:=a.names.lookup x=Z .local\/a.names.lookup x=Z .cell\/a.names.lookup x=Z .free
def Loc(a:cQ)(x:Str):Prop:=a.names.lookup x=Z .local\/a.names.lookup x=Z .cell
def Look(a4:Env)(h:Heap)(m:Str->Option ab)(x:Str)(u:ab):Prop:=
 (a4.kindOf x=Z .local/\m x=Z u)\/((a4.kindOf x=Z .cell\/a4.kindOf x=Z .free)/\∃c,a4.cells.lookup x=Z c/\h.IsCell c (Z u))
structure Cx.Ok(X:Cx):Prop where
 x?:Mod X.K X.mg X.a5
 kind:X.a4.scope.kind=.function
 xo:X.a4.globals=bL
 blt:X.a4.builtins=builtinsNs
 above:X.s₀.heap.objs.size<=X.a4.locals
 inj:∀x y c,X.a4.cells.lookup x=Z c->X.a4.cells.lookup y=Z c->x=y
 has:∀x,(X.a4.kindOf x=Z .cell\/X.a4.kindOf x=Z .free)->∃c,X.a4.cells.lookup x=Z c
 cab:∀x c,X.fn x=γ->X.a4.cells.lookup x=Z c->X.s₀.heap.objs.size<=c
 hd:X.l0=γ->X.A.handled=U
 frames:X.A.frames=Z X.stack
 stk:X.stack=X.b3\/(X.stack=X.a4::X.b3/\X.a4.frame=Z X.a4.locals)
 exf:∀b∈X.ex,b≠X.a4.locals/\∀x c,X.a4.cells.lookup x=Z c->c≠b
 bs:∀b o,X.a5.get? b=Z o->X.s₀.heap.get? b=Z o/\X.H₀ b=U
 μ:X.a5.objs.size<=X.s₀.heap.objs.size
 T':∀b o,X.a5.get? b=Z o->b∉X.ex
 R?:∀b∈X.ex,b∉X.fs
 p?:X.s₀.heap.FunFrames X.a5 X.b3
 frf:∀b∈X.fs,X.H₀ b=U
structure bt(X:Cx)(pins:cN)(σ:List (Option V))(H:Hp)(s:ae):Prop where
 ok:X.Ok
 os:s.os=X.s₀.os
 j0:fB s.gens
 a5:Un X.fs X.ex X.H₀ H X.s₀.heap s.heap
 A?:∃m,s.heap.Ns X.a4.locals m/\∀(i:Nat) (x:Str) (v:V),X.N[i]?=Z x->σ[i]?=Z (Z v)->Vis X.a4.scope x->∃u,dd v u/\Look X.a4 s.heap m x u
 cell:∀x c,X.a4.cells.lookup x=Z c->∃v,s.heap.IsCell c v
 free:H X.a4.locals=U
 ke:∀x c,X.a4.cells.lookup x=Z c->H c=U
 Dv:∀p∈X.pn++pins,s.heap.get? p.1=Z p.2/\H p.1=U/\p.1≠X.a4.locals/\p.1∉X.fs/\∀v,p.2.data≠.cell v
 ew:n7 X.prog X.w H s.heap
 len:σ.length=X.N.length
section
variable{X:Cx}{pins:cN}{σ:List (Option V)}{H H':Hp}{s:ae}{h':Heap}
def Cx.Ok.nofr(ok:X.Ok)(e:X.a5.get? b=Z o):b∉X.fs:=λa=>by have:=(ok.p?.mem a).1;rw[e]at this;cases this
theorem bt.bs(I:bt X pins σ H s):∀b o,X.a5.get? b=Z o->s.heap.get? b=Z o/\H b=U:=λb o e=>
 #v[I.a5.keep b o (I.ok.bs b o e).1 (I.ok.bs b o e).2 (I.ok.nofr e) (I.ok.T' b o e),I.a5.free b o (I.ok.bs b o e).1 (I.ok.bs b o e).2 (I.ok.T' b o e)]
def bt.bk(I:bt X pins σ H s):∀b o,X.a5.get? b=Z o->s.heap.get? b=Z o:=λb o e=>(I.bs b o e).1
theorem bt.x?(I:bt X pins σ H s):Mod X.K X.mg X.a5:=I.ok.x?
def bt.la(I:bt X pins σ H s):X.K.In s.heap:=I.ok.x?.kin.keeps I.bk
def bt.fr(I:bt X pins σ H s):∃m,Fr X.a5 X.a4.locals s.heap m:=
 let #v[m,a,_]:=I.A?
 #v[m,a,I.bk,bz I.ok.μ I.ok.above]
theorem bt.lt(I:bt X pins σ H s):X.a4.locals<s.heap.objs.size:=let #v[_,a,_]:=I.A?;a.lt
def bt.sz(I:bt X pins σ H s):X.s₀.heap.objs.size<=s.heap.objs.size:=bz I.ok.above (iC I.lt)
def bt.nofs(I:bt X pins σ H s)(h:s.heap.objs.size<=a):a∉X.fs:=λb=>by obtain⟨_,o,c,_⟩:=I.ok.p?.mem b;exact ar (cw (a9 c) (bz I.sz h)) (fT _)
def bt.cne(I:bt X pins σ H s):∀x c,X.a4.cells.lookup x=Z c->c≠X.a4.locals:=λx c e z=>by obtain⟨v,o,d,hd⟩:=I.cell x c e;obtain⟨m,⟨i,h,f,b,a,_⟩,_⟩:=I.A?;rw[z,b]at d;cases d;rw[a]at hd;cases hd
theorem bt.p?(I:bt X pins σ H s):s.heap.FunFrames X.a5 X.b3:=by
 have all:∀(l:List Env),(∀b∈X1 l,b∈X.fs)->X.s₀.heap.FunFrames X.a5 l->s.heap.FunFrames X.a5 l:=by
  intro l
  induction l with
  |nil=>intro _ _;trivial
  |cons a4 r p=>intro d h;obtain⟨f,⟨L,o,c,i,j,hd⟩,m⟩:=h;have hL:L∈X.fs:=d L (by unfold X1;rw[dG,c];exact ba);obtain⟨q,e⟩:=I.a5.slot L o j (I.ok.frf L hL) hL λz=>I.ok.R? L z hL;exact#v[f,#v[L,_,c,i,e,hd],p (λb a=>d b (by unfold X1;rw[dG,c];exact bb _ a)) m]
 exact all X.b3 (λy a=>a) I.ok.p?
theorem bt.stack(I:bt X pins σ H s):s.heap.FunFrames X.a5 X.stack:=by
 rcases I.ok.stk with e|⟨e,a⟩
 .rw[e];exact I.p?
 .rw[e];obtain⟨m,b,_⟩:=I.A?;refine .cons (by rw[I.ok.kind];decide) a b ?_ I.p?;exact Heap.get?_none_of_le (bz I.ok.μ I.ok.above)
def bt.I1(I:bt X pins σ H s):∀b∈X1 X.stack,b∈X.a4.locals::X.fs:=λb a=>by
 rcases I.ok.stk with e|⟨e,c⟩
 .rw[e]at a;exact bb _ a
 .rw[e]at a;unfold X1 at a;rw[dG,c]at a;exact a
def bt.N1(I:bt X pins σ H s):∀b∈X1 X.stack,H b=U:=λb hb=>by
 rcases aJ.1 (I.I1 b hb)with e|hb
 .rw[e];exact I.free
 .obtain⟨_,o,a,_⟩:=I.ok.p?.mem hb;exact I.a5.free b o a (I.ok.frf b hb) λz=>I.ok.R? b z hb
def bt.step{g':Array gY}{t':Nat}{d':Drawn}{ch:List Addr}(I:bt X pins σ H s)
  (hch:∀b∈ch,(b∈X.ex\/X.s₀.heap.objs.size<=b)/\b≠X.a4.locals/\(∀x c,X.a4.cells.lookup x=Z c->c≠b)/\∀p∈X.pn++pins,p.1≠b)
  (keep:∀b o,b≠X.a4.locals->b∉X.fs->b∉ch->s.heap.get? b=Z o->H b=U->h'.get? b=Z o)
  (slot:∀b o,b≠X.a4.locals->b∈X.fs->b∉ch->s.heap.get? b=Z o->H b=U->∃sl,h'.get? b=Z { o with slots:=sl }) (free:∀b o,b∉ch->s.heap.get? b=Z o->H b=U->H' b=U)
  (there:∀b o,b∉ch->s.heap.get? b=Z o->∃t,h'.get? b=Z t)
  (u1:∀b xs,H b=Z (.a7 xs)->H' b=Z (.a7 xs)) (vl:∀b o u,H b=Z (.mi o u)->H' b=Z (.mi o u)) (A':∀b ps,H b=Z (.tbl ps)->∃more,H' b=Z (.tbl (ps++more)))
  (ns:∀m,s.heap.Ns X.a4.locals m->h'.Ns X.a4.locals m) (ew:n7 X.prog X.w H' h') (hg:fB g'):
  bt X pins σ H' { s with heap:=h',gens:=g',drawn:=d',toks:=t' }:=by
 have neL:∀b o,X.s₀.heap.get? b=Z o->b≠X.a4.locals:=λb o e=>bg (cw (a9 e) I.ok.above);have neC:∀b o,X.s₀.heap.get? b=Z o->b∉X.ex->b∉ch:=λb o e a hb=>by
  rcases(hch b hb).1 with z|z
  .exact a z
  .exact ar (cw (a9 e) z) (fT _)
 have cellK:∀x c,X.a4.cells.lookup x=Z c->∀v,s.heap.IsCell c v->h'.IsCell c v:=λx c e v #v[o,h,hd]=>by
  have nch:c∉ch:=λz=>(hch c z).2.2.1 x c e O;by_cases A:c∈X.fs
  .obtain⟨sl,q⟩:=slot c o (I.cne x c e) A nch h (I.ke x c e);exact#v[_,q,hd]
  .exact#v[o,keep c o (I.cne x c e) A nch h (I.ke x c e),hd]
 refine#v[I.ok,I.os,hg,#v[λb o e n hb a=>?_,λb o e n hb a=>?_,λb o e n a=>?_,λb o e a=>?_,λb xs e=>u1 b xs (I.a5.u1 b xs e),λb o xs e=>vl b o xs (I.a5.vl b o xs e),λb ps e=>?_],?_,λx c e=>?_,?_,λx c e=>?_,λp B=>?_,ew,I.len]
 .exact keep b o (neL b o e) hb (neC b o e a) (I.a5.keep b o e n hb a) (I.a5.free b o e n a)
 .obtain⟨sl,f⟩:=I.a5.slot b o e n hb a;obtain⟨y,j⟩:=slot b _ (neL b o e) hb (neC b o e a) f (I.a5.free b o e n a);exact#v[y,j]
 .obtain⟨t,f⟩:=I.a5.there b o e a;exact free b t (neC b o e a) f (I.a5.free b o e n a)
 .obtain⟨t,f⟩:=I.a5.there b o e a;exact there b t (neC b o e a) f
 .obtain⟨F,f⟩:=I.a5.A' b ps e;obtain⟨G,j⟩:=A' b _ f;exact#v[F++G,by rw[j,Array.append_assoc]]
 .obtain⟨m,hn,E⟩:=I.A?;refine#v[m,ns m hn,λi x v f j C=>?_];obtain⟨u,r,l⟩:=E i x v f j C;refine#v[u,r,?_];rcases l with l|⟨k,c,e,z⟩
  .exact .inl l
  .exact .inr #v[k,c,e,cellK x c e _ z]
 .obtain⟨v,z⟩:=I.cell x c e;exact#v[v,cellK x c e v z]
 .obtain⟨m,⟨o,_,_,h,_⟩,_⟩:=I.A?;exact free _ o (λz=>(hch _ z).2.1 O) h I.free
 .obtain⟨v,o,h,hd⟩:=I.cell x c e;exact free c o (λz=>(hch c z).2.2.1 x c e O) h (I.ke x c e)
 .obtain⟨e,n,ne,nf,d⟩:=I.Dv p B;have nch:p.1∉ch:=λz=>(hch p.1 z).2.2.2 p B O;exact#v[keep p.1 p.2 ne nf nch e n,free p.1 p.2 nch e n,ne,nf,d]
def bt.un(I:bt X pins σ H s)(u:Un X.fs [] H H' s.heap h')(ew:n7 X.prog X.w H' h'):bt X pins σ H' { s with heap:=h',toks:=t' }:=by
 obtain⟨m,⟨o,es,ep,f,r⟩,_⟩:=id I.A?;obtain⟨sl,hL⟩:=u.any f I.free (by simp);exact I.step (g':=s.gens) (d':=s.drawn) (ch:=[]) (λy z=>nomatch z) (λb o y hb y e n=>u.keep b o e n hb (by simp)) (λb o y hb y e n=>u.slot b o e n hb (by simp)) (λb o y e n=>u.free b o e n (by simp)) (λb o y e=>u.there b o e (by simp)) u.u1 u.vl u.A' (λl hm=>by
  obtain⟨p,d,c,a,h⟩:=hm;rw[f]at a;cases a;exact#v[_,d,c,hL,h]) ew I.j0
def bt.call(I:bt X pins σ H s)(u:Un (X1 X.stack) ch H H' s.heap h')(ew:n7 X.prog X.w H' h')(hg:fB g')
  (hch:∀b∈ch,(b∈X.ex\/X.s₀.heap.objs.size<=b)/\b≠X.a4.locals/\(∀x c,X.a4.cells.lookup x=Z c->c≠b)/\∀p∈X.pn++pins,p.1≠b):
  bt X pins σ H' { s with heap:=h',gens:=g',drawn:=d',toks:=t' }:=by
 obtain⟨m,⟨o,es,ep,i,r⟩,_⟩:=id I.A?;obtain⟨sl,hL⟩:=u.any i I.free λz=>(hch _ z).2.1 O;exact I.step (ch:=ch) hch (λb o hL hb a e n=>u.keep b o e n (λz=>(aJ.1 (I.I1 b z)).elim hL hb) a) (λb o y y a e n=>u.any e n a) (λb o a e n=>u.free b o e n a) (λb o a e=>u.there b o e a) u.u1 u.vl u.A' (λl hm=>by
  obtain⟨q,h,f,d,j⟩:=hm;rw[i]at d;cases d;exact#v[_,h,f,hL,j]) ew hg
def bt.iE(I:bt X pins σ H s)(k:∀b o,b≠it->s.heap.get? b=Z o->h'.get? b=Z o)(hn:H it=U)(hL:it≠X.a4.locals)
  (h1:it∈X.ex\/X.s₀.heap.objs.size<=it) (h2:∀x c,X.a4.cells.lookup x=Z c->c≠it) (h3:∀p∈X.pn++pins,p.1≠it):bt X pins σ H { s with heap:=h',toks:=t' }:=by
 have nit:∀b u,H b=Z u->b≠it:=λb u e z=>by rw[z,hn]at e;cases e
 refine I.step (g':=s.gens) (d':=s.drawn) (ch:=[it]) (λb hb=>?_) (λb o y y a e y=>k b o (λz=>a (by simp[z])) e) (λb o y y a e y=>#v[o.slots,k b o (λz=>a (by simp[z])) e]) (λy y y y n=>n)
  (λb o a e=>#v[o,k b o (λz=>a (by simp[z])) e]) (λy y e=>e) (λy y y e=>e) (λb ps e=>#v[#[],by rw[e];simp]) (λm hm=>?_) (λb u e=>?_) I.j0
 .have e:b=it:=by simpa using hb
  subst e;exact#v[h1,hL,h2,h3]
 .obtain⟨o,es,ep,d,r⟩:=hm;exact#v[o,es,ep,k _ o (dS hL) d,r]
 .refine(I.ew b u e).Rr (λc v a q=>k c v ?_ q) (λy q=>q) λy y q=>q;rcases a with z|z
  .rw[z];exact nit b u e
  .exact nit c _ z
def bt.rl(I:bt X pins σ H s)(t:Nat):bt X pins σ H { s with toks:=t }:=I.un (h':=s.heap) (t':=t) Un.refl I.ew
theorem bt.fu(I:bt X pins σ H s)(k:∀b u,s.heap.get? b=Z u->h'.get? b=Z u):bt X pins σ H { s with heap:=h',toks:=t' }:=I.un (Un.fu k) (I.ew.fu k)
theorem bt.laid(I:bt X pins σ H s)(k:∀b u,s.heap.get? b=Z u->h'.get? b=Z u)(c:s.heap.objs.size<=a)(new:eo X.prog X.w (eg H a o) h' a o):
  bt X pins σ (eg H a o) { s with heap:=h',toks:=t' }:=I.un (Un.laid k c (I.ew.fresh c)) (I.ew.laid k c new)
theorem bt.t?(I:bt X pins σ H s)(c:Mut (H x))(a:e=x\/H e=Z (.fh x))(k:∀b u,b≠e->s.heap.get? b=Z u->h'.get? b=Z u)(heo:∃u,h'.get? e=Z u)
  (new:eo X.prog X.w (eg H x o) h' x o):bt X pins σ (eg H x o) { s with heap:=h',toks:=d }:=I.un (Un.t? c a k heo) (I.ew.t? c a k heo new)
def bt.b4{a:List (Option V)}(I:bt X pins σ H s)(f:a.length=σ.length)(w:∀(i:Nat) v,a[i]?=Z (Z v)->σ[i]?=Z (Z v)):bt X pins a H s:=
 #v[I.ok,I.os,I.j0,I.a5,let #v[m,h,b]:=I.A?;#v[m,h,λi x v c d e=>b i x v c (w i v d) e],I.cell,I.free,I.ke,I.Dv,I.ew,f.t I.len]
def bt.N?(I:bt X pins σ H s)(h:∀p∈a,s.heap.get? p.1=Z p.2/\H p.1=U/\p.1≠X.a4.locals/\p.1∉X.fs/\∀v,p.2.data≠.cell v):bt X a σ H s:=
 #v[I.ok,I.os,I.j0,I.a5,I.A?,I.cell,I.free,I.ke,λp b=>(aW.1 b).elim (λz=>I.Dv p (bJ _ z)) (h p),I.ew,I.len]
def LK{N:aE}(hN:N.Nodup){i j:Nat}{x:Str}(a:N[i]?=Z x)(b:N[j]?=Z x):i=j:=by obtain⟨e,c⟩:=cj.1 a;obtain⟨f,d⟩:=cj.1 b;exact(jU hN).1 (c.t d.symm)
def Qh(I:bt X pins σ H s)(hN:X.N.Nodup)(hi:X.N[i]?=Z x)(t:Loc X.a4.scope x)(r:dd v u)
  (h:∀s',bt X pins (σ.set i (Z v)) H s'->(∃a,ee a s.heap s'.heap/\(a=X.a4.locals\/X.a4.cells.lookup x=Z a))->Q () s') (hf:autoParam (X.fn x=γ\/X.a4.scope.names.lookup x=Z .local) zA2._auto_1):ao M A (storeName X.a4 x u) Q E s:=by
 obtain⟨m,hn,hl⟩:=id I.A?;have hcls:(X.a4.scope.kind==.class||(X.a4.scope.kind==.module&&X.a4.locals != X.a4.globals))=δ:=by rw[I.ok.kind];rfl
 have hiσ:i<σ.length:=by rw[I.len];exact(cj.1 hi).1
 have cne:=I.cne;have tracked:∀{a:Addr} {h':Heap},(∃o,s.heap.get? a=Z o/\H a=U)->ee a s.heap h'->n7 X.prog X.w H h':=λ{a h'} ha hs b ob e=>by
  obtain⟨_,_,hfree⟩:=ha;refine(I.ew b ob e).Rr (λc P l q=>(hs.2 c ?_).t q) (λ_ q=>q) λ_ _ q=>q;rintro rfl;rcases l with rfl|l
  .rw[hfree]at e;cases e
  .rw[hfree]at l;cases l
 rcases t with C|C
 .refine wpAny_storeName_local C hn (λh' S hs=>?_) hcls;obtain⟨oL,_,_,hoL,_⟩:=id hn;refine h _ #v[I.ok,I.os,I.j0,#v[λb o e n hb t=>?_,λb o e n hb t=>?_,I.a5.free,λb o e t=>?_,I.a5.u1,I.a5.vl,I.a5.A'],#v[_,S,λj y v' f B R=>?_],λy c e=>?_,I.free,I.ke,λp T=>?_,tracked #v[oL,hoL,I.free] hs,by simpa using I.len] #v[_,hs,.inl O]
  .exact(hs.2 b (bg (cw (a9 e) I.ok.above))).t (I.a5.keep b o e n hb t)
  .obtain⟨sl,f⟩:=I.a5.slot b o e n hb t;exact#v[sl,(hs.2 b (bg (cw (a9 e) I.ok.above))).t f]
  .obtain⟨W,f⟩:=I.a5.there b o e t;exact#v[W,(hs.2 b (bg (cw (a9 e) I.ok.above))).t f]
  .by_cases F:j=i
   .subst F;rw[hi]at f;cases f;rw[jG hiσ]at B;cases B;exact#v[u,r,.inl #v[C,by simp]]
   .rw[lA (dS F)]at B;obtain⟨u',Y,q⟩:=hl j y v' f B R;refine#v[u',Y,?_];rcases q with ⟨k,e⟩|⟨k,c,e,z⟩
    .refine .inl #v[k,?_];have:y≠x:=λe=>F (LK hN f (e▸hi));simp[this,e]
    .exact .inr #v[k,c,e,z.sameBut hs (cne y c e)]
  .obtain⟨P,z⟩:=I.cell y c e;exact#v[P,z.sameBut hs (cne y c e)]
  .obtain⟨e,n,ne,nf,d⟩:=I.Dv p T;exact#v[(hs.2 p.1 ne).t e,n,ne,nf,d]
 .have hfn:X.fn x=γ:=by
   rcases hf with z|z
   .exact z
   .rw[z]at C;cases C
  obtain⟨c,l⟩:=I.ok.has x (.inl C);obtain⟨P,z⟩:=I.cell x c l;refine wpAny_storeName_cell I.ok.kind C l z (λh' G hs=>?_);obtain⟨oc,hoc,hocd⟩:=id z;refine h { s with heap:=h' } #v[I.ok,I.os,I.j0,#v[λb o e n hb t=>?_,λb o e n hb t=>?_,I.a5.free,λb o e t=>?_,I.a5.u1,I.a5.vl,I.a5.A'],#v[m,hn.sameBut hs (dS (cne x c l)),λj y v' f B R=>?_],λy J e=>?_,I.free,I.ke,λp T=>?_,tracked #v[oc,hoc,I.ke x c l] hs,by simpa using I.len] #v[c,hs,.inr l]
  .exact(hs.2 b (bg (cw (a9 e) (I.ok.cab x c hfn l)))).t (I.a5.keep b o e n hb t)
  .obtain⟨sl,f⟩:=I.a5.slot b o e n hb t;exact#v[sl,(hs.2 b (bg (cw (a9 e) (I.ok.cab x c hfn l)))).t f]
  .obtain⟨W,f⟩:=I.a5.there b o e t;exact#v[W,(hs.2 b (bg (cw (a9 e) (I.ok.cab x c hfn l)))).t f]
  .by_cases F:j=i
   .subst F;rw[hi]at f;cases f;rw[jG hiσ]at B;cases B;exact#v[u,r,.inr #v[.inl C,c,l,G]]
   .rw[lA (dS F)]at B;obtain⟨u',Y,q⟩:=hl j y v' f B R;refine#v[u',Y,?_];rcases q with q|⟨k,J,e,z'⟩
    .exact .inl q
    .refine .inr #v[k,J,e,z'.sameBut hs ?_];rintro rfl;exact F (LK hN f (I.ok.inj _ _ _ e l▸hi))
  .by_cases hcc:J=c
   .subst hcc;exact#v[_,G]
   .obtain⟨w2,z2⟩:=I.cell y J e;exact#v[w2,z2.sameBut hs hcc]
  .obtain⟨e,n,ne,nf,d⟩:=I.Dv p T;refine#v[(hs.2 p.1 ?_).t e,n,ne,nf,d];intro q;rw[q,hoc]at e;have q':oc=p.2:=cX e;exact d P (by rw[<-q'];exact hocd)
def LL(I:bt X pins σ H s)(hN:X.N.Nodup)(d:X.N[i]?=Z x)(e:Loc X.a4.scope x)(r:dd v u)
  (h:∀a,bt X pins (σ.set i (Z v)) H a->Q () a) (c:autoParam (X.fn x=γ\/X.a4.scope.names.lookup x=Z .local) zA2._auto_1):ao M A (storeName X.a4 x u) Q E s:=
 Qh I hN d e r (λa b y=>h a b) c
def bt.call'{a:ae}(I:bt X pins σ H s)(l:a.os=s.os)(u:Un (X1 X.stack) i H H' s.heap a.heap)(ew:n7 X.prog X.w H' a.heap)(j:fB a.gens)
  (hch:∀b∈i,(b∈X.ex\/X.s₀.heap.objs.size<=b)/\b≠X.a4.locals/\(∀x c,X.a4.cells.lookup x=Z c->c≠b)/\∀p∈X.pn++pins,p.1≠b):bt X pins σ H' a:=by
 obtain⟨h',f,d,h,m⟩:=a;have e:m=s.os:=l;subst e;exact I.call (g':=f) (t':=h) (d':=d) u ew j hch
end
abbrev XK:=ab->Option Addr->Hp->Prop
abbrev St:=List (Option V)
abbrev VK:=V->Hp->Prop
abbrev TE:=St->Hp->VK->Prop
abbrev TT:=St->Hp->(Bool->Hp->Prop)->Prop
abbrev TA:=St->Hp->(bF->Hp->Prop)->Prop
structure E' where
 nx:St->Hp->Prop
 rt:VK
 bk:St->Hp->Prop:=λy y=>False
 ct:St->Hp->Prop:=λy y=>False
abbrev TS:=E'->St->Hp->Prop
def EP(X:Cx)(a:cN)(d:St)(Q:VK)(u:ab)(c:ae):Prop:=∃v b,bt X a d b c/\dd v u/\Q v b
def TP(X:Cx)(a:cN)(e:St)(Q:Bool->Hp->Prop)(b:Bool)(d:ae):Prop:=∃c,bt X a e c d/\Q b c
def AP(X:Cx)(a:cN)(f:St)(Q:bF->Hp->Prop)(e:List ab)(d:ae):Prop:=∃c b,bt X a f b d/\cm c e/\Q c b
def SP(X:Cx)(b:cN)(D:E')(f:Flow)(d:ae):Prop:=
 match f with
 |.next=>∃a c,bt X b a c d/\D.nx a c
 |.brk=>∃a c,bt X b a c d/\D.bk a c
 |.cont=>∃a c,bt X b a c d/\D.ct a c
 |.ret u=>∃v a c,bt X b a c d/\dd v u/\D.rt v c
def PE(X:Cx)(e:Expr)(t:TE):Prop:=
 ∀(a:cN) (s:ae) (b:St) (H:Hp) (Q:VK),bt X a b H s->t b H Q->ao (model X.prog X.w) X.A (eval e X.a4) (EP X a b Q) X.xe s
def PT(X:Cx)(e:Expr)(t:TT):Prop:=
 ∀(a:cN) (s:ae) (b:St) (H:Hp) (Q:Bool->Hp->Prop),bt X a b H s->t b H Q->ao (model X.prog X.w) X.A (isTrue e X.a4 (eval e X.a4)) (TP X a b Q) X.xe s
def PW(X:Cx)(e:Expr)(t:TT):Prop:=
 ∀(whole:Sem ab) (a:cN) (s:ae) (b:St) (H:Hp) (Q:Bool->Hp->Prop),bt X a b H s->t b H Q->ao (model X.prog X.w) X.A (isTrue e X.a4 whole) (TP X a b Q) X.xe s
def PW.pt(h:PW X e t):PT X e t:=h _
def PA(X:Cx)(c:List Expr)(t:TA):Prop:=
 ∀(pos:Pos) (a:cN) (s:ae) (b:St) (H:Hp) (Q:bF->Hp->Prop),bt X a b H s->t b H Q->ao (model X.prog X.w) X.A (spliced (bO pos (aF c X.a4))) (AP X a b Q) X.xe s
def PS(X:Cx)(st:Stmt)(t:TS):Prop:=
 ∀(a:cN) (s:ae) (b:St) (H:Hp) (D:E'),bt X a b H s->t D b H->ao (model X.prog X.w) X.A (exec st X.a4) (SP X a D) X.xe s
def mw(X:Cx)(st:List Stmt)(t:TS):Prop:=
 ∀(a:cN) (s:ae) (b:St) (H:Hp) (D:E'),bt X a b H s->t D b H->ao (model X.prog X.w) X.A (execs st X.a4) (SP X a D) X.xe s
def e0{c:Type}{t:Sem c}{Q b:c->ae->Prop}{M:Model}{A:aQ}{E:ab->ae->Prop}{s:ae}(h:ao M A t Q E s)(hQ:∀a s,Q a s->b a s):ao M A t b E s:=cy h hQ λy y x=>x
section
variable{X:Cx}
def bin{a b:Expr}{o tb:TE}(t:PE X a o)(z:PE X b tb){c:cN}{s:ae}{e:St}{H:Hp}{R:V->V->Hp->Prop}(I:bt X c e H s)(h:o e H λx m=>tb e m λy d=>R x y d)
  {p:Type} {Q:p->ae->Prop} {f:ab->ab->Sem p}
  (B:∀v u l x y d,bt X c e d l->dd x v->dd y u->R x y d->ao (model X.prog X.w) X.A (f v u) Q X.xe l):
  ao (model X.prog X.w) X.A (eval a X.a4) (λv i=>ao (model X.prog X.w) X.A (eval b X.a4) (λu j=>ao (model X.prog X.w) X.A (f v u) Q X.xe j) X.xe i) X.xe s:=by
 refine e0 (t c s e H _ I h) λv J zz=>?_;obtain⟨x,m,q,F,C⟩:=zz;refine e0 (z c J e m _ q C) λu l zz=>?_;obtain⟨y,d,r,G,E⟩:=zz;exact B v u l x y d r F G E
inductive X3(i:Nat) (σ:St) (H:Hp) (Q:VK):Prop
 |i (v) (h0:σ[i]?=Z (Z v)) (h1:Q v H):X3 i σ H Q
def Et(i:Nat):TE:=λa H Q=>X3 i a H Q
def tC(v:V):TE:=λy H Q=>Q v H
def Y4(hN:X.N[i]?=Z x)(p:Vis X.a4.scope x)(hd:autoParam ((x==("__debug__" : Str))=δ) zA1._auto_1)(hcd:autoParam ((x==("__classdict__" : Str))=δ) zA1._auto_1):PE X (.Name x pos) (Et i):=by
 intro b s q H Q I h;obtain⟨v,e,h⟩:=h;obtain⟨m,o,f⟩:=I.A?;obtain⟨u,r,l⟩:=f i x v hN e p;have fin:EP X b q Q u s:=#v[v,H,I,r,h];rcases l with ⟨a,j⟩|⟨a,c,d,hcell⟩
 .exact nS (wpAny_loadName_local I.ok.kind a o j fin) hd
 .rcases a with a|a
  .exact nS (wpAny_loadName_cell I.ok.kind a d hcell fin) hd
  .exact nS (wpAny_loadName_free I.ok.kind a d hcell fin hcd) hd
def RE{i j pos}:PE X (.Constant (.int i) j pos) (tC (.int i)):=λy y y H y I h=>wpAny_Constant_int #v[.int i,H,I.rl _,#v[_,O],h]
def ac3{b j pos}:PE X (.Constant (.bool b) j pos) (tC (.X b)):=λy y y H y I h=>Constant_bool #v[.X b,H,I,O,h]
def Y5{j pos}:PE X (.Constant .none j pos) (tC .O):=λy y y H y I h=>Constant_none #v[.O,H,I,O,h]
def RF{x j pos}:PE X (.Constant (.str x) j pos) (tC (.str x)):=λy y y H y I h=>Calls.Constant_str #v[.str x,H,I.rl _,#v[_,O],h]
def Gl(X:Cx)(x:Str):Prop:=X.a4.kindOf x=Z .globalImplicit
def EX(I:bt X a d H s)(b:Gl X x)(c:X.mg x=Z u)(h:Q u s)
  (hd:autoParam ((x==("__debug__" : Str))=δ) zA1._auto_1):ao (model X.prog X.w) X.A (eval (.Name x pos) X.a4) Q E s:=
 oI I.ok.kind b (Calls.loadGlobal_global (by rw[I.ok.xo];exact I.x?.xo.keeps I.bk) c h) hd
def Cb(I:bt X a l H s)(d:Gl X x)(e:X.mg x=U)(i:d9 x=Z u)(h:Q u s)
  (f:autoParam (x≠"__name__") zA1._auto_1) (hd:autoParam ((x==("__debug__" : Str))=δ) zA1._auto_1):ao (model X.prog X.w) X.A (eval (.Name x pos) X.a4) Q E s:=by
 obtain⟨j,b,c⟩:=I.x?.blt;exact oI I.ok.kind d (Calls.loadGlobal_builtin (by rw[I.ok.xo];exact I.x?.xo.keeps I.bk) e (by rw[I.ok.blt];exact b.keeps I.bk) ((c x f).t i) h) hd
def HB(a:Gl X x)(b:X.mg x=Z u)(r:dd v u)(hd:autoParam ((x==("__debug__" : Str))=δ) zA1._auto_1):PE X (.Name x pos) (tC v):=
 λy y y H y I h=>EX I a b #v[v,H,I,r,h] hd
def Kp(a:Gl X x)(b:X.mg x=U)(d:d9 x=Z u)(r:dd v u)(c:autoParam (x≠"__name__") zA1._auto_1)(hd:autoParam ((x==("__debug__" : Str))=δ) zA1._auto_1):PE X (.Name x pos) (tC v):=
 λy y y H y I h=>Cb I a b d #v[v,H,I,r,h] c hd
variable{a b:Expr}{ta tb:TE}{pos:Pos}
def PC(X:Cx)(h:CmpOp)(a b:Expr)(t:TE):Prop:=
 ∀(c:cN) (s:ae) (f:St) (H:Hp) (Q:VK),bt X c f H s->t f H Q->
  ao (model X.prog X.w) X.A (eval a X.a4) (λv d=>ao (model X.prog X.w) X.A (eval b X.a4) (λu e=>ao (model X.prog X.w) X.A (bC h v u) (EP X c f Q) X.xe e) X.xe d) X.xe s
def tB(t:TE):TT:=λe H Q=>t e H λx d=>∃c,x=.X c/\Q c d
def afq(h:PC X i a b t)(f:gG i b=δ:=by first|exact nobehind _ (by decide) (by decide)|rfl):PT X (.Compare a [i] [b] pos) (tB t):=by intro e s w H Q I o;refine pd (e0 (h e s w H _ I o) λv y f=>e0 f λu z m=>e0 m λc A zz=>?_) f;obtain⟨x,j,l,r,p⟩:=zz;obtain⟨d,rfl,q⟩:=p;cases r;exact dJ #v[j,l,q]
def Y6(h:PE X e t)(j:autoParam (∀whole,isTrue e X.a4 whole=(do let v<-whole;standAt e.pos;holding [v] (truthy v))) zA3._auto_1):PT X e (tB t):=by intro c s p H Q I l;refine isTrue_plain (e0 (h c s p H _ I l) λv r zz=>?_) (j _);obtain⟨x,f,i,o,m⟩:=zz;obtain⟨d,rfl,q⟩:=m;cases o;exact dJ #v[f,i,q]
variable{tA tB':TT}{et:List Expr}
def tAnd(t u:TT):TT:=λe H Q=>t e H λc d=>if c=γ then u e d Q else Q δ d
def θ(t u:TT):TT:=λe H Q=>t e H λc d=>if c=γ then Q γ d else u e d Q
def tNot(t:TT):TT:=λe H Q=>t e H λc d=>Q (!c) d
def VB(f:PT X a tA):PW X (.BoolOp .And [a] pos) tA:=by
 intro l d s i H Q I h;refine isTrue_and (e0 (f d s i H Q I h) λc j e=>?_);cases c with
 |true=>exact isTrue_and_nil e
 |false=>exact e
def Y7(f:PT X a tA):PW X (.BoolOp .Or [a] pos) tA:=by
 intro l d s i H Q I h;refine isTrue_or (e0 (f d s i H Q I h) λc j e=>?_);cases c with
 |false=>exact isTrue_or_nil e
 |true=>exact e
def Y8(l:PT X a tA)(m:PW X (.BoolOp .And (b::et) pos) tB'):PW X (.BoolOp .And (a::b::et) pos) (tAnd tA tB'):=by
 intro p d s j H Q I h;refine isTrue_and (e0 (l d s j H _ I h) λc o zz=>?_);obtain⟨e,f,i⟩:=zz;cases c with
 |true=>exact m p d o j e Q f i
 |false=>exact#v[e,f,i]
def ac5(l:PT X a tA)(m:PW X (.BoolOp .Or (b::et) pos) tB'):PW X (.BoolOp .Or (a::b::et) pos) (θ tA tB'):=by
 intro p d s j H Q I h;refine isTrue_or (e0 (l d s j H _ I h) λc o zz=>?_);obtain⟨e,f,i⟩:=zz;cases c with
 |true=>exact#v[e,f,i]
 |false=>exact m p d o j e Q f i
def Y9(f:PT X a tA):PT X (.UnaryOp .Not a pos) (tNot tA):=by intro d s i H Q I h;exact isTrue_not (f d s i H (λc e=>Q (!c) e) I h)
def ac6(ta tb:TE):TE:=λe H Q=>ta e H λx d=>∃c,x=.X c/\if c=γ then tb e d Q else Q (.X δ) d
def tOrV(ta tb:TE):TE:=λe H Q=>ta e H λx d=>∃c,x=.X c/\if c=γ then Q (.X γ) d else tb e d Q
def ac7(ta:TE):TE:=λe H Q=>ta e H λx d=>∃c,x=.X c/\Q (.X (!c)) d
def Za{e}(h:PE X a t):PE X (.BoolOp e [a] pos) t:=λc s f H Q I d=>BoolOp_one (h c s f H Q I d)
def Zb(l:PE X a ta)(m:PE X (.BoolOp .And (b::et) pos) tb):PE X (.BoolOp .And (a::b::et) pos) (ac6 ta tb):=by
 intro d s j H Q I h;refine BoolOp_and (e0 (l d s j H _ I h) λv p zz=>?_);obtain⟨x,f,i,o,e⟩:=zz;obtain⟨c,rfl,e⟩:=e;cases o;refine dJ ?_;cases c with
 |true=>exact m d p j f Q i e
 |false=>exact#v[.X δ,f,i,O,e]
def ac8(l:PE X a ta)(m:PE X (.BoolOp .Or (b::et) pos) tb):PE X (.BoolOp .Or (a::b::et) pos) (tOrV ta tb):=by
 intro d s j H Q I h;refine BoolOp_or (e0 (l d s j H _ I h) λv p zz=>?_);obtain⟨x,f,i,o,e⟩:=zz;obtain⟨c,rfl,e⟩:=e;cases o;refine dJ ?_;cases c with
 |false=>exact m d p j f Q i e
 |true=>exact#v[.X γ,f,i,O,e]
def Zc(j:PE X a ta):PE X (.UnaryOp .Not a pos) (ac7 ta):=by intro d s m H Q I h;refine UnaryOp_ (e0 (j d s m H _ I h) λv o zz=>?_);obtain⟨x,f,i,l,e⟩:=zz;obtain⟨c,rfl,e⟩:=e;cases l;exact not_of (dJ #v[.X (!c),f,i,O,e])
def tIf(t:TT)(ta tb:TE):TE:=λd H Q=>t d H λc e=>if c=γ then ta d e Q else tb d e Q
def RG(q:PT X c tA)(o:PE X a ta)(p:PE X b tb):PE X (.IfExp c a b pos) (tIf tA ta tb):=by
 intro e s f H Q I h;refine wpAny_IfExp (e0 (q e s f H _ I h) λd m zz=>?_);obtain⟨i,j,l⟩:=zz;cases d with
 |true=>exact o e m f i Q j l
 |false=>exact p e m f i Q j l
end
def fb(K:av)(H:Hp)(a:Addr)(c:bF):Prop:=
 Rd H a (.a3 c)\/
  ∃(o:Obj) (b:Array ab) (n:Nat),K.lookup a=Z o/\o.cls=.type "list" /\ o.dict=U/\o.data=.seq b n/\b.size<=aI/\cm c b.toList
def e8(K:av)(H:Hp)(a:Addr)(c:bF):Prop:=
 Rd H a (.a7 c)\/
  ∃(o:Obj) (b:Array ab) (n:Nat),K.lookup a=Z o/\o.cls=.type "tuple" /\ o.data=.seq b n/\b.size<=aI/\cm c b.toList
def absV:ab->Option V
 |.none=>Z .O
 |.bool b=>Z (.X b)
 |.int i _=>Z (.int i)
 |.str x _=>Z (.str x)
 |.bytes b _=>Z (.Xi b)
 |.float b _=>Z (.flt b)
 |.ref a=>Z (.ref a)
 |.type n=>Z (.ty n)
 |_=>U
def dd.abs(r:dd x u):absV u=Z x:=by
 cases x with
 |O=>cases r;rfl
 |X _=>cases r;rfl
 |int _=>obtain⟨t,rfl⟩:=r;rfl
 |str _=>obtain⟨t,rfl⟩:=r;rfl
 |Xi _=>obtain⟨t,rfl⟩:=r;rfl
 |flt _=>obtain⟨t,rfl⟩:=r;rfl
 |ref _=>cases r;rfl
 |ty _=>cases r;rfl
def dd.inj(r:dd x u)(q:dd y u):x=y:=cX (r.abs.symm.t q.abs)
theorem cm.inj:∀{b c:bF} {a:List ab},cm b a->cm c a->b=c
 |_,_,_,.nil,.nil=>rfl
 |_,_,_,.cons r t,.cons d e=>by rw[r.inj d,cm.inj t e]
section
variable{X:Cx}{pins:cN}{σ:St}{H:Hp}{s:ae}{a:Addr}{xs ys:bF}
set_option r "fb 3;e8 7" in def ϑ0.of{K:av}(h:H a=Z (.aϑ1 xs)):ϑ0 K H a xs:=.inl (.inl h)
def bt.list(I:bt X pins σ H s)(h:fb X.K H a xs):∃its:List ab,cm xs its/\PlainL s.heap a its.toArray/\xs.length<=aI:=by
 rcases h with h|⟨o,its,n,c,b,hd,d,f,r⟩
 .obtain⟨z,its,n,r,e⟩:=h.ok I.ew;exact#v[its,r,#v[_,n,e,O,O,O],z]
 .refine#v[its.toList,r,#v[o,n,I.la a o c,b,hd,by simpa using d],?_];have e:=r.length;simp only[bR]at e;omega
def bt.tuple(I:bt X pins σ H s)(h:e8 X.K H a xs):∃b:List ab,cm xs b/\fF s.heap a b.toArray/\xs.length<=aI:=by
 rcases h with h|⟨o,b,n,d,c,f,i,r⟩
 .obtain⟨z,b,r,p,_⟩:=h.ok I.ew;exact#v[b,r,p,z]
 .refine#v[b.toList,r,#v[o,I.la a o d,c,n,by simpa using f],?_];have e:=r.length;simp only[bR]at e;omega
def bt.C'(I:bt X pins σ H s)(h:fb X.K H a xs)(l:fb X.K H a ys):xs=ys:=by
 obtain⟨c,r,⟨o,n,e,_,_,d⟩,_⟩:=I.list h;obtain⟨b,m,⟨q,p,i,_,_,f⟩,_⟩:=I.list l;rw[e]at i;cases i;rw[d]at f;injection f with j _;have:c=b:=by simpa using bD rK j
 subst this;exact r.inj m
def bt.yr(I:bt X pins σ H s)(h:e8 X.K H a xs)(l:e8 X.K H a ys):xs=ys:=by
 obtain⟨c,r,⟨o,e,_,n,d⟩,_⟩:=I.tuple h;obtain⟨b,m,⟨q,i,_,p,f⟩,_⟩:=I.tuple l;rw[e]at i;cases i;rw[d]at f;injection f with j _;have:c=b:=by simpa using bD rK j
 subst this;exact r.inj m
end
abbrev Cx.wh(X:Cx)(E:ab->ae->Prop):Cx:={ X with xe:=E }
abbrev Cx.nox(X:Cx):Cx:=X.wh λy y=>False
theorem Cx.Ok.wh{X:Cx}(ok:X.Ok)(E:ab->ae->Prop):(X.wh E).Ok:=
 #v[ok.x?,ok.kind,ok.xo,ok.blt,ok.above,ok.inj,ok.has,ok.cab,ok.hd,ok.frames,ok.stk,ok.exf,ok.bs,ok.μ,ok.T',ok.R?,ok.p?,ok.frf]
def Cx.Ok.lb{X:Cx}(ok:(X.wh E).Ok):X.Ok:=
 #v[ok.x?,ok.kind,ok.xo,ok.blt,ok.above,ok.inj,ok.has,ok.cab,ok.hd,ok.frames,ok.stk,ok.exf,ok.bs,ok.μ,ok.T',ok.R?,ok.p?,ok.frf]
section
variable{X:Cx}{pins:cN}{σ:St}{H:Hp}{s:ae}{E:ab->ae->Prop}
theorem bt.wh(I:bt X pins σ H s)(E:ab->ae->Prop):bt (X.wh E) pins σ H s:=#v[I.ok.wh E,I.os,I.j0,I.a5,I.A?,I.cell,I.free,I.ke,I.Dv,I.ew,I.len]
theorem bt.lb(I:bt (X.wh E) pins σ H s):bt X pins σ H s:=#v[I.ok.lb,I.os,I.j0,I.a5,I.A?,I.cell,I.free,I.ke,I.Dv,I.ew,I.len]
theorem SP.lb(h:SP (X.wh E) pins D f c):SP X pins D f c:=by
 cases f with
 |next=>obtain⟨a,b,I,q⟩:=h;exact#v[a,b,I.lb,q]
 |brk=>obtain⟨a,b,I,q⟩:=h;exact#v[a,b,I.lb,q]
 |cont=>obtain⟨a,b,I,q⟩:=h;exact#v[a,b,I.lb,q]
 |ret u=>obtain⟨v,a,b,I,r,q⟩:=h;exact#v[v,a,b,I.lb,r,q]
theorem mw.nox{st:List Stmt}{t:TS}(h:mw X.nox st t):mw X st t:=λpins s σ H D I a=>
 cy (h pins s σ H D (I.wh _) a) (λy y q=>q.lb) λy y z=>dc z
end
section
variable{X:Cx}{st:Stmt}{et:List Stmt}{t u:TS}{e:Expr}{te:TE}{pos:Pos}
def ac9:TS:=λD a H=>D.nx a H
def tSeq(t u:TS):TS:=λD σ H=>t { D with nx:=u D } σ H
def VC:mw X [] ac9:=λy y a H y I h=>jZ #v[a,H,I,h]
def HM(h1:PS X st t)(h2:mw X et u):mw X (st::et) (tSeq t u):=by
 intro pins s σ H D I h;refine qv (e0 (h1 pins s σ H { D with nx:=u D } I h) λf b q=>?_);cases f with
 |next=>obtain⟨σ',H',a,q⟩:=q;exact h2 pins b σ' H' D a q
 |ret v=>exact q
 |brk=>exact q
 |cont=>exact q
def Kq(b:PS X st t):mw X [st] t:=by
 intro a s c H D I h;refine qv (e0 (b a s c H D I h) λf d q=>?_);cases f with
 |next=>exact jZ q
 |ret v=>exact q
 |brk=>exact q
 |cont=>exact q
def bt.quiet(I:bt X a b H s):interactive X.a4=δ:=by simp[interactive,I.ok.kind]
def X4(te:TE):TS:=λD a H=>te a H λy b=>D.nx a b
def OE(f:PE X e te)(i:autoParam (dR e U pos.line X.a4=pure δ) zA0._auto_1):PS X (.Expr e pos) (X4 te):=by intro a s b H D I h;exact wpAny_Expr_any (e0 (f a s b H _ I h) λv m #v[x,c,d,l,j]=>#v[b,c,d,j]) I.quiet i
def tRet(te:TE):TS:=λD a H=>te a H D.rt
def Nl(f:PE X e te):PS X (.Return (Z e) pos) (tRet te):=by intro a s b H D I h;exact wpAny_Return_some (e0 (f a s b H _ I h) λv l #v[x,c,d,j,i]=>#v[x,b,c,d,j,i])
def tIfS(c:TT)(t u:TS):TS:=λD a H=>c a H λb d=>if b=γ then t D a d else u D a d
def adb(r:PT X c tc)(p:mw X a t)(q:mw X b u):PS X (.If c a b pos) (tIfS tc t u):=by
 intro f s i H D I h;refine wpAny_If (e0 (r f s i H _ I h) λd o zz=>?_);obtain⟨j,l,m⟩:=zz;cases d with
 |true=>exact p f o i j D l m
 |false=>exact q f o i j D l m
end
set_option r "G V;Gs bF" in abbrev Tϑ0:=ϑ1->St->Hp->(St->Hp->Prop)->Prop
def PG(X:Cx)(target:Expr)(t:TG):Prop:=
 ∀(a:cN) (s:ae) (d:St) (H:Hp) (v:V) (u:ab) (Q:St->Hp->Prop),bt X a d H s->dd v u->t v d H Q->
  ao (model X.prog X.w) X.A (assign target X.a4 u) (λy e=>∃b c,bt X a b c e/\Q b c) X.xe s
def Ls(X:Cx)(i:List Expr)(t:TGs):Prop:=
 ∀(a:cN) (s:ae) (f:St) (H:Hp) (e:bF) (d:List ab) (Q:St->Hp->Prop),bt X a f H s->cm e d->t e f H Q->
  ao (model X.prog X.w) X.A (assignInOrder ((de i X.a4).map (·.2)) d) (λy h=>∃b c,bt X a b c h/\Q b c) X.xe s
section
variable{X:Cx}{pos:Pos}
def A2(i:Nat):TG:=λv a H Q=>Q (a.set i (Z v)) H
def OF(hN:X.N.Nodup)(d:X.N[i]?=Z x)(e:Loc X.a4.scope x)(c:autoParam (X.fn x=γ\/X.a4.scope.names.lookup x=Z .local) zA2._auto_1):PG X (.Name x pos) (A2 i):=by intro a s j H v u Q I r h;exact wpAny_assign_Name (LL I hN d e r (λf b=>#v[_,H,b,h]) c)
def gNil:TGs:=λa b H Q=>a=[]/\Q b H
inductive RH(t:TG) (u:TGs) (vs:bF) (σ:St) (H:Hp) (Q:(St->Hp->Prop)):Prop
 |i (v r) (h0:vs=v::r) (h1:t v σ H λσ' H'=>u r σ' H' Q):RH t u vs σ H Q
def X5(t:TG)(u:TGs):TGs:=λa b H Q=>RH t u a b H Q
def VE:Ls X [] gNil:=by intro a s b H d c Q I r h;obtain⟨e,h⟩:=h;subst e;cases r;exact assignInOrder_nil #v[b,H,I,h]
def RI(j:PG X e t)(l:Ls X b u)
  (m:autoParam ((de (e::b) X.a4).map (·.2)=assign e X.a4::(de b X.a4).map (·.2)) zA0._auto_1):Ls X (e::b) (X5 t u):=by
 intro a s w H z x Q I r h;obtain⟨v,y,i,h⟩:=h;subst i;cases r with
 |cons r p=>rw[m];refine assignInOrder_cons (e0 (j a s w H _ _ _ I r h) λn q zz=>?_);obtain⟨c,d,f,o⟩:=zz;exact l a q c d _ _ Q f p o
inductive X6(K:av) (n:Nat) (t:TGs) (v:V) (σ:St) (H:Hp) (Q:(St->Hp->Prop)):Prop
 |i (a xs) (h0:v=.ref a) (h1:e8 K H a xs) (h2:xs.length=n) (h3:t xs σ H Q):X6 K n t v σ H Q
def Zd(K:av)(n:Nat)(t:TGs):TG:=λv a H Q=>X6 K n t v a H Q
def Ze(i:X.l0=γ)(h:Ls X es t)
  (hn:autoParam ((de es X.a4).length=n) zA0._auto_1) (hst:autoParam ((de es X.a4).findIdx? (·.1)=U) zA0._auto_1):PG X (.Tuple es k pos) (Zd X.K n t):=by
 intro pins s σ H v u Q I r hw;obtain⟨a,xs,f,l,j,hw⟩:=hw;subst f;cases r;obtain⟨q,c,m,w⟩:=I.tuple l;refine assign_Tuple_tuple (I.ok.hd i) m (by simp[hn,<- j,c.length]) hst λh' p=>?_;have d:bt X pins σ H { s with heap:=h' }:=I.fu (t':=s.toks) λb o e=>p b o (bg (a9 e)) e;exact h pins _ σ H xs _ Q d (by simpa using c) hw
def EY(c:TE)(g:TG):TS:=λD a H=>c a H λx b=>g x a b D.nx
def Zf(j:PE X e u)(l:PG X b g)(m:autoParam (swapsWithSole [b] e pos.line X.a4=pure δ) zA0._auto_1)(o:autoParam (swappedStores [b] e X.a4=pure U) zA0._auto_1)
  (i:autoParam ((de [b] X.a4).map (·.2)=[assign b X.a4]) zA0._auto_1):PS X (.Assign [b] e pos) (EY u g):=by
 intro a s c H D I h;refine wpAny_Assign_stores (e0 (j a s c H _ I h) λv t zz=>?_) m o;obtain⟨x,d,f,r,p⟩:=zz;rw[i];exact e0 (l a t c d x v _ f r p) λy w q=>q
def Zg(hN:X.N.Nodup)(l:X.N[i]?=Z x)(o:Loc X.a4.scope x)(f:PE X e r)(m:autoParam (dR e (Z (.Name x pos')) pos.line X.a4=pure δ) zA0._auto_1)(j:autoParam (X.fn x=γ\/X.a4.scope.names.lookup x=Z .local) zA2._auto_1):
  PS X (.Assign [.Name x pos'] e pos) (EY r (A2 i)):=by
 intro a s t H D I h;refine wpAny_Assign_Name (e0 (f a s t H _ I h) λv u zz=>?_) m;obtain⟨y,b,c,q,p⟩:=zz;exact LL c hN l o q (λw d=>#v[_,b,d,p]) j
end
section
variable{X:Cx}{pos:Pos}
inductive OG(c:TT) (tb:TS) (D:E') (σ:St) (H:Hp):Prop
 |i (W:Nat->St->Hp->Prop) (h0:(∃m,W m σ H)) (h1:∀m σ H,W m σ H->c σ H λb H1=>if b=γ then ∃N:St->Hp->Prop,(∀σ' H',N σ' H'->∃m',m'<m/\W m' σ' H')/\tb { D with nx:=N,ct:=N,bk:=D.nx } σ H1 else D.nx σ H1):OG c tb D σ H
def RJ(c:TT)(tb:TS):TS:=λD a H=>OG c tb D a H
def RK(z:ku (model X.prog X.w) X.A X.a4 X.xe)(E:PT X c tc)(C:mw X body tb):PS X (.While c body [] pos) (RJ tc tb):=by
 intro a s R H D I h;obtain⟨W,⟨F,P⟩,turn⟩:=h;refine wpAny_While (codeAny_whileLoop (λn G=>∃j t,bt X a j t G/\W n j t) ?_ F #v[R,H,I,P]);rintro n J ⟨e,u,B,Q⟩;refine gz z (e0 (E a J e u _ B (turn n e u Q)) λb M zz=>?_);obtain⟨x,y,l⟩:=zz;cases b with
 |true=>
  obtain⟨N,hN,l⟩:=l;rw[aj O];refine gz z (e0 (C a M e x _ y l) λf S q3=>?_);cases f with
  |next=>obtain⟨d,i,m,q⟩:=q3;obtain⟨p,o,r⟩:=hN d i q;exact#v[p,o,d,i,m,r]
  |cont=>obtain⟨d,i,m,q⟩:=q3;obtain⟨p,o,r⟩:=hN d i q;exact#v[p,o,d,i,m,r]
  |brk=>exact q3
  |ret v=>exact q3
 |false=>rw[ak bG];exact jZ #v[e,x,y,l]
end
structure It where
 go:Nat->Hp->Prop
 yld:Nat->Hp->V->Hp->Prop
 stop:Nat->Hp->Prop
def Kr(X:Cx)(a:cN)(H:Hp)(b:Addr):Prop:=
 H b=U/\b≠X.a4.locals/\b∉X.fs/\(b∈X.ex\/X.s₀.heap.objs.size<=b)/\(∀x c,X.a4.cells.lookup x=Z c->c≠b)/\∀p∈X.pn++a,p.1≠b
def bt.Q0(I:bt X d j H s)(a:s.heap.objs.size<=b)(h:f b=U):Kr X d f b:=by
 refine#v[h,gQ (cw I.lt a),I.nofs a,.inr (bz I.sz a),λx c e z=>?_,λp i z=>?_]
 .obtain⟨v,q⟩:=I.cell x c e;exact ar (cw q.lt (by rw[z];exact a)) (fT _)
 .exact ar (cw (a9 (I.Dv p i).1) (by rw[z];exact a)) (fT _)
structure Ra(P:aL)(w:aC)(K:av)(tg:Expr)(J:It)(fp:List Addr)(it:Addr)(tn:Nat->Heap->Prop):Prop where
 mem:it∈fp
 obj:∀i h,tn i h->∀b∈fp,∃o,h.get? b=Z o/\∀v,o.data≠.cell v
 keep:∀i h h',tn i h->(∀b∈fp,∀o,h.get? b=Z o->h'.get? b=Z o)->tn i h'
 item:∀(X:Cx),X.prog=P->X.w=w->X.K=K->X.l0=γ->∀(i:Nat) (pins:cN) (s:ae) (σ:St) (H:Hp) (E:ab->ae->Prop),bt X pins σ H s->(∀b∈fp,Kr X pins H b)->tn i s.heap->J.go i H->
  ao (model P w) X.A (pyNext (.ref it)) (λr s1=>∃u,r=Z u/\
   ao (model P w) X.A (jd tg (.ref it) u) (λy s2=>∃x H',bt X pins σ H' s2/\dd x u/\J.yld i H x H'/\tn (i+1) s2.heap/\∀b∈fp,H' b=U) E s1) E s
 done:∀(X:Cx),X.prog=P->X.w=w->X.K=K->X.l0=γ->∀(i:Nat) (pins:cN) (s:ae) (σ:St) (H:Hp) (E:ab->ae->Prop),bt X pins σ H s->(∀b∈fp,Kr X pins H b)->tn i s.heap->J.stop i H->
  ao (model P w) X.A (pyNext (.ref it)) (λr s1=>r=U/\bt X pins σ H s1) E s
 self:∀(A:aQ) (i:Nat) (s:ae) (Q:ab->ae->Prop) (E:ab->ae->Prop),tn i s.heap->Q (.ref it) s->ao (model P w) A (pyIter (.ref it)) Q E s
abbrev TI:=St->Hp->(It->Hp->Prop)->Prop
def PIE(X:Cx)(a:cN)(j:St)(i:Expr)(R:It->Hp->Prop)(itv:ab)(f:ae):Prop:=
 ∃(e:Addr) (d:List Addr) (h:Nat->Heap->Prop) (J:It) (c:Hp),itv=.ref e/\bt X a j c f/\Ra X.prog X.w X.K i J d e h/\h 0 f.heap/\(∀b∈d,Kr X a c b)/\R J c
def PI(X:Cx)(d iter:Expr)(e:TI):Prop:=
 ∀(a:cN) (s:ae) (b:St) (H:Hp) (R:It->Hp->Prop),bt X a b H s->e b H R->
  ao (model X.prog X.w) X.A (eval iter X.a4) (λv c=>ao (model X.prog X.w) X.A (pyIter v) (PIE X a b d R) X.xe c) X.xe s
def OH{s:ae}(c:s.heap.get? d=Z o)(a:o.cls=.type n)(hd:o.data=.fields f)
  (b:["enumerate", "zip", "dict_itemiterator", "dict_reverseitemiterator", "odict_iterator", "itertools.zip_longest", "itertools.pairwise"].contains n=δ) (hQ:Q () s):ao M A (jd e (.ref d) u) Q E s:=by
 unfold jd;cases e<;>first
  |exact aq hQ
  |(cases u<;>first
    |exact aq hQ
    |(refine ah (wpAny_load c ?_)
      rw[a,hd];show ao M A (if (["enumerate", "zip", "dict_itemiterator", "dict_reverseitemiterator", "odict_iterator", "itertools.zip_longest", "itertools.pairwise"].contains n&&f[0]?==Z (rawInt _))=γ then _ else _) Q E s;rw[ak (by intro h;rw[b,qW]at h;cases h)];exact aq hQ))
set_option r "l fb;t e8" in def Itϑ0(K:av)(a:Addr):It:=
 #v[λi H=>∃b x,ϑ1 K H a b/\b[i]?=Z x,λi H x c=>c=H/\∀b,ϑ1 K H a b->b[i]?=Z x,λi H=>∃b,ϑ1 K H a b/\b.length<=i]
def Itr(lo:Int)(n:Nat):It:=#v[λi y=>i<n,λi H x a=>a=H/\x=.int (lo+i),λi y=>n<=i]
def Qi{P:aL}{w:aC}{K:av}{tg:Expr}(a it:Addr):Ra P w K tg (Itl K a) [it] it (λi h=>h.IsListIter it a i) where
 mem:=by simp
 obj:=λi h st b hb=>by
  have e:b=it:=by simpa using hb
  subst e;obtain⟨o,e,c,d⟩:=st;exact#v[o,e,λv z=>by rw[d]at z;cases z]
 keep:=λi h h' st k=>st.at λo e=>k it (by simp) o e
 item:=by intro X hP hw hK C i pins s σ H E I hf st hg;subst hP hw hK;obtain⟨xs,x,j,y⟩:=hg;obtain⟨A,B,p,Q⟩:=I.list j;obtain⟨u,M,R⟩:=B.get y;obtain⟨l,m,J,q,r,t⟩:=hf it (by simp);refine wpAny_pyNext_list_item st p.isList (x:=u) (by simpa using M) λh' f S=>?_;have F:bt X pins σ H { s with heap:=h' }:=I.iE (t':=s.toks) (λb o hb e=>(S.2 b hb).t e) l m q r t;obtain⟨o,e,c,d⟩:=id f;exact#v[u,O,OH (s:={ s with heap:=h' }) e c d (by decide) #v[x,H,F,R,#v[O,λY N=>by rw[I.C' N j];exact y],f,λb hb=>(hf b hb).1]]
 done:=by intro X hP hw hK C i pins s σ H E I hf st hg;subst hP hw hK;obtain⟨xs,j,y⟩:=hg;obtain⟨A,B,p,Q⟩:=I.list j;obtain⟨l,m,J,q,r,t⟩:=hf it (by simp);have W:=B.length;exact wpAny_pyNext_list_end (I.ok.hd C) st p.isList (by simp;omega) λh' G=>#v[O,I.iE (t':=s.toks) (λb o hb e=>G b o hb e) l m q r t]
 self:=λn n n n n st h=>wpAny_pyIter_listiter st h
def Np{P:aL}{w:aC}{K:av}{tg:Expr}(a it:Addr):Ra P w K tg (Itt K a) [it] it (λi h=>h.IsTupleIter it a i) where
 mem:=by simp
 obj:=λi h st b hb=>by
  have e:b=it:=by simpa using hb
  subst e;obtain⟨o,e,c,d⟩:=st;exact#v[o,e,λv z=>by rw[d]at z;cases z]
 keep:=λi h h' st k=>st.at λo e=>k it (by simp) o e
 item:=by intro X hP hw hK C i pins s σ H E I hf st hg;subst hP hw hK;obtain⟨xs,x,l,A⟩:=hg;obtain⟨f,B,p,Q⟩:=I.tuple l;obtain⟨u,M,R⟩:=B.get A;obtain⟨m,q,J,r,t,y⟩:=hf it (by simp);refine wpAny_pyNext_tuple_item st (show s.heap.IsTuple a f.toArray from p) (x:=u) (by simpa using M) λh' j S=>?_;have F:bt X pins σ H { s with heap:=h' }:=I.iE (t':=s.toks) (λb o hb e=>(S.2 b hb).t e) m q r t y;obtain⟨o,e,c,d⟩:=id j;exact#v[u,O,OH (s:={ s with heap:=h' }) e c d (by decide) #v[x,H,F,R,#v[O,λY N=>by rw[I.yr N l];exact A],j,λb hb=>(hf b hb).1]]
 done:=by intro X hP hw hK C i pins s σ H E I hf st hg;subst hP hw hK;obtain⟨xs,l,A⟩:=hg;obtain⟨f,B,p,Q⟩:=I.tuple l;obtain⟨m,q,J,r,t,y⟩:=hf it (by simp);have W:=B.length;exact wpAny_pyNext_tuple_end (I.ok.hd C) st (show s.heap.IsTuple a f.toArray from p) (by simp;omega) λh' G=>#v[O,I.iE (t':=s.toks) (λb o hb e=>G b o hb e) m q r t y]
 self:=λn n n n n st h=>wpAny_pyIter_tupleiter st h
def Nq{P:aL}{w:aC}{K:av}{tg:Expr}(it:Addr)(lo:Int)(n:Nat):Ra P w K tg (Itr lo n) [it] it (λi h=>IsRangeIter h it (lo+(i:Nat) * 1) ((n:Int) - (i:Nat)) 1) where
 mem:=by simp
 obj:=λi h st b hb=>by
  have e:b=it:=by simpa using hb
  subst e;exact#v[_,st,λv z=>by
   have y:Data.fields _=Data.cell v:=z;cases y]
 keep:=λi h h' st k=>k it (by simp) _ st
 item:=by intro X hP hw hK m i pins s σ H E I hf st hg;subst hP hw hK;obtain⟨c,d,r,f,j,l⟩:=hf it (by simp);have W:=Walks.range (prog:=X.prog) (w:=X.w) (I.ok.hd m) it lo 1 n;refine W.item i s _ _ hg st λv h' tk u a x=>?_;obtain⟨t,rfl⟩:=u;have p:bt X pins σ H { s with heap:=h',toks:=tk }:=I.iE (λb o hb e=>x b o (by simpa using hb) e) c d f j l;refine#v[_,O,OH (s:={ s with heap:=h',toks:=tk }) (n:="range_iterator") a rfl O (by decide) #v[.int (lo+i),H,p,#v[t,?_],#v[O,O],a,λb hb=>(hf b hb).1]];rw[Int.mul_one]
 done:=by intro X hP hw hK m i pins s σ H E I hf st hg;subst hP hw hK;obtain⟨c,d,r,f,j,l⟩:=hf it (by simp);exact wpAny_pyNext_range_end (I.ok.hd m) st (by have:n<=i:=hg;omega) λh' q=>#v[O,I.iE (t':=s.toks) (λb o hb e=>q b o hb e) c d f j l]
 self:=λ_ _ _ _ _ st h=>wpAny_pyIter_rangeiter st h
section
variable{X:Cx}{tg:Expr}
set_option r "RM fb l;Zh e8 t" in def ϑ0(K:av)(c:TE):TI:=λe H R=>c e H λx b=>∃a,x=.ref a/\(∃d,ϑ1 K b a d)/\R (Itϑ2 K a) b
def VF{l:Expr}{i:TE}(r:PE X l i):PI X tg l (RM X.K i):=by
 intro c s z H R I h;refine e0 (r c s z H _ I h) λv f zz=>?_;obtain⟨x,j,d,y,w⟩:=zz;obtain⟨a,e,⟨E,t⟩,q⟩:=w;subst e;cases y;obtain⟨u,B,p,A⟩:=d.list t;refine ir p.isList ?_;refine#v[f.heap.objs.size,[f.heap.objs.size],_,_,j,O,d.fu (t':=f.toks) λb o e=>aR _ e,Qi a _,#v[_,bw _ O,O,O],λb m=>?_,q];have e:b=f.heap.objs.size:=by simpa using m
 subst e;exact d.Q0 (aH _) (d.ew.fresh (aH _))
def Zi{l:Expr}{j:TE}(t:PE X l j):PI X tg l (Zh X.K j):=by
 intro c s z H R I h;refine e0 (t c s z H _ I h) λv d zz=>?_;obtain⟨x,m,f,y,w⟩:=zz;obtain⟨a,e,⟨E,u⟩,q⟩:=w;subst e;cases y;obtain⟨i,B,p,A⟩:=f.tuple u;refine pT (show d.heap.IsTuple a i.toArray from p) ?_;refine#v[d.heap.objs.size,[d.heap.objs.size],_,_,m,O,f.fu (t':=d.toks) λb o e=>aR _ e,Np a _,#v[_,bw _ O,O,O],λb r=>?_,q];have e:b=d.heap.objs.size:=by simpa using r
 subst e;exact f.Q0 (aH _) (f.ew.fresh (aH _))
def LM{pins:cN}{σ:St}{H:Hp}{s:ae}{R:It->Hp->Prop}{E:ab->ae->Prop}{lo hi:Int}{t u v:Tok}{tk:Nat}(I:bt X pins σ H s)(h1:-(2 ^ 62)<=lo)(h2:lo<2 ^ 62)(h3:-(2 ^ 62)<=hi)(h4:hi<2 ^ 62)
  (q:R (Itr lo (hi - lo).toNat) H):ao (model X.prog X.w) X.A (pyIter (.ref s.heap.objs.size)) (PIE X pins σ tg R) E { s with heap:=s.heap.push { cls:=.type "range", data:=.fields #[.int lo t,.int hi u,.int 1 v] },toks:=tk }:=by
 refine wpAny_pyIter_range (IsRange.new ..) (small_one h1 h2 h3 h4) ?_;have a:bt X pins σ H { s with heap:=s.heap.push { cls:=.type "range", data:=.fields #[.int lo t,.int hi u,.int 1 v] },toks:=tk }:=I.fu λb o e=>aR _ e;refine#v[(s.heap.push { cls:=.type "range", data:=.fields #[.int lo t,.int hi u,.int 1 v] }).objs.size,[(s.heap.push { cls:=.type "range", data:=.fields #[.int lo t,.int hi u,.int 1 v] }).objs.size],_,_,H,O,
  a.fu (t':=tk) λb o e=>aR _ e,Nq _ lo (hi - lo).toNat,?_,λb hb=>?_,q]
 .have c:lo+((0:Nat):Int) * 1=lo:=by simp
  have d:(((hi - lo).toNat:Nat):Int) - ((0:Nat):Int)=ux lo hi 1:=by rw[rangeSize_one];split<;>omega
  show IsRangeIter _ _ (lo+((0:Nat):Int) * 1) ((((hi - lo).toNat:Nat):Int) - ((0:Nat):Int)) 1;rw[c,d];exact bw _ O
 .have e:b=(s.heap.push { cls:=.type "range", data:=.fields #[.int lo t,.int hi u,.int 1 v] }).objs.size:=by simpa using hb
  subst e;exact a.Q0 (aH _) (a.ew.fresh (aH _))
def X7(b:TA):TI:=λd H R=>b d H λc a=>∃j:Int,c=[.int j]/\-(2 ^ 62)<=j/\j<2 ^ 62/\R (Itr 0 j.toNat) a
def X8(b:TA):TI:=λd H R=>b d H λc a=>∃i j:Int,c=[.int i,.int j]/\(-(2 ^ 62)<=i/\i<2 ^ 62/\-(2 ^ 62)<=j/\j<2 ^ 62)/\R (Itr i (j - i).toNat) a
def Qj{a:Expr}{d:TA}{p pos:Pos}(l:Gl X "range")(m:X.mg "range" = U)(i:PA X [a] d)(o:autoParam (aF [a] X.a4=[(δ,eval a X.a4)]) zA0._auto_1):PI X tg (.Call (.Name "range" p) [a] [] pos) (X7 d):=by
 intro b s y H R I h;refine Call_ (Cb I l m boot_range (callWith_type1 (e0 (i pos b s y H _ I h) λB A zz=>?_) o O));obtain⟨C,z,f,w,c⟩:=zz;obtain⟨j,e,c,u,q⟩:=c;subst e;cases w with
 |cons r x=>cases x;obtain⟨t,rfl⟩:=r;exact call_range_1 (LM f (by omega) (by omega) c u (by simpa using q))
def Qk(u:Gl X "range")(w:X.mg "range" = U)(o:PA X [a,b] C)(x:autoParam (aF [a,b] X.a4=[(δ,eval a X.a4),(δ,eval b X.a4)]) zA0._auto_1)(c:autoParam (aF [b] X.a4=[(δ,eval b X.a4)]) zA0._auto_1):
  PI X tg (.Call (.Name "range" p) [a,b] [] pos) (X8 C):=by
 intro d s E H R I h;refine Call_ (Cb I u w boot_range (callWith_type1 (e0 (o pos d s E H _ I h) λM G zz=>?_) (by rw[x,c]) (by rw[c];rfl)));obtain⟨N,F,m,B,f⟩:=zz;obtain⟨i,j,e,⟨f,y,q3,z⟩,q⟩:=f;subst e;cases B with
 |cons r l=>
  cases l with
  |cons A l=>cases l;obtain⟨t,rfl⟩:=r;obtain⟨J,rfl⟩:=A;exact call_range_2 (LM m f y q3 z q)
def Zj(c:TI)(g:TG)(tb:TS):TS:=λD σ H=>c σ H λJ H1=>∃W:Nat->Nat->St->Hp->Prop,(∃m,W 0 m σ H1)/\∀i m σ H,W i m σ H->
 (J.stop i H/\D.nx σ H)\/(J.go i H/\∃N:St->Hp->Prop,(∀σ' H',N σ' H'->∃b,b<m/\W (i+1) b σ' H')/\∀x H',J.yld i H x H'->g x σ H' λa H2=>tb { D with nx:=N,ct:=N,bk:=D.nx } a H2)
def HN(a:List Addr)(h:Heap):cN:=a.filterMap λb=>(h.get? b).map λo=>(b,o)
def AC{h:Heap}(c:b∈a)(e:h.get? b=Z o):(b,o)∈HN a h:=iq.2 #v[b,c,by rw[e];rfl]
def Ql(f:p∈HN c h):p.1∈c/\h.get? p.1=Z p.2:=by
 obtain⟨b,d,e⟩:=iq.1 f;cases q:h.get? b with
 |none=>rw[q]at e;cases e
 |some o=>rw[q]at e;have a:(b,o)=p:=cX e;subst a;exact#v[d,q]
def bt.L'(I:bt X a t H s)(m:∀b∈f,Kr X a H b)(q:∀b∈f,∃o,s.heap.get? b=Z o/\∀v,o.data≠.cell v):bt X (a++HN f s.heap) t H s:=
 I.N? λp r=>(aW.1 r).elim (λz=>I.Dv p (bB _ z)) λz=>by obtain⟨h,e⟩:=Ql z;obtain⟨i,j,l,_⟩:=m p.1 h;obtain⟨o,c,d⟩:=q p.1 h;rw[e]at c;cases c;exact#v[e,i,j,l,d]
def bt.ma(I:bt X (a++pl) c H s):bt X a c H s:=I.N? λp b=>I.Dv p (bB _ (bJ _ b))
def RN(F:ku (model X.prog X.w) X.A X.a4 X.xe)(hc:X.l0=γ)(hi:PI X tg iter wi)(hg:PG X tg g)(p:mw X body tb)
  (hs:autoParam (∀x,i7 iter X.a4 x=pure x) zA3._auto_1):PS X (.For tg iter body [] pos) (Zj wi g tb):=by
 intro a s σ H D I h;refine wpAny_For (e0 (hi a s σ H _ I h) λv s1 h1=>e0 h1 λitv s2 h2=>?_) hs;obtain⟨it,C,tn,J,H2,e,I2,T,st2,f2,W,⟨m0,w0⟩,turn⟩:=h2;subst e;have stat:∀{y:Hp},(∀b∈C,y b=U)->∀b∈C,Kr X a y b:=λhn b p=>#v[hn b p,(f2 b p).2];refine codeAny_forLoop_any (λn s'=>∃i q y,bt X a q y s'/\tn i s'.heap/\(∀b∈C,y b=U)/\W i n q y) ?_ m0 #v[0,σ,H2,I2,st2,λb p=>(f2 b p).1,w0];rintro n s3 ⟨i,t,P,I3,M,E,w3⟩;rcases turn i n t P w3 with ⟨stop,qn⟩|⟨go,N,hN,step⟩
 .refine gz F (e0 (T.done X O O O hc i a s3 t P X.xe I3 (stat E) M stop) λr s4 zz=>?_);obtain⟨S,I4⟩:=zz;subst S;exact jZ #v[t,P,I4,qn]
 .refine gz F (e0 (T.item X O O O hc i a s3 t P X.xe I3 (stat E) M go) λr s4 zz=>?_);obtain⟨u,S,h4⟩:=zz;subst S;refine gz F (e0 h4 λ_ s5 zz=>?_);obtain⟨x,H5,I5,r5,y5,B,R⟩:=zz;have Q:=I5.L' (stat R) (T.obj _ _ B);refine gz F (e0 (hg _ s5 t H5 x u _ Q r5 (step x H5 y5)) λ_ s6 zz=>?_);obtain⟨σ6,H6,I6,q6⟩:=zz;refine gz F (e0 (p _ s6 σ6 H6 _ I6 q6) λf Y z=>?_);have again:∀{c:St} {j:Hp},bt X (a++HN C s5.heap) c j Y->N c j->∃m,m<n/\∃i q y,bt X a q y Y/\tn i Y.heap/\(∀b∈C,y b=U)/\W i m q y:=λ{c j} l G=>by obtain⟨m',hm,w7⟩:=hN c j G;refine#v[m',hm,i+1,c,j,l.ma,T.keep _ _ _ B λb p o e=>(l.Dv (b,o) (bB _ (bB _ (AC p e)))).1,λb p=>?_,w7];obtain⟨o,e,d⟩:=T.obj _ _ B b p;exact(l.Dv (b,o) (bB _ (bB _ (AC p e)))).2.1
  cases f with
  |next=>obtain⟨c,j,l,G⟩:=z;exact again l G
  |cont=>obtain⟨c,j,l,G⟩:=z;exact again l G
  |brk=>obtain⟨c,j,l,z⟩:=z;exact#v[c,j,l.ma,z]
  |ret v=>obtain⟨x7,c,j,l,r7,z⟩:=z;exact#v[x7,c,j,l.ma,r7,z]
end
abbrev R2:=V->V->Hp->VK->Prop
def gi(X:Cx)(f:ab->ab->Sem ab)(r:R2):Prop:=
 ∀(a:cN) (s:ae) (b:St) (H:Hp) (x y:V) (v u:ab) (Q:VK),bt X a b H s->dd x v->dd y u->r x y H Q->
  ao (model X.prog X.w) X.A (f v u) (EP X a b Q) X.xe s
def UnR(X:Cx)(f:ab->Sem ab)(r:V->Hp->VK->Prop):Prop:=
 ∀(a:cN) (s:ae) (b:St) (H:Hp) (x:V) (v:ab) (Q:VK),bt X a b H s->dd x v->r x H Q->
  ao (model X.prog X.w) X.A (f v) (EP X a b Q) X.xe s
def xD(X:Cx)(f:ab)(r:bF->Hp->VK->Prop):Prop:=
 ∀(a:cN) (s:ae) (d:St) (H:Hp) (c:bF) (b:List ab) (Q:VK),bt X a d H s->cm c b->r c H Q->
  ao (model X.prog X.w) X.A (call f b) (EP X a d Q) X.xe s
def tOp(r:R2)(d tb:TE):TE:=λa H Q=>d a H λx b=>tb a b λy c=>r x y c Q
def tUn(r:V->Hp->VK->Prop)(b:TE):TE:=λc H Q=>b c H λx a=>r x a Q
inductive IrI(C:Int->Int->Prop) (g:Int->Int->V) (x:V) (y:V) (H:Hp) (Q:VK):Prop
 |i (i j) (h0:x=.int i) (h1:y=.int j) (h2:C i j) (h3:Q (g i j) H):IrI C g x y H Q
def rI(C:Int->Int->Prop)(g:Int->Int->V):R2:=λx y H Q=>IrI C g x y H Q
inductive IrI0(g:Int->Int->V) (x:V) (y:V) (H:Hp) (Q:VK):Prop
 |i (i j) (h0:x=.int i) (h1:y=.int j) (h2:Q (g i j) H):IrI0 g x y H Q
def D?(g:Int->Int->V):R2:=λx y H Q=>IrI0 g x y H Q
def rU(g:Int->V):V->Hp->VK->Prop:=λx H Q=>∃i,x=.int i/\Q (g i) H
section
variable{X:Cx}{a b c:Expr}{ta tb tc:TE}{pos:Pos}
def Zk(r:PE X a ta)(t:PE X b tb){d:cN}{s:ae}{i:St}{H:Hp}{R:V->V->Hp->Prop}(I:bt X d i H s)
  (h:ta i H λx o=>tb i o λy e=>R x y e) {Q:ab->ae->Prop} {f:ab->ab->Sem ab}
  (z:∀v u m x y e,bt X d i e m->dd x v->dd y u->R x y e->ao (model X.prog X.w) X.A (f v u) Q X.xe m):
  ao (model X.prog X.w) X.A (eval a X.a4) (λv j=>ao (model X.prog X.w) X.A (eval b X.a4) (λu l=>ao (model X.prog X.w) X.A (f v u) Q X.xe l) X.xe j) X.xe s:=by
 refine e0 (r d s i H _ I h) λv G zz=>?_;obtain⟨x,o,p,E,B⟩:=zz;refine e0 (t d G i o _ p B) λu m zz=>?_;obtain⟨y,e,q,F,C⟩:=zz;exact z v u m x y e q E F C
def OI(l:gi X (cG m) r)(i:PE X a ta)(j:PE X b tb):PE X (.BinOp a m b pos) (tOp r ta tb):=by intro d s w H Q I h;exact wpAny_BinOp (Zk i j I h λv u t x y e f o p q=>l d t w e x y v u Q f o p q)
def adg(l:UnR X (unaryOp m) r)(j:PE X a ta):PE X (.UnaryOp m a pos) (tUn r ta):=by intro d s e H Q I h;exact UnaryOp_ (e0 (j d s e H _ I h) λv q #v[x,f,i,p,o]=>l d q e f x v Q i p o)
def opI{f:ab->ab->Sem ab}{C:Int->Int->Prop}{g:Int->Int->Int}
  (rule:∀(i j:Int) (t u:Tok) (s:ae) (Q:ab->ae->Prop) (E:ab->ae->Prop),C i j->Q (.int (g i j) s.toks) { s with toks:=s.toks+1 }->ao (model X.prog X.w) X.A (f (.int i t) (.int j u)) Q E s):
  gi X f (rI C λi j=>.int (g i j)):=by
 intro pins s σ H x y v u Q I e l h;obtain⟨i,j,rfl,rfl,d,q⟩:=h;obtain⟨t,rfl⟩:=e;obtain⟨m,rfl⟩:=l;exact rule i j t m s _ _ d #v[.int (g i j),H,I.rl _,#v[_,O],q]
def Zl{f:ab->ab->Sem ab}{g:Int->Int->Int}
  (rule:∀(i j:Int) (t u:Tok) (s:ae) (Q:ab->ae->Prop) (E:ab->ae->Prop),Q (.int (g i j) s.toks) { s with toks:=s.toks+1 }->ao (model X.prog X.w) X.A (f (.int i t) (.int j u)) Q E s):
  gi X f (D? λi j=>.int (g i j)):=by
 intro pins s σ H x y v u Q I d e h;obtain⟨i,j,rfl,rfl,q⟩:=h;obtain⟨t,rfl⟩:=d;obtain⟨l,rfl⟩:=e;exact rule i j t l s _ _ #v[.int (g i j),H,I.rl _,#v[_,O],q]
def VG{f:ab->ab->Sem ab}{g:Int->Int->Bool}
  (rule:∀(i j:Int) (t u:Tok) (s:ae) (Q:ab->ae->Prop) (E:ab->ae->Prop),Q (.bool (g i j)) s->ao (model X.prog X.w) X.A (f (.int i t) (.int j u)) Q E s):
  gi X f (D? λi j=>.X (g i j)):=by
 intro d s o H x y v u Q I e l h;obtain⟨i,j,rfl,rfl,q⟩:=h;obtain⟨t,rfl⟩:=e;obtain⟨m,rfl⟩:=l;exact rule i j t m s _ _ #v[.X (g i j),H,I,O,q]
def Zm(i j:Int):Prop:=0<j/\j<1073741824
def CPow(i j:Int):Prop:=0<=j/\j<=1000000/\i.natAbs<2 ^ 64
def VH(i j:Int):Prop:=(-(2 ^ 64)<i/\i<2 ^ 64)\/(-(2 ^ 64)<j/\j<2 ^ 64)
def VH.ok(h:VH i j):IntMulOk i j:=by
 rcases h with ⟨d,e⟩|⟨d,e⟩
 .exact .of_left (rq d e)
 .exact .of_right (rq d e)
def Nr(k:Nat):(0:Int)<=2 ^ k:=by rw[two_pow_cast];exact jL _
def Zn:gi X (cG .Add) (D? λi j=>.int (i+j)):=Zl λy y y y y y y q=>add_int q
def Zo:gi X (cG .Sub) (D? λi j=>.int (i - j)):=Zl λy y y y y y y q=>sub_int q
def Zp:gi X (cG .Mult) (rI VH λi j=>.int (i * j)):=opI λy y y y y y y d q=>mul_int q d.ok
def VI:gi X (cG .FloorDiv) (rI Zm λi j=>.int (i / j)):=opI λi j y y y y y d q=>by have e:(0:Int)<j:=d.1;have f:j<1073741824:=d.2;exact floordiv_int (by omega) (by rw[oJ i (by omega)];exact q) (.inl (PyProof.noPylong_small (by omega)))
def Zq:gi X (cG .Mod) (rI (λy j=>0<j) λi j=>.int (i % j)):=opI λi j y y y y y d q=>by have e:(0:Int)<j:=d;exact mod_int' (by omega) (by rw[Int.fmod_eq_emod_of_nonneg i (by omega)];exact q)
def Zr:gi X (cG .Pow) (rI CPow λi j=>.int (i ^ j.toNat)):=opI λy y y y y y y d q=>pow_int_small d.1 d.2.1 d.2.2 q
def Zs:gi X (cG .RShift) (rI (λy j=>0<=j) λi j=>.int (i / 2 ^ j.toNat)):=opI λi j y y y y y d q=>
 rshift_int d (by rw[oJ i (Nr _)];exact q)
def Zt:gi X (cG .BitAnd) (D? λi j=>.int (j6 i j)):=Zl λy y y y y y y q=>and_int q
def unI{f:ab->Sem ab}{g:Int->Int}
  (rule:∀(i:Int) (t:Tok) (s:ae) (Q:ab->ae->Prop) (E:ab->ae->Prop),Q (.int (g i) s.toks) { s with toks:=s.toks+1 }->ao (model X.prog X.w) X.A (f (.int i t)) Q E s):
  UnR X f (rU λi=>.int (g i)):=by
 intro pins s σ H x v Q I d h;obtain⟨i,rfl,q⟩:=h;obtain⟨t,rfl⟩:=d;exact rule i t s _ _ #v[.int (g i),H,I.rl _,#v[_,O],q]
def Zu:UnR X (unaryOp .USub) (rU λi=>.int (-i)):=unI λy y y y y q=>neg_int q
end
def RO:V->V->Bool
 |.O,.O=>γ|.O,.int _=>γ|.int _,.O=>γ|.O,.X _=>γ|.X _,.O=>γ|.O,.str _=>γ|.str _,.O=>γ
 |.int _,.int _=>γ|.X _,.X _=>γ|.str _,.str _=>γ|.Xi _,.Xi _=>γ
 |.int _,.str _=>γ|.str _,.int _=>γ|.X _,.str _=>γ|.str _,.X _=>γ
 |_,_=>δ
def rEq:R2:=λx y H Q=>RO x y=γ/\Q (.X (decide (x=y))) H
def rNe:R2:=λx y H Q=>RO x y=γ/\Q (.X (!decide (x=y))) H
set_option r "OJ int;RP X;OK str" in def ϑ0:decide (V.ϑ1 i=V.ϑ1 j)=(i==j):=by rw[d5];simp
def OL:decide (V.Xi i=V.Xi j)=(i.toList==j.toList):=by rw[d5];cases i;cases j;simp
section
variable{X:Cx}{a b c:Expr}{ta tb tc:TE}{pos:Pos}
def wu(I:bt X d h H s)(q:Q (.X k) H)(e:k=f):EP X d h Q (.bool f) s:=by subst e;exact#v[.X k,H,I,O,q]
def adi:gi X (bC .Eq) rEq:=by
 intro m s o H x y v u Q I l d h;obtain⟨f,q⟩:=h;cases x with
 |O=>
  cases l;cases y with
  |O=>cases d;exact tU (wu I q (by simp))
  |X j=>cases d;exact tV (wu I q (by simp))
  |int j=>obtain⟨e,rfl⟩:=d;exact ud (wu I q (by simp))
  |str j=>obtain⟨e,rfl⟩:=d;exact ue (wu I q (by simp))
  |_=>exact ar (show δ=γ from f) bG
 |X i=>
  cases l;cases y with
  |O=>cases d;exact tW (wu I q (by simp))
  |X j=>cases d;exact eq_bool (wu I q RP)
  |str j=>obtain⟨e,rfl⟩:=d;exact tY (wu I q (by simp))
  |_=>exact ar (show δ=γ from f) bG
 |int i=>
  obtain⟨t,rfl⟩:=l;cases y with
  |O=>cases d;exact uf (wu I q (by simp))
  |int j=>obtain⟨e,rfl⟩:=d;exact eq_int (wu I q OJ)
  |str j=>obtain⟨e,rfl⟩:=d;exact ug (wu I q (by simp))
  |_=>exact ar (show δ=γ from f) bG
 |str i=>
  obtain⟨t,rfl⟩:=l;cases y with
  |O=>cases d;exact uh (wu I q (by simp))
  |X j=>cases d;exact tZ (wu I q (by simp))
  |int j=>obtain⟨e,rfl⟩:=d;exact ui (wu I q (by simp))
  |str j=>obtain⟨e,rfl⟩:=d;exact eq_str (wu I q OK)
  |_=>exact ar (show δ=γ from f) bG
 |Xi i=>
  obtain⟨t,rfl⟩:=l;cases y with
  |Xi j=>obtain⟨e,rfl⟩:=d;exact W.eq_bytes (wu I q OL)
  |_=>exact ar (show δ=γ from f) bG
 |_=>cases y<;>exact ar (show δ=γ from f) bG
def adj:gi X (bC .NotEq) rNe:=by
 intro m s o H x y v u Q I l d h;obtain⟨f,q⟩:=h;cases x with
 |O=>
  cases l;cases y with
  |O=>cases d;exact t6 (wu I q (by simp))
  |X j=>cases d;exact t7 (wu I q (by simp))
  |int j=>obtain⟨e,rfl⟩:=d;exact uj (wu I q (by simp))
  |str j=>obtain⟨e,rfl⟩:=d;exact um (wu I q (by simp))
  |_=>exact ar (show δ=γ from f) bG
 |X i=>
  cases l;cases y with
  |O=>cases d;exact t8 (wu I q (by simp))
  |X j=>cases d;exact ne_bool (wu I q (bD not RP))
  |str j=>obtain⟨e,rfl⟩:=d;exact ua (wu I q (by simp))
  |_=>exact ar (show δ=γ from f) bG
 |int i=>
  obtain⟨t,rfl⟩:=l;cases y with
  |O=>cases d;exact uo (wu I q (by simp))
  |int j=>obtain⟨e,rfl⟩:=d;exact ne_int (wu I q (bD not OJ))
  |str j=>obtain⟨e,rfl⟩:=d;exact uq (wu I q (by simp))
  |_=>exact ar (show δ=γ from f) bG
 |str i=>
  obtain⟨t,rfl⟩:=l;cases y with
  |O=>cases d;exact ur (wu I q (by simp))
  |X j=>cases d;exact uc (wu I q (by simp))
  |int j=>obtain⟨e,rfl⟩:=d;exact uu (wu I q (by simp))
  |str j=>obtain⟨e,rfl⟩:=d;exact ne_str (wu I q (bD not OK))
  |_=>exact ar (show δ=γ from f) bG
 |Xi i=>
  obtain⟨t,rfl⟩:=l;cases y with
  |Xi j=>obtain⟨e,rfl⟩:=d;exact W.ne_bytes (wu I q (bD not OL))
  |_=>exact ar (show δ=γ from f) bG
 |_=>cases y<;>exact ar (show δ=γ from f) bG
set_option r "k Lt i j lt_int;m Gt j i gt_int" in def adϑ0:gi X (bC .ϑ1) (D? λi j=>.X (decide (ϑ2<ϑ3))):=VG λy y y y y y y q=>ϑ4 q
set_option r "l LtE i j le_int;n GtE j i ge_int" in def adϑ0:gi X (bC .ϑ1) (D? λi j=>.X (decide (ϑ2<=ϑ3))):=VG λy y y y y y y q=>ϑ4 q
def Zv:gi X (bC .Is) (λx y H Q=>y=.O/\Q (.X (decide (x=.O))) H):=by
 intro d s i H x y v u Q I e f h;obtain⟨rfl,q⟩:=h;cases f;refine is_none_gen (wu I q ?_);cases x<;>first
  |(cases e;rfl)
  |(obtain⟨t,rfl⟩:=e;rfl)
def VJ:gi X (bC .IsNot) (λx y H Q=>y=.O/\Q (.X (!decide (x=.O))) H):=by
 intro d s i H x y v u Q I e f h;obtain⟨rfl,q⟩:=h;cases f;refine isnot_none_gen (wu I q ?_);cases x<;>first
  |(cases e;rfl)
  |(obtain⟨t,rfl⟩:=e;rfl)
def VL(o:gi X (bC e) r)(j:PE X a ta)(l:PE X b tb)(m:gG e b=δ):PE X (.Compare a [e] [b] pos) (tOp r ta tb):=by intro d s z H Q I h;exact wpAny_Compare1 (Zk j l I h λv u w x y f i p t q=>o d w z f x y v u Q i p t q) m
def RQ(t:TE):TT:=λe H Q=>t e H λx d=>∃k,x=.X k/\Q k d
def VM(B:gi X (bC i) r)(t:PE X a ta)(w:PE X b tb)(A:gG i b=δ):PT X (.Compare a [i] [b] pos) (RQ (tOp r ta tb)):=by
 intro d s f H Q I h;refine pd (e0 (t d s f H _ I h) λv M #v[x,j,o,F,C]=>e0 (w d M f j _ o C) λu N #v[y,l,p,G,E]=>
  e0 (B d N f l x y v u _ p F G E) λc P #v[z,m,q,J,k,e,q3]=>?_) A
 subst e;cases J;exact dJ #v[m,q,q3]
def Nt(r j:R2)(ta tb tc:TE):TE:=λd H Q=>ta d H λx f=>tb d f λy h=>r x y h λz e=>∃k,z=.X k/\
 (if k=γ then tc d e λl i=>j y l i Q else Q (.X δ) e)
def RR(N:gi X (bC p) r)(l:gi X (bC i) T)(F:PE X a ta)(G:PE X b tb)(J:PE X c tc)
  (M:autoParam (lastMarks [p,i] [b,c]=δ) zA4._auto_1):PE X (.Compare a [p,i] [b,c] pos) (Nt r T ta tb tc):=by
 intro f s j H Q I h;refine Compare_chain (e0 (F f s j H _ I h) λv s1 #v[x,t,B,W,P]=>chain_link (e0 (G f s1 j t _ B P) λu s2 #v[y,w,C,q,R]=>
  e0 (N f s2 j w x y v u _ C W q R) λd s3 #v[z,m,o,Y,k,e,q3]=>?_)) M
 subst e;cases Y;refine dJ ?_;cases k with
 |false=>exact ite_ff #v[.X δ,m,o,O,q3]
 |true=>exact ite_tt (chain_last (e0 (J f s3 j m _ o q3) λw' s4 #v[z',A,E,r4,S]=>l f s4 j A y z' u w' Q E q r4 S))
def RT(T:gi X (bC p) r)(l:gi X (bC i) r')(N:PE X a ta)(P:PE X b tb)(R:PE X c tc)
  (S:autoParam (lastMarks [p,i] [b,c]=δ) zA4._auto_1):PT X (.Compare a [p,i] [b,c] pos) (RQ (Nt r r' ta tb tc)):=by
 intro f s j H Q I h;refine isTrue_chain (e0 (N f s j H _ I h) λv s1 #v[x,t,C,r1,Y]=>test_link (e0 (P f s1 j t _ C Y) λu s2 #v[y,w,E,q,q2]=>
  e0 (T f s2 j w x y v u _ E r1 q q2) λd s3 #v[z,m,o,r3,k,e,q3]=>?_)) S
 subst e;cases r3;refine dJ ?_;cases k with
 |false=>obtain⟨k',J,W⟩:=q3;cases J;exact ite_ff #v[m,o,W]
 |true=>refine ite_tt (test_last (e0 (R f s3 j m _ o q3) λw' s4 #v[z',A,F,r4,q4]=>e0 (l f s4 j A y z' u w' _ F q r4 q4) λd' s5 #v[z2,B,G,r5,k2,M,q5]=>?_));subst M;cases r5;exact dJ #v[B,G,q5]
def HP:(aI:Nat)<2 ^ 63:=by rw[bV];decide
def Nu:gi X (cG .Add) (λx y H Q=>∃i j,x=.str i/\y=.str j/\i.length+j.length<=aI/\Q (.str (i++j)) H):=by intro d s p H x y v u Q I f l h;obtain⟨i,j,rfl,rfl,e,q⟩:=h;obtain⟨t,rfl⟩:=f;obtain⟨m,rfl⟩:=l;exact add_str (λm o=>#v[.str (i++j),H,I.rl _,#v[_,O],q]) e
def kb(r:cm [x] f):∃u,f=[u]/\dd x u:=by
 cases r with
 |cons d e=>cases e;exact#v[_,O,d]
def vals2(r:cm [x,y] j):∃u d,j=[u,d]/\dd x u/\dd y d:=by
 cases r with
 |cons e f=>
  cases f with
  |cons h i=>cases i;exact#v[_,_,O,e,h]
def Qm:xD X (.type "int") (λd H Q=>(∃i,d=[.int i]/\Q (.int i) H)\/∃k,d=[.X k]/\Q (.int (if k then 1 else 0)) H):=by
 intro e s l H d j Q I r h;rcases h with ⟨i,rfl,q⟩|⟨k,rfl,q⟩
 .obtain⟨u,rfl,t,rfl⟩:=kb r;exact call_int_int #v[.int i,H,I,#v[_,O],q]
 .obtain⟨u,rfl,f⟩:=kb r;cases f;exact call_int_bool #v[.int (if k then 1 else 0),H,I.rl _,#v[_,O],q]
end
structure Nv(h:Heap)(x dx C:Addr)(mA:Str->Option ab):Prop where
 obj:h.get? x=Z (fA C dx)
 ns:h.Ns1 dx mA
 ne:dx≠x
set_option h true
def Qn{h:Heap}(n:h.Ns1 f mA):∃c,h.get? f=Z c/\∀name,kz name c=Z (mA name):=by
 obtain⟨o,b,p,l,hd,i,_,j⟩:=n;refine#v[o,l,λname=>?_];have e:=j name;unfold nsFind findBy at e;rw[<-Array.find?_toList]at e;unfold kz;rw[hd];dsimp only;split
 .rename_i y q;rw[q]at e;exact bD Z e
 .rename_i q;rw[q]at e;have a:b.toList.any (·.refKey)=δ:=by rw[qb];intro y m;obtain⟨z,t,hkey⟩:=i y (Array.mem_toList_iff.1 m);simp[DictEntry.refKey,hkey]
  have d:¬b.toList.any (·.refKey)=γ:=by rw[a];exact bG
  rw[ak d];exact bD Z e
set_option h false
def Nv.look(I:Nv h x b C mA):∃a,W.InstAt h x (fA C b) C (Z a)/\∀name,kz name a=Z (mA name):=
 let #v[a,d,c]:=Qn I.ns
 #v[a,#v[I.obj,O,O,d],c]
section
variable{prog:aL}{w:aC}{A:aQ}{E:ab->ae->Prop}{s:ae}{K:av}{x dx C f:Addr}{mA:Str->Option ab}{name:Str}{v:ab}
def get_map(X:K.In s.heap)(I:Nv s.heap x dx C mA)(hg:kh K C name=γ)(b:nO K C=γ)
  (ha:c4 K (.ref C) name=Z U) (d:mA name=Z v) (a:W.handedIn v=γ) (h:Q v { s with toks:=s.toks+1 }):
  ao (model prog w) A (getAttr (.ref x) name expr) Q E s:=by
 obtain⟨od,J,c⟩:=I.look;exact W.get_value X J (m9 hg).1 (W.findObj_own b ha O (by rw[c,d])) a h
def RU(X:K.In s.heap)(I:Nv s.heap x dx C mA)(a:kh K C name=γ)
  (b:c4 K (.ref C) name=Z (Z (.ref f))) (d:kC K (.ref f)=γ) (e:mA name=U) (h:Q (.ref f,[.ref x]) s):
  ao (model prog w) A (getMethod (.ref x) name pl) Q E s:=by
 obtain⟨i,J,c⟩:=I.look;exact W.method_fn X J (m9 a).1 (m9 a).2 b (beq_iff_eq.mp d) (by show (kz name i).map (·.isSome)=Z δ;rw[c,e];rfl) h
def VN(X:K.In s.heap)(I:Nv s.heap x dx C mA)
  (hs:c4 K (.ref C) "__setattr__" = Z (Z (.builtin "object.__setattr__"))) (l:rY K C=γ) (o:nV K C name=Z U) (j:nO K C=γ)
  (hw:nF mA ns) (m:ns.length<=aI)
  (h:∀h',Nv h' x dx C (λy=>if y=name then Z v else mA y)->ee dx s.heap h'->Q () { s with heap:=h',toks:=s.toks+2 }):
  ao (model prog w) A (setAttr (.ref x) name v) Q E s:=by
 obtain⟨od,J,q⟩:=I.look;refine W.set_plain X J hs (W.osa_open (s:={ s with toks:=s.toks+1 }) (r:=U) X J l o λb=>?_);obtain⟨cd,i,e⟩:=W.any_some j;have p:s.heap.get? x=Z #v[.ref C,Z dx,.plain,#[]]:=I.obj;refine ah (aq (ah (ah (wpAny_loadPart p (ah (W.Looks.here (s:={ s with toks:=s.toks+1 }) (W.looks_clsIn X i) ?_))))));rw[e];refine aq (a:=Z dx) (ah (aq (ah ?_)));refine wpAny_nsSet1 (s:={ s with toks:=s.toks+1 }) I.ns λh' c d=>?_;obtain⟨oD,esD,epD,hoD,hdD,hcD⟩:=c.count (u9 name v hw);refine ah (wpAny_lookBehind hoD (by rw[hdD];exact pastItsLine_dict (bz hcD (by rw[aS];omega))) ?_);exact aq (h _ #v[(d.2 _ (dS I.ne)).t I.obj,c,I.ne] d)
def RV(X:K.In s.heap)(hm:nW K C=γ)
  (hi:c4 K (.ref C) "__init__" = Z (Z (.ref f))) (hf:W.typeIn K (.ref f)=Z (.type "function"))
  (h:cH (model prog w) (A.under (.builtin "type.__call__" #v[.ref C::vs,a])) (.call (.ref f) #v[.ref (s.heap.objs.size+1)::vs,a]) (W.InitBack (s.heap.objs.size+1) R)
   { s with heap:=(s.heap.push eA).push (fA C s.heap.objs.size) }):
  cH (model prog w) A (.call (.ref C) #v[vs,a]) R s:=by
 obtain⟨b,g,d,t,os⟩:=s;exact rZ (nU X hm) (qX X hi) (λself=>W.bind_fn X self hf) (.inl O) h
def Qo(X:K.In s.heap)(hm:nW K C=γ)
  (hi:c4 K (.ref C) "__init__" = Z (Z (.builtin "object.__init__")))
  (hb:∀self,W.Looks (model prog w) s.heap (bindSpecial (.builtin "object.__init__") self) (.builtin "object.__init__", [self]))
  (h:cH (model prog w) (A.under (.builtin "type.__call__" #v[[.ref C],[]])) (.call (.builtin "object.__init__") #v[[.ref (s.heap.objs.size+1)],[]]) (W.InitBack (s.heap.objs.size+1) R)
   { s with heap:=(s.heap.push eA).push (fA C s.heap.objs.size) }):
  cH (model prog w) A (.call (.ref C) #v[[],[]]) R s:=by
 obtain⟨a,g,d,t,os⟩:=s;exact rZ (nU X hm) (qX X hi) hb (.inr #v[O,O]) h
end
def BN(f:Str)(v:V):List (Str×V)->List (Str×V)
 |[]=>[(f,v)]
 |(g,x)::r=>if g=f then (g,v)::r else (g,x)::BN f v r
theorem GQ(f g:Str)(v:V):∀fs:List (Str×V),(BN f v fs).lookup g=if g=f then Z v else fs.lookup g
 |[]=>by
  show dP g [(f,v)]=_;by_cases h:g=f
  .have a:(g==f)=γ:=beq_iff_eq.mpr h;simp only[dP,a,aj h]
  .have a:(g==f)=δ:=beq_eq_false_iff_ne.2 h;simp only[dP,a,ak h]
 |(k,x)::r=>by
  have c:=GQ f g v r;rw[show BN f v ((k,x)::r)=(if k=f then (k,v)::r else (k,x)::BN f v r) from O];by_cases b:k=f
  .rw[aj b];by_cases h:g=k
   .have a:(g==k)=γ:=beq_iff_eq.mpr h;simp only[dP,a,aj (h.t b)]
   .have a:(g==k)=δ:=beq_eq_false_iff_ne.2 h;simp only[dP,a,ak (λe:g=f=>h (e.t b.symm))]
  .rw[ak b];by_cases h:g=k
   .have a:(g==k)=γ:=beq_iff_eq.mpr h;simp only[dP,a,ak (λe:g=f=>b (h.symm.t e))]
   .have a:(g==k)=δ:=beq_eq_false_iff_ne.2 h;simp only[dP,a];exact c
theorem F5(f:Str)(v:V):∀fs:List (Str×V),f∈(BN f v fs).map (·.1)/\∀g,g∈fs.map (·.1)->g∈(BN f v fs).map (·.1)
 |[]=>#v[by simp[BN],λg h=>by simp at h]
 |(k,x)::r=>by
  obtain⟨b,c⟩:=F5 f v r;rw[show BN f v ((k,x)::r)=(if k=f then (k,v)::r else (k,x)::BN f v r) from O];by_cases a:k=f
  .rw[aj a];subst a;exact#v[by simp,λg h=>by simpa using h]
  .rw[ak a];refine#v[?_,λg h=>?_]
   .rw[aU];exact bb _ b
   .rw[aU]at h ⊢;rcases aJ.1 h with e|e
    .exact aJ.2 (.inl e)
    .exact bb _ (c g e)
theorem GR(f:Str)(v:V):∀fs:List (Str×V),(BN f v fs).length<=fs.length+1
 |[]=>by simp[BN]
 |(k,x)::r=>by
  have b:=GR f v r;rw[show BN f v ((k,x)::r)=(if k=f then (k,v)::r else (k,x)::BN f v r) from O];by_cases a:k=f
  .rw[aj a,aS,aS];omega
  .rw[ak a,aS,aS];omega
def Dn.z0(r:Dn (Z v) o):∃u,o=Z u/\dd v u:=by
 cases o with
 |none=>exact(show False from r).elim
 |some u=>exact#v[u,O,r]
def Dn.none_of(r:Dn U o):o=U:=by
 cases o with
 |none=>rfl
 |some u=>exact(show False from r).elim
def Qp(r:dd v u):W.handedIn u=γ:=by
 cases v with
 |O=>cases (show u=Value.none from r);rfl
 |X b=>cases (show u=Value.bool b from r);rfl
 |int i=>obtain⟨t,e⟩:=(show ∃t,u=Value.int i t from r);cases e;rfl
 |str x=>obtain⟨t,e⟩:=(show ∃t,u=Value.str x t from r);cases e;rfl
 |Xi b=>obtain⟨t,e⟩:=(show ∃t,u=Value.bytes b t from r);cases e;rfl
 |flt b=>obtain⟨t,e⟩:=(show ∃t,u=Value.float b t from r);cases e;rfl
 |ref a=>cases (show u=Value.ref a from r);rfl
 |ty n=>cases (show u=Value.type n from r);rfl
section
variable{P:aL}{w:aC}{H H':Hp}{h h':Heap}{a C dx:Addr}{fs fs':List (Str×V)}
def EZ(ew:n7 P w H h)(e:H a=Z (.k0 C dx fs)):∃mA,Nv h a dx C mA/\(∀f,Dn (fs.lookup f) (mA f))/\nF mA (fs.map (·.1))/\fs.length<=1000/\H dx=Z (.fh a):=by obtain⟨d,z,b,c,mA,n,r,q⟩:=(show eo P w H h a (.k0 C dx fs) from ew a _ e);exact#v[mA,#v[c,n,b],r,q,z,d]
end
structure I'(K:av)(C:Addr):Prop where
 pg:kh K C Str.empty=γ
 hd:nO K C=γ
 po:rY K C=γ
 sa:c4 K (.ref C) "__setattr__" = Z (Z (.builtin "object.__setattr__"))
def I'.get{K:av}{C:Addr}(c:I' K C)(f:Str):kh K C f=γ:=c.pg
def Br(K:av)(C:Addr)(f:Str):Prop:=c4 K (.ref C) f=Z U
def Br.taker{K:av}{C:Addr}{f:Str}(n:Br K C f):nV K C f=Z U:=by unfold nV;rw[show c4 K (.ref C) f=Z U from n];rfl
structure Meth(K:av)(C:Addr)(m:Str)(f:Addr):Prop where
 f?:c4 K (.ref C) m=Z (Z (.ref f))
 fn:kC K (.ref f)=γ
 kp:eD K (.ref f)=γ
section
variable{X:Cx}{pins:cN}{σ:St}{H:Hp}{s:ae}{a C dx:Addr}{fs:List (Str×V)}{f:Str}{v:V}{A:aQ}{E:ab->ae->Prop}
def Nw(I:bt X pins σ H s)(e:H a=Z (.k0 C dx fs))(c:I' X.K C)(n:Br X.K C f)(l:fs.lookup f=Z v)
  (h:∀u i,bt X pins σ H i->dd v u->Q u i):ao (model X.prog X.w) A (getAttr (.ref a) f b) Q E s:=by
 obtain⟨mA,j,r,_,_,_⟩:=EZ I.ew e;obtain⟨u,m,d⟩:=Dn.z0 (v:=v) (o:=mA f) (by rw[<-l];exact r f);exact get_map I.la j (c.get f) c.hd n m (Qp d) (h u _ (I.rl _) d)
def HQ(I:bt X pins σ H s)(e:H a=Z (.k0 C dx fs))(c:I' X.K C)(k:Meth X.K C m g)(l:fs.lookup m=U)
  (h:Q (.ref g,[.ref a]) s):ao (model X.prog X.w) A (getMethod (.ref a) m pl) Q E s:=by
 obtain⟨mA,b,r,_,_,_⟩:=EZ I.ew e;have d:mA m=U:=Dn.none_of (by rw[<-l];exact r m);exact RU I.la b (c.get m) k.f? k.fn d h
def Nx(I:bt X pins σ H s)(e:H a=Z (.k0 C dx fs))(c:I' X.K C)(n:Br X.K C f)(N:fs.length<1000)(J:dd y u)
  (h:∀l,bt X pins σ (eg H a (.k0 C dx (BN f y fs))) l->Q () l):ao (model X.prog X.w) A (setAttr (.ref a) f u) Q E s:=by
 obtain⟨mA,d,r,m,_,j⟩:=EZ I.ew e;have G:(fs.map (·.1)).length<=aI:=by rw[af,bV];omega
 refine VN I.la d c.sa c.po n.taker c.hd m G λt i M=>h _ ?_;have hd:∃o,t.get? dx=Z o:=let #v[o,_,_,p,_]:=i.ns;#v[o,p];refine I.t? (x:=a) (e:=dx) (by rw[e];exact True.intro) (.inr j) (λb q B z=>(M.2 b B).t z) hd ?_;refine#v[by rw[vH d.ne];exact j,?_,d.ne,i.obj,_,i.ns,λg=>?_,λg F=>?_]
 .have:=GR f y fs;omega
 .show Dn ((BN f y fs).lookup g) (if g=f then Z u else mA g);rw[GQ];by_cases q:g=f
  .rw[aj q,aj q];exact J
  .rw[ak q,ak q];exact r g
 .by_cases q:g=f
  .rw[q];exact(F5 f y fs).1
  .refine(F5 f y fs).2 g (m g λz=>F ?_);show (if g=f then Z u else mA g)=U;rw[ak q];exact z
def bt.made(I:bt X pins σ H s):bt X pins σ (eg (eg H s.heap.objs.size (.fh (s.heap.objs.size+1))) (s.heap.objs.size+1) (.k0 C s.heap.objs.size []))
  { s with heap:=(s.heap.push eA).push (fA C s.heap.objs.size) }:=by
 have c:(s.heap.push eA).get? s.heap.objs.size=Z eA:=bw s.heap O;have h:((s.heap.push eA).push (fA C s.heap.objs.size)).get? (s.heap.objs.size+1)=Z (fA C s.heap.objs.size):=by
  have:=bw (s.heap.push eA) (o:=fA C s.heap.objs.size) O
  rwa [c9]at this
 have i:(s.heap.push eA).Ns s.heap.objs.size (λx=>U):=#v[eA,#[],_,c,O,(λe j=>ar j (by simp)),λx=>O];have d:=I.laid (a:=s.heap.objs.size) (o:=.fh (s.heap.objs.size+1)) (h':=s.heap.push eA) (t':=s.toks) (λb u q=>aR _ q) (aH _) #v[_,c];refine d.laid (a:=s.heap.objs.size+1) (o:=.k0 C s.heap.objs.size []) (t':=s.toks) (λb u q=>aR _ q) (rL (c9 _ _)) ?_;have ne:s.heap.objs.size≠s.heap.objs.size+1:=bg (dM _);refine#v[by rw[vH ne,vE],bT _,ne,h,λx=>U,(Heap.Ns1.of_empty i).at λo q=>aR _ q,λx=>True.intro,λy l=>ar O l]
def VO(c:fi e f a4 (eval e a4)=eval e a4)
  (h:ao (model prog w) A (eval e a4) (λo b=>ao (model prog w) A (getAttr o f γ) Q E b) E s):ao (model prog w) A (eval (.Attribute e f pos) a4) Q E s:=
 Attribute_any_ h (by rw[arm_eval_Attribute,c])
end
def tFld(K:av)(d:TE)(f:Str):TE:=λe H Q=>d e H λx b=>∃a C c fs v,x=.ref a/\b a=Z (.k0 C c fs)/\I' K C/\Br K C f/\fs.lookup f=Z v/\Q v b
def sFld(K:av)(h i:TE)(f:Str):TS:=λD b H=>i b H λy e=>h b e λx c=>∃a C d fs,x=.ref a/\c a=Z (.k0 C d fs)/\I' K C/\Br K C f/\fs.length<1000/\
 D.nx b (eg c a (.k0 C d (BN f y fs)))
section
variable{X:Cx}{o e value:Expr}{f:Str}{pos pos' tpos:Pos}{ta tv:TE}
def Zw(t:PE X e ta)(r:fi e f X.a4 (eval e X.a4)=eval e X.a4):PE X (.Attribute e f pos) (tFld X.K ta f):=by intro b s z H Q I h;refine VO r (e0 (t b s z H _ I h) λu B zz=>?_);obtain⟨x,d,i,y,a,C,A,fs,v,p,m,c,n,l,q⟩:=zz;subst p;obtain rfl:u=Value.ref a:=y;exact Nw i m c n l λF E j w=>#v[v,d,j,w,q]
def Zx(w:PE X o ta)(A:PE X value tv)(z:dR value (Z (.Attribute o f pos')) pos.line X.a4=pure δ):PS X (.Assign [.Attribute o f pos'] value pos) (sFld X.K ta tv f):=by intro b s d H D I h;refine plainObj_wpAny_Assign_Attribute (e0 (A b s d H _ I h) λu J #v[y,i,j,G,q]=>e0 (w b J d i _ j q) λB P zz=>?_) z;obtain⟨x,M,m,F,a,C,N,fs,t,r,c,n,l,E⟩:=zz;subst t;obtain rfl:B=Value.ref a:=F;exact Nx m r c n l G λQ p=>#v[d,_,p,E]
end
section
variable{X:Cx}{pins:cN}{σ:St}{H:Hp}{s:ae}{A:aQ}{E:ab->ae->Prop}{Q:ab->ae->Prop}{c:ab}{b:Bool}
inductive Ho(K:av) (H:Hp):V->ab->Prop where
 |O:Ho K H .O (.type "NoneType")
 |X (x:Bool):Ho K H (.X x) (.type "bool")
 |int (i:Int):Ho K H (.int i) (.type "int")
 |str (x:Str):Ho K H (.str x) (.type "str")
 |flt (x:UInt64):Ho K H (.flt x) (.type "float")
 |a3 {a:Addr} {xs:bF} (e:H a=Z (.a3 xs)):Ho K H (.ref a) (.type "list")
 |mi {a:Addr} {o:Obj} {xs:bF} (e:H a=Z (.mi o (.a3 xs))):Ho K H (.ref a) (.type "list")
 |a7 {a:Addr} {xs:bF} (e:H a=Z (.a7 xs)):Ho K H (.ref a) (.type "tuple")
 |dK {a:Addr} {kvs:List (d?×V)} (e:H a=Z (.dK kvs)):Ho K H (.ref a) (.type "dict")
 |dT {a:Addr} {kvs:List (List d?×V)} (e:H a=Z (.dT kvs)):Ho K H (.ref a) (.type "dict")
 |k0 {a C dx:Addr} {fs:List (Str×V)} (e:H a=Z (.k0 C dx fs)) (cl:I' K C) (ha:c4 K (.ref C) "__class__" = Z (Z (.builtin "object.__class__")))
   (hn:r6 K (.builtin "object.__class__") "__get__" = Z (Z (.builtin "getset_descriptor.__get__"))) (htk:W.takesIn K (.builtin "object.__class__")=Z γ)
   (hm:W.mroIn K C (.type "object")=Z γ):Ho K H (.ref a) (.ref C)
def Aq(I:bt X pins σ H s)(f:dd x u)(ty:Ho X.K H x t)(e:cJ X.K t c=Z b)(h:∀tk,Q (.bool b) { s with toks:=tk }):
  ao (model X.prog X.w) A (call (.builtin "isinstance") [u,c]) Q E s:=by
 cases ty with
 |O=>cases (show u=Value.none from f);exact cP sd I.la True.intro e (λz=>nomatch z) h
 |X y=>cases (show u=Value.bool y from f);exact cP se I.la True.intro e (λz=>nomatch z) h
 |int i=>obtain⟨t,q⟩:=(show ∃t,u=Value.int i t from f);cases q;exact cP W.kitx_int I.la True.intro e (λz=>nomatch z) h
 |str y=>obtain⟨t,q⟩:=(show ∃t,u=Value.str y t from f);cases q;exact cP W.kitx_str I.la True.intro e (λz=>nomatch z) h
 |flt y=>obtain⟨t,q⟩:=(show ∃t,u=Value.float y t from f);cases q;exact cP W.kitx_float I.la True.intro e (λz=>nomatch z) h
 |@a3 a xs d=>cases (show u=Value.ref a from f);obtain⟨_,_,n,_,h1⟩:=(show eo X.prog X.w H s.heap a (.a3 xs) from I.ew a _ d);exact cP jk I.la #v[_,h1,O] e (λz=>nomatch z) h
 |@mi a ob xs d=>cases (show u=Value.ref a from f);obtain⟨_,_,_,n,_,h1⟩:=(show eo X.prog X.w H s.heap a (.mi ob (.a3 xs)) from I.ew a _ d);exact cP jk I.la #v[_,h1,O] e (λz=>nomatch z) h
 |@a7 a xs d=>cases (show u=Value.ref a from f);obtain⟨_,_,_,p,_⟩:=(show eo X.prog X.w H s.heap a (.a7 xs) from I.ew a _ d);obtain⟨o,h1,h2,_⟩:=p;exact cP nG I.la #v[o,h1,h2] e (λz=>nomatch z) h
 |@dK a kvs d=>cases (show u=Value.ref a from f);obtain⟨_,_,vs,_,p⟩:=(show eo X.prog X.w H s.heap a (.dK kvs) from I.ew a _ d);obtain⟨o,es,ep,h1,h2,_⟩:=p;exact cP iH I.la #v[o,h1,h2.1] e (λz=>nomatch z) h
 |@dT a kvs d=>cases (show u=Value.ref a from f);obtain⟨_,_,xs,_,o,es,ep,h1,h2,_⟩:=(show eo X.prog X.w H s.heap a (.dT kvs) from I.ew a _ d);exact cP iH I.la #v[o,h1,h2.1] e (λz=>nomatch z) h
 |@k0 a C dx fs d cl ha hn htk hm=>cases (show u=Value.ref a from f);obtain⟨mA,j,_⟩:=EZ I.ew d;obtain⟨od,J,_⟩:=j.look;exact cP (W.kitx_own (cl.get _) cl.hd ha hn htk hm) I.la J e (λz=>nomatch z) h
end
structure xX(k:Nat)(A:aQ):Prop where
 hd:A.handled=U
 dp:A.depth+3 * k+5<recursionLimit
 un:A.units+16 * k+200<cLine
def xX.mono(r:xX k A)(h:j<=k):xX j A:=#v[r.hd,by have:=r.dp;omega,by have:=r.un;omega]
theorem xX.deeper(r:xX (k+1) A)(a4:Env):xX k (A.deeper a4):=
 #v[r.hd,by have:=r.dp;show A.depth+1+3 * k+5<_;omega,by have:=r.un;show A.units+3+16 * k+200<_;omega]
def Ny{A:aQ}:(A.under (.builtin "type.__call__" #v[.ref C::b,a])).depth=A.depth+1:=by
 first|rfl|simp[nH,Code.weight,Code.isCreation,Code.isGuard,Code.isCaller,sf,nI,guardIds]
def NA{A:aQ}:(A.under (.builtin "type.__call__" #v[.ref C::b,a])).units=A.units+1:=by
 first|rfl|simp[nH,Code.cUnits,sf,nI]
def xX.make(r:xX (k+1) A)(C:Addr)(b:List ab)(a:List (Str×ab)):xX k (A.under (.builtin "type.__call__" #v[.ref C::b,a])):=
 #v[r.hd,by have:=r.dp;rw[Ny];omega,by have:=r.un;rw[NA];omega]
theorem xX.depth(r:xX k A):A.depth<recursionLimit:=by have:=r.dp;omega
theorem xX.units(r:xX k A):A.units+64<cLine:=by have:=r.un;omega
def Jp:TA:=λy H Q=>Q [] H
def E1(d:TE)(e:TA):TA:=λa H Q=>d a H λx b=>e a b λf c=>Q (x::f) c
section
variable{X:Cx}{e:Expr}{es:List Expr}{te:TE}{t:TA}{pos:Pos}
def zz:PA X [] Jp:=λy y y y H Q I h=>gq #v[[],H,I,.nil,h]
def xA(j:PE X e te)(l:PA X es t)(m:autoParam (aF (e::es) X.a4=(δ,eval e X.a4)::aF es X.a4) zA0._auto_1):PA X (e::es) (E1 te t):=by intro pos a s b H Q I h;rw[m];show ao _ _ (spliced ((δ,eval e X.a4)::bO pos (aF es X.a4))) _ _ s;refine eK (e0 (j a s b H _ I h) λu w zz=>?_);obtain⟨x,c,f,q,o⟩:=zz;exact e0 (l pos a w b c _ f o) λA z #v[y,d,i,r,p]=>#v[x::y,d,i,.cons q r,p]
set_option r "Tup 7;Lst 3" in def tϑ0(t:TA):TE:=λc H Q=>t c H λb a=>b.length<=aI/\∀p,a p=U->Q (.ref p) (eg a p (.aϑ1 b))
def NB{m}(h:PA X es t):PE X (.Tuple es m pos) (tTup t):=by intro a s w H Q I j;refine wpAny_Tuple_spliced (e0 (h pos a s w H _ I j) λl c #v[p,d,f,r,z,q]=>#v[by rw[<-r.length];exact z,?_]);have i:d c.heap.objs.size=U:=f.ew.fresh (aH _);refine#v[.ref c.heap.objs.size,eg d c.heap.objs.size (.a7 p),f.laid (t':=c.toks) (λb u e=>aR _ e) (aH _) ?_,O,q _ i];exact#v[z,l,r,#v[_,bw _ O,O,_,O],λo e=>by rw[bw _ O]at e;cases e;rfl]
def RW(h:PA X es t):PE X (.List es pos) (tLst t):=by intro a s o H Q I j;refine wpAny_List_spliced (e0 (h pos a s o H _ I j) λl c #v[m,d,f,r,z,q]=>#v[by rw[<-r.length];exact z,?_]);have i:d c.heap.objs.size=U:=f.ew.fresh (aH _);refine#v[.ref c.heap.objs.size,eg d c.heap.objs.size (.a3 m),f.laid (t':=c.toks) (λb u e=>aR _ e) (aH _) ?_,O,q _ i];exact#v[z,l,0,r,bw _ O]
end
abbrev Sp:=bF->Hp->VK->XK->Prop
abbrev XF:=List Env->Hp->ae->XK->ab->ae->Prop
structure NC(P:aL)(w:aC)(K:av)(mg:Str->Option ab)(a5:Heap)(A:aQ)(b3:List Env)(s:ae)(H:Hp):Prop where
 frames:A.frames=Z b3
 x?:Mod K mg a5
 bs:∀b o,a5.get? b=Z o->s.heap.get? b=Z o/\H b=U
 μ:a5.objs.size<=s.heap.objs.size
 p?:s.heap.FunFrames a5 b3
 frf:∀b∈X1 b3,H b=U
 ew:n7 P w H s.heap
 j0:fB s.gens
def CE(b3:List Env)(P:aL)(w:aC)(H:Hp)(s:ae)(Q:VK)(u:ab)(a:ae):Prop:=
 ∃v b,a.os=s.os/\fB a.gens/\Un (X1 b3) [] H b s.heap a.heap/\n7 P w b a.heap/\dd v u/\Q v b
def CR(CX:XF)(b3:List Env)(P:aL)(w:aC)(H:Hp)(s:ae)(Q:VK)(E:XK)(r:hE)(a:ae):Prop:=
 match r with
 |.ok (.ret u)=>CE b3 P w H s Q u a
 |.ok _=>False
 |.error e=>CX b3 H s E e a
structure zA(P:aL)(w:aC)(K:av)(mg:Str->Option ab)(a5:Heap)(CX:XF)(k:Nat)(f:Addr)(fd:cp)(ps:aE)(sp:Sp):Prop where
 len:∀vs H Q E,sp vs H Q E->vs.length=ps.length
 run:∀(A:aQ) (b3:List Env) (s:ae) (H:Hp) (args:Args) (us:List ab) (vs:bF) (Q:VK) (E:XK),xX k A->NC P w K mg a5 A b3 s H->iM s fd args (ps.zip us)->cm vs us->sp vs H Q E->
  cH (model P w) A (.call (.ref f) args) (CR CX b3 P w H s Q E) s
theorem zA.mono{P:aL}{w:aC}{K:av}{b:Str->Option ab}{a5:Heap}{CX:XF}{j k:Nat}{f:Addr}{a:cp}{c:aE}{d:Sp}(F:zA P w K b a5 CX j f a c d)(h:j<=k):
  zA P w K b a5 CX k f a c d:=#v[F.len,λA b3 s H args i l Q E e=>F.run A b3 s H args i l Q E (e.mono h)]
theorem zA.imp{P:aL}{w:aC}{K:av}{d:Str->Option ab}{a5:Heap}{CX:XF}{k:Nat}{f:Addr}{c:cp}{ps:aE}{e b:Sp}(F:zA P w K d a5 CX k f c ps e)
  (h:∀a H Q E,b a H Q E->e a H Q E):zA P w K d a5 CX k f c ps b:=
 #v[λa H Q E q=>F.len a H Q E (h _ _ _ _ q),λA b3 s H args p a Q E l j i o m=>F.run A b3 s H args p a Q E l j i o (h _ _ _ _ m)]
def NC.make{P:aL}{w:aC}{K:av}{a:Str->Option ab}{a5:Heap}{A:aQ}{b3:List Env}{s:ae}{H:Hp}(e:NC P w K a a5 A b3 s H)(C:Addr)(c:List ab)(b:List (Str×ab)):
  NC P w K a a5 (A.under (.builtin "type.__call__" #v[.ref C::c,b])) b3 s H:=#v[by first|exact e.frames|(simpa [nH,Code.envs,nI,pushEnvs]using e.frames),e.x?,e.bs,e.μ,e.p?,e.frf,e.ew,e.j0]
section
variable{X:Cx}{pins:cN}{σ:St}{H:Hp}{s s':ae}
def bt.env0(I:bt X pins σ H s):NC X.prog X.w X.K X.mg X.a5 X.A X.stack s H:=
 #v[I.ok.frames,I.ok.x?,I.bs,bz I.ok.μ I.sz,I.stack,I.N1,I.ew,I.j0]
def bt.after(I:bt X pins σ H s)(h:CE X.stack X.prog X.w H s Q u s'):EP X pins σ Q u s':=by obtain⟨v,c,os,j0,un,ew,r,q⟩:=h;obtain⟨e,g,d,t,a⟩:=s';obtain rfl:a=s.os:=os;exact#v[v,c,I.call (h':=e) (g':=g) (d':=d) (t':=t) (ch:=[]) un ew j0 (λb z=>ar z (by simp)),r,q]
end
def HR(b:Sp)(dvs:bF)(E:XK)(t:TA):TE:=λd H Q=>t d H λc a=>b (c++dvs) a Q E
def X9(C:Addr)(d:Sp)(dvs:bF)(E:XK)(t:TA):TE:=λf H Q=>t f H λe b=>∀x a,b x=U->b a=U->a≠x->
 d (.ref x::(e++dvs)) (eg (eg b a (.fh x)) x (.k0 C a [])) (λv c=>v=.O/\Q (.ref x) c) E
def j1(K:av)(d:cp)(c:aE)(b:List ab):Prop:=
 ∀(s:ae) (a:List ab),K.In s.heap->(a++b).length=c.length->iM s d #v[a,[]] (c.zip (a++b))
def j1.all{K:av}{c:cp}{b:aE}(h:∀a:List ab,a.length=b.length->bindArgs c #v[a,[]]=pure (b.zip a)):j1 K c b []:=λs a y d=>by rw[bZ]at d ⊢;exact .of_eq (h a d)
def nj(CX:XF)(X:Cx)(E:XK):Prop:=∀(a:cN) (c:St) (H:Hp) (s:ae) (e:ab) (b:ae),bt X a c H s->CX X.stack H s E e b->X.xe e b
section
variable{X:Cx}{CX:XF}{k:Nat}{f C:Addr}{fd:cp}{ps:aE}{sp:Sp}{dvs:bF}{ds:List ab}{E:XK}{x m:Str}{p pos apos:Pos}{e o:Expr}{es:List Expr}{ta:TE}{t:TA}
theorem Ks(F:zA X.prog X.w X.K X.mg X.a5 CX k f fd ps sp)(l:xX k X.A)(i:j1 X.K fd ps ds)(hd:cm dvs ds)(q:nj CX X E)
  (I:bt X a d H s) (r:cm vs us) (h:sp (vs++dvs) H Q E):ao (model X.prog X.w) X.A (call (.ref f) us) (EP X a d Q) X.xe s:=by
 have c:cm (vs++dvs) (us++ds):=r.append hd;have j:(us++ds).length=ps.length:=by rw[<-c.length];exact F.len _ _ _ _ h
 refine kj (iF (F.run X.A X.stack s H #v[us,[]] (us++ds) (vs++dvs) Q E l I.env0 (i s us I.la j) c h) λr y b=>?_);cases r with
 |error e=>exact q a d H s e y I b
 |ok fl=>
  cases fl with
  |ret u=>exact I.after b
  |next=>exact dc b
  |brk=>exact dc b
  |cont=>exact dc b
def OM(F:zA X.prog X.w X.K X.mg X.a5 CX k f fd ps sp)(B:xX k X.A)(u:Gl X x)(z:X.mg x=Z (.ref f))(y:eD X.K (.ref f)=γ)(j:j1 X.K fd ps ds)(hd:cm dvs ds)(G:nj CX X E)
  (i:PA X (e::es) t) (b:autoParam ((x==("__debug__" : Str))=δ) zA1._auto_1) (l:autoParam (aF (e::es) X.a4=(δ,eval e X.a4)::aF es X.a4) zA0._auto_1) (hpl:autoParam ((bO pos (aF es X.a4)).any (·.1)=δ) zA0._auto_1):
  PE X (.Call (.Name x p) (e::es) [] pos) (HR sp dvs E t):=by
 intro a s J H Q I h;refine dZ (EX I u z ?_ b);refine nJ (h₀:=X.a5) I.ok.x?.kin y (e0 (i pos a s J H _ I h) λP N #v[R,M,c,r,q]=>#v[c.la,?_]) l hpl;exact Ks F B j hd G c r q
def RX(F:zA X.prog X.w X.K X.mg X.a5 CX k f fd ps sp)(l:xX k X.A)(d:Gl X x)(j:X.mg x=Z (.ref f))(i:eD X.K (.ref f)=γ)(c:j1 X.K fd ps ds)(hd:cm dvs ds)(q:nj CX X E)
  (a:autoParam ((x==("__debug__" : Str))=δ) zA1._auto_1):PE X (.Call (.Name x p) [] [] pos) (HR sp dvs E Jp):=by
 intro b s u H Q I h;refine dZ (EX I d j ?_ a);exact ng I.la i (Ks (us:=[]) F l c hd q I .nil h)
structure Mk(K:av)(C f:Addr):Prop where
 O':nW K C=γ
 init:c4 K (.ref C) "__init__" = Z (Z (.ref f))
 fn:kC K (.ref f)=γ
 kp:eD K (.ref C)=γ
theorem RY(M:Mk X.K C f)(F:zA X.prog X.w X.K X.mg X.a5 CX k f fd ps sp)(R:xX (k+1) X.A)(N:j1 X.K fd ps ds)(hd:cm dvs ds)
  (S:nj CX X E) (I:bt X b y H s) (r:cm q c)
  (h:∀x i,H x=U->H i=U->i≠x->sp (.ref x::(q++dvs)) (eg (eg H i (.fh x)) x (.k0 C i [])) (λv B=>v=.O/\Q (.ref x) B) E):
  ao (model X.prog X.w) X.A (call (.ref C) c) (EP X b y Q) X.xe s:=by
 have j:=h (s.heap.objs.size+1) s.heap.objs.size (I.ew.fresh (dw _)) (I.ew.fresh (aH _)) (bg (dM _));have d:=bt.made (C:=C) I;have l:cm (V.ref (s.heap.objs.size+1)::(q++dvs)) (Value.ref (s.heap.objs.size+1)::(c++ds)):=.cons O (r.append hd);have P:(Value.ref (s.heap.objs.size+1)::c++ds).length=ps.length:=by have e:=l.length;rw[F.len _ _ _ _ j]at e;exact e.symm
 refine kj (RV (f:=f) I.la M.O' M.init (beq_iff_eq.mp M.fn) (iF (F.run _ X.stack _ _ #v[Value.ref (s.heap.objs.size+1)::c,[]] (Value.ref (s.heap.objs.size+1)::(c++ds)) _ _ E (R.make C c [])
  (d.env0.make C c []) (N _ (Value.ref (s.heap.objs.size+1)::c) d.la P) l j) λr W a=>?_))
 cases r with
 |error e=>exact S b y _ _ e W d a
 |ok fl=>
  cases fl with
  |ret u=>obtain⟨v,z,G,T,J,q3⟩:=d.after a;subst J;exact#v[T,#v[V.ref (s.heap.objs.size+1),z,G,O,q3]]
  |next=>exact dc a
  |brk=>exact dc a
  |cont=>exact dc a
def VP(M:Mk X.K C f)(F:zA X.prog X.w X.K X.mg X.a5 CX k f fd ps sp)(z:xX (k+1) X.A)(u:Gl X x)(y:X.mg x=Z (.ref C))(j:j1 X.K fd ps ds)(hd:cm dvs ds)(B:nj CX X E)
  (i:PA X (e::es) t) (b:autoParam ((x==("__debug__" : Str))=δ) zA1._auto_1) (l:autoParam (aF (e::es) X.a4=(δ,eval e X.a4)::aF es X.a4) zA0._auto_1) (hpl:autoParam ((bO pos (aF es X.a4)).any (·.1)=δ) zA0._auto_1):
  PE X (.Call (.Name x p) (e::es) [] pos) (X9 C sp dvs E t):=by
 intro a s G H Q I h;refine dZ (EX I u y ?_ b);refine nJ (h₀:=X.a5) I.ok.x?.kin M.kp (e0 (i pos a s G H _ I h) λP N #v[R,J,c,r,q]=>#v[c.la,?_]) l hpl;exact RY M F z j hd B c r q
end
structure yA(N P:aE)(sc:cQ):Prop where
 kind:sc.kind=.function
 co:sc.isCoroutine=δ
 n3:sc.isGenerator=δ
 nd:N.Nodup
 pre:N.take P.length=P
 par:∀x∈P,sc.names.lookup x=Z .local\/sc.names.lookup x=Z .cell
 nofree:∀y∈sc.names,y.2≠.free
theorem JG{kindOf:Str->Option eE}{x:Str}:∀{n?:List (Str×ab)} {m:Str->Option ab},(∀v,(x,v)∉n?)->bindL kindOf n? m x=m x
 |[],_,_=>rfl
 |(n,v)::r,m,h=>by
  unfold bindL;rw[JG λw a=>h w (bb _ a)];split
  .have:x≠n:=by rintro rfl;exact h v ba
   simp[this]
  .rfl
theorem JH{kindOf:Str->Option eE}{x:Str}:∀{n?:List (Str×ab)} {m:Str->Option ab},(∀v,(x,v)∉n?)->bindC kindOf n? m x=m x
 |[],_,_=>rfl
 |(n,v)::r,m,h=>by
  unfold bindC;rw[JH λw a=>h w (bb _ a)];split
  .rfl
  .have:x≠n:=by rintro rfl;exact h v ba
   simp[this]
theorem JI{kindOf:Str->Option eE}{x:Str}{v:ab}:∀{P:aE} {a:List ab} {i:Nat} {m:Str->Option ab},P.Nodup->P[i]?=Z x->a[i]?=Z v->kindOf x=Z .local->
  bindL kindOf (P.zip a) m x=Z v
 |[],_,_,_,_,h,_,_=>by simp at h
 |_::_,[],_,_,_,_,h,_=>by simp at h
 |p::P,w::a,0,m,e,b,c,d=>by simp at b c;subst b;subst c;show bindL kindOf ((p,w)::P.zip a) m p=_;unfold bindL;rw[JG λv f=>(dO.1 e).1 (j3 f).1,aj d];simp
 |p::P,w::a,i+1,m,e,b,c,d=>by show bindL kindOf ((p,w)::P.zip a) m x=_;unfold bindL;exact JI (i:=i) (dO.1 e).2 (by simpa using b) (by simpa using c) d
theorem JJ{kindOf:Str->Option eE}{x:Str}{v:ab}:∀{P:aE} {a:List ab} {i:Nat} {m:Str->Option ab},P.Nodup->P[i]?=Z x->a[i]?=Z v->kindOf x≠Z .local->
  bindC kindOf (P.zip a) m x=Z v
 |[],_,_,_,_,h,_,_=>by simp at h
 |_::_,[],_,_,_,_,h,_=>by simp at h
 |p::P,w::a,0,m,e,b,c,d=>by simp at b c;subst b;subst c;show bindC kindOf ((p,w)::P.zip a) m p=_;unfold bindC;rw[JH λv f=>(dO.1 e).1 (j3 f).1,ak d];simp
 |p::P,w::a,i+1,m,e,b,c,d=>by show bindC kindOf ((p,w)::P.zip a) m x=_;unfold bindC;exact JJ (i:=i) (dO.1 e).2 (by simpa using b) (by simpa using c) d
def start(N:aE)(a:bF):St:=a.map Z++eZ (N.length - a.length) U
def LN(CX:XF)(P:aL)(w:aC)(K:av)(mg:Str->Option ab)(a5:Heap)(N:aE)(qual:Str)(scope:cQ)(f:Addr)(cd:ab)(A:aQ)(b3:List Env)(s:ae)(H:Hp)(E:XK):Cx where
 prog:=P
 w:=w
 K:=K
 mg:=mg
 a5:=a5
 A:=A.deeper (envOfC qual scope s.heap.objs.size f cd)
 N:=N
 s₀:=s
 H₀:=H
 a4:=envOfC qual scope s.heap.objs.size f cd
 b3:=b3
 stack:=envOfC qual scope s.heap.objs.size f cd::b3
 ex:=[]
 l0:=γ
 fn:=λy=>γ
 pn:=[]
 xe:=λe c=>ao (model P w) (A.deeper (envOfC qual scope s.heap.objs.size f cd)) (leaving (envOfC qual scope s.heap.objs.size f cd) e) (λy a=>CX b3 H s E e a) (λb a=>CX b3 H s E b a) c
def LO{a:cQ}(h:a.names.lookup x=Z .cell):∃c,(cellsFrom n a.names []).lookup x=Z c:=by have q:=qw a.names n [] (.inl h);exact oR.1 q
def Qq{CX:XF}{P:aL}{w:aC}{K:av}{F:Str->Option ab}{a5:Heap}{N m:aE}{qual:Str}{scope:cQ}{f:Addr}{cd:ab}{A:aQ}{b3:List Env}{s M:ae}{H:Hp}{E:XK}{G:List ab}{o:bF}
  (S:yA N m scope) (hd:A.handled=U) (j:NC P w K F a5 A b3 s H) (W:o.length=m.length) (r:cm o G)
  (x:InCallC s s.heap.objs.size (bindL (envOfC qual scope s.heap.objs.size f cd).kindOf (m.zip G) λ_=>U) (cellsFrom (s.heap.objs.size+1) scope.names []) (bindC (envOfC qual scope s.heap.objs.size f cd).kindOf (m.zip G) λ_=>U) M):
  bt (LN CX P w K F a5 N qual scope f cd A b3 s H E) [] (start N o) H M:=by
 have hpl:m.length<=N.length:=by have:=bD cO S.pre;rw[cA]at this;omega
 obtain⟨B,X,rfl,I⟩:=x.done;have noA:∀b:Addr,b∉(LN CX P w K F a5 N qual scope f cd A b3 s H E).ex:=λb z=>ar (show b∈([]:List Addr) from z) (by simp);refine#v[#v[j.x?,S.kind,O,O,aH _,λy z c B d=>?_,λy l=>?_,λy c _ h=>?_,λ_=>hd,Around.frames_deeper j.frames,.inr #v[O,O],λb z=>ar z (noA b),j.bs,j.μ,λb _ _=>noA b,λb z=>ar z (noA b),j.p?,j.frf],
  rfl,j.j0,Un.fu I,#v[_,x.toInCall.ns,λi y v B d T=>?_],λy c h=>#v[_,x.cell y c h],j.ew.fresh (aH _),λy c h=>?_,λp t=>ar (show p∈([]:cN) from t) (by simp),j.ew.fu I,?_]
 .exact name_of_addr x.apart (i6 B) (i6 d)
 .have l:scope.names.lookup y=Z .cell\/scope.names.lookup y=Z .free:=l;rcases l with l|l
  .exact LO l
  .exact ar O (S.nofree _ (i6 l))
 .exact iC (x.above y c (i6 h))
 .have C:i<o.length:=by
   unfold start at d;by_cases C:i<o.length
   .exact C
   .rw[f9 (by simpa using C)]at d;rw[jD]at d;split at d<;>cases d
  have Q:o[i]?=Z v:=by
   unfold start at d;rw[gb (by simpa using C),bq]at d;cases e:o[i]? with
   |none=>rw[e]at d;cases d
   |some a=>rw[e]at d;cases d;rfl
  obtain⟨u,J,R⟩:=r.get Q;have t:m[i]?=Z y:=by rw[<-S.pre,List.getElem?_take_of_lt (by omega)];exact B
  have ndP:m.Nodup:=by rw[<-S.pre];exact S.nd.sublist (jO _ _)
  refine#v[u,R,?_];rcases S.par y (cf t)with k|k
  .exact .inl #v[k,JI ndP t J k]
  .obtain⟨c,e⟩:=LO (n:=s.heap.objs.size+1) k;refine .inr #v[.inl k,c,e,?_];have q:=x.cell y c e;rw[JJ ndP t J (by show scope.names.lookup y≠_;rw[k];decide)]at q;exact q
 .exact j.ew.fresh (iC (x.above y c (i6 h)))
 .unfold start;show _=N.length;rw[aA,af,c6];omega
def Ya{CX:XF}{P:aL}{w:aC}{K:av}{j:Str->Option ab}{a5:Heap}{k:Nat}{f:Addr}{name qual:Str}{params:Arguments}{body:List Stmt}{scope:cQ}{dV kV doc pm cdv F oc:ab}{C od:Option Addr}
  {osl:Array (Option ab)} {N l:aE} {B:Sp} (lk:K.lookup f=Z #v[oc,od,.func (fE name qual params body scope dV kV doc pm C cdv F),osl]) (hcd:iJ K cdv qual=γ) (S:yA N l scope)
  (len:∀a H Q E,B a H Q E->a.length=l.length)
  (hbody:∀(A:aQ) (b3:List Env) (s:ae) (H:Hp) (a:bF) (Q:VK) (E:XK),xX k (A.deeper (envOfC qual scope s.heap.objs.size f cdv))->B a H Q E->
   ∃t,mw (LN CX P w K j a5 N qual scope f cdv A b3 s H E) body t/\t { nx:=λ_ d=>Q .O d,rt:=Q } (start N a) H):
  zA P w K j a5 CX (k+1) f (fE name qual params body scope dV kV doc pm C cdv F) l B:=by
 refine#v[len,λA b3 s H args us a Q E m i M r hsp=>?_];have T:=len _ _ _ _ hsp;have KX:K.In s.heap:=i.x?.kin.keeps λb o e=>(i.bs b o e).1;have lim:s.heap.NoLimit:=i.x?.nolimit.keeps λb o e=>(i.bs b o e).1;have hkind:∀y∈l.zip us,scope.names.lookup y.1=Z .local\/(scope.names.lookup y.1=Z .cell/\((cellsFrom (s.heap.objs.size+1) scope.names []).lookup y.1).isSome=γ):=λ#v[n,v] hy=>by
  rcases S.par n (j3 hy).1 with q|q
  .exact .inl q
  .exact .inr #v[q,qw _ _ _ (.inl q)]
 refine codeAny_call_function m.depth (KX _ _ lk) O S.co S.n3 O (W.codeRec_of KX hcd) (M _ _ _ _ ?_);refine wpAny_newFunctionEnv_cells S.kind hkind λa4 R G x=>?_;subst R;refine#v[lim.keeps x.toInCall.keep,codeAny_func ?_];obtain⟨t,Y,X⟩:=hbody A b3 s H a Q E (m.deeper _) hsp;have I:bt (LN CX P w K j a5 N qual scope f cdv A b3 s H E) [] (start N a) H G:=Qq S m.hd i T r x;refine cy (Y [] G (start N a) H _ I X) (λfl z h=>?_) λe z h=>h;have fin:∀{c:St} {d:Hp} {v:V} {u:ab},bt (LN CX P w K j a5 N qual scope f cdv A b3 s H E) [] c d z->dd v u->Q v d->CE b3 P w H s Q u z:=
  λ{c d v u} J p q=>#v[v,d,J.os,J.j0,J.a5,J.ew,p,q]
 cases fl with
 |ret u=>obtain⟨v,c,d,J,p,q⟩:=h;exact fin J p q
 |next=>obtain⟨c,d,J,q⟩:=h;exact fin (v:=V.O) (u:=Value.none) J O q
 |brk=>obtain⟨_,_,_,q⟩:=h;exact dc q
 |cont=>obtain⟨_,_,_,q⟩:=h;exact dc q
section
variable{X:Cx}{x:Str}{p pos:Pos}{e:Expr}{es:List Expr}{t:TA}{id T:String}{r:bF->Hp->VK->Prop}
def tCB(r:bF->Hp->VK->Prop)(t:TA):TE:=λc H Q=>t c H λb a=>r b a Q
set_option r "Do builtin id builtin1;Qr type T type1" in def ϑ0(j:xD X (.ϑ1 ϑ2) r)(m:Gl X x)(o:X.mg x=U)(u:d9 x=Z (.ϑ1 ϑ2))(i:PA X (e::es) t)(q:x≠"__name__" := by decide)(b:(x==("__debug__" : Str))=δ:=by decide)
  (l:aF (e::es) X.a4=(δ,eval e X.a4)::aF es X.a4:=by rfl) (hpl:(bO pos (aF es X.a4)).any (·.1)=δ:=by rfl):PE X (.Call (.Name x p) (e::es) [] pos) (tCB r t):=by
 intro a s c H Q I h;refine dZ (Cb I m o u ?_ q b);exact callWith_ϑ3 (e0 (i pos a s c H _ I h) λA z #v[B,d,f,y,w]=>j a z c d B A Q f y w) l hpl
end
end L2
namespace HT
open PySem PyProof.Rows
section
variable{prog:aL}{w:aC}{A:aQ}{E:ab->ae->Prop}{s:ae}
def VQ{vs ws:List ab}(q:fF s.heap t vs.toArray)(hb:fF s.heap b ws.toArray)(o:vs≠[])
  (h1:ws=[]->Q (.ref t) s) (h2:ws≠[]->Q (.ref s.heap.objs.size) { s with heap:=s.heap.push { cls:=.type "tuple", data:=.seq (vs++ws).toArray } })
  (j:vs.length+ws.length<=aI):ao (model prog w) A (cG .Add (.ref t) (.ref b)) Q E s:=by
 obtain⟨⟨cls,l,data,sl⟩,i,m,n,hd⟩:=id q;obtain⟨⟨cls2,c,data2,h⟩,a,d,p,f⟩:=id hb;simp only at m hd d f;subst m hd d f;have e:vs.toArray++ws.toArray=(vs++ws).toArray:=by simp
 by_cases hw:ws=[]
 .exact nL #v[_,i,O] #v[_,a,O] mK nh mL mB (l4 _ _)
   (tuple_addW1 t b vs.toArray ws.toArray n p l c sl h (by simpa using o) (by simp[hw])) #v[i,a,h1 hw]
 .refine nL #v[_,i,O] #v[_,a,O] mK nh mL mB (l4 _ _)
   (tuple_addW2 t b vs.toArray ws.toArray n p l c sl h (by simpa using o) (by simpa using hw) (by rw[bf,bf];exact j)) #v[i,a,?_]
  rw[e];exact h2 hw
def e?(n d:Nat):Option Int->Nat
 |none=>d
 |some v=>if v<0 then (v+(n:Int)).toNat else min v.toNat n
def LP(n d:Nat):e? n d U=d:=rfl
def HC(n d k:Nat):e? n d (Z (k:Int))=min k n:=by show (if (k:Int)<0 then ((k:Int)+(n:Int)).toNat else min (k:Int).toNat n)=min k n;rw[ak (by omega),gr]
def Zy(n d:Nat)(hd:d<=n)(o:Option Int):e? n d o<=n:=by
 cases o with
 |none=>exact hd
 |some v=>
  show (if v<0 then (v+(n:Int)).toNat else min v.toNat n)<=n;by_cases a:v<0
  .rw[aj a];omega
  .rw[ak a];exact Nat.min_le_right _ _
def ON(v:Int)(n d:Nat):(if v<0 then max (v+(n:Int)) 0 else min v (n:Int))=((e? n d (Z v):Nat):Int):=by
 show (if v<0 then max (v+(n:Int)) 0 else min v (n:Int))=(((if v<0 then (v+(n:Int)).toNat else min v.toNat n):Nat):Int);by_cases a:v<0
 .simp only[aj a];omega
 .simp only[ak a];omega
def ND(lo a:Option Int)(n:Nat):lg lo a 1 (n:Int)=(((e? n 0 lo:Nat):Int),((e? n n a:Nat):Int)):=by
 have b:¬((1:Int)<0):=by omega
 unfold lg;simp only[b,if_false];refine Prod.ext ?_ ?_
 .cases lo with
  |none=>rfl
  |some v=>exact ON v n 0
 .cases a with
  |none=>rfl
  |some v=>exact ON v n n
def NF(i j:Nat):gf (i:Int) (j:Int) 1=j - i:=by
 unfold gf;have a:(1:Int) > 0:=by omega
 simp only[a,if_true,rM];split<;>omega
def HS(p:eG v o)(h:Q o s):ao (model prog w) A (tP v) Q E s:=by
 cases p with
 |none=>exact j7 h
 |int i t=>exact rA h
def BO{d:Addr}{b c:ab}{lo a:Option Int}{n:Nat}{Q:Int×Int×Nat->ae->Prop}(e:s.heap.IsSliceOf d b c .none)(pl:eG b lo)(f:eG c a)
  (h:Q (((e? n 0 lo:Nat):Int),1,e? n n a - e? n 0 lo) s):ao (model prog w) A (jA (.ref d) (pure (n:Int))) Q E s:=by
 obtain⟨os,hos,hcs,hds⟩:=id e;unfold jA oN;refine ah (ah (iI hos hds (x:=b) O (ah (iI hos hds (x:=c) O (ah (iI hos hds (x:=.none) O (aq ?_)))))));refine ah (j7 ?_);show ao _ _ (if ((1:Int)==0)=γ then _ else _) _ _ s;rw[ak (by decide)];refine ah (HS pl (ah (HS f (ah (aq ?_)))));show ao _ _ (match lg lo a 1 (n:Int)with|(lo,a)=>pure (lo,(1:Int),gf lo a 1)) _ _ s;rw[ND lo a n];show ao _ _ (pure (((e? n 0 lo:Nat):Int),(1:Int),gf ((e? n 0 lo:Nat):Int) ((e? n n a:Nat):Int) 1)) _ _ s;rw[NF];exact aq h
def LQ(a:Array ab)(i k:Nat):((aB k).filterMap λ(m:Nat)=>a[((i:Int)+(m:Int) * 1).toNat]?).toArray=((a.toList.drop i).take k).toArray:=by
 have e:(λ(m:Nat)=>a[((i:Int)+(m:Int) * 1).toNat]?)=λm=>a[i+m]?:=by
  funext m
  have:((i:Int)+(m:Int) * 1).toNat=i+m:=by omega
  rw[this]
 rw[e];have:=pick_run a i k;rw[List.filterMap_map]at this;have b:((λx=>a[x]?)∘λx=>i+x)=λm=>a[i+m]?:=rfl;rw[b]at this;rw[this]
def E2{t sl:Addr}{items:Array ab}{b c:ab}{lo hi:Option Int}{Q:ab->ae->Prop}(a:fF s.heap t items)(hs:s.heap.IsSliceOf sl b c .none)(pl:eG b lo)(pu:eG c hi)
  (hw:¬(e? items.size 0 lo=0/\e? items.size items.size hi=items.size))
  (h:Q (.ref s.heap.objs.size) { s with heap:=s.heap.push { cls:=.type "tuple", data:=.seq ((items.toList.drop (e? items.size 0 lo)).take (e? items.size items.size hi - e? items.size 0 lo)).toArray } })
  (d:items.size<=aI):ao (model prog w) A (getItem (.ref t) (.ref sl)) Q E s:=by
 have htake:sizeOk (.seq ((items.toList.drop (e? items.size 0 lo)).take (e? items.size items.size hi - e? items.size 0 lo)).toArray):=by show ((items.toList.drop (e? items.size 0 lo)).take (e? items.size items.size hi - e? items.size 0 lo)).toArray.size<=aI;rw[bf,cA,cW,bR];omega
 have e:e? items.size items.size hi<=items.size:=Zy _ _ (aH _) hi;obtain⟨os,hos,hcs,hds⟩:=id hs;have hTs:s.TypeIs (.ref sl) "slice" := #v[os,hos,hcs];unfold getItem
 try with_reducible refine cF ?_
 first|refine ah (aq ?_)|skip
 refine ah (mC a.typeIs (by decide) ?_);refine ah (jE (name:=jj "__getitem__") a.typeIs dX
  (eQ dX a.typeIs lK ?_ (l5 _ _)))
 show ao _ _ (k7 (.ref t)>>=_) _ _ s;refine ah (ni a ?_);refine ah (gR hTs ?_);rw[aj (by decide)];refine ah (BO hs pl pu ?_);have hno:¬((((e? items.size 0 lo:Nat):Int)==0&&(1:Int)==1&&(e? items.size items.size hi - e? items.size 0 lo)==items.size)=γ):=by intro q;rw[aT,aT]at q;have q1:((e? items.size 0 lo:Nat):Int)=0:=fW q.1.1;have q2:e? items.size items.size hi - e? items.size 0 lo=items.size:=fW q.2;exact hw #v[by omega,by omega]
 show ao _ _ (if (((e? items.size 0 lo:Nat):Int)==0&&(1:Int)==1&&(e? items.size items.size hi - e? items.size 0 lo)==items.size)=γ then _ else _) _ _ s;rw[ak hno,LQ]
 first
  |exact ah (m:=fJ _) (cU (aq #v[_,O,aq h]) htake)
  |exact ah (m:=fJ _) (cU (ah (aq (aq #v[_,O,aq h]))) htake)
  |exact ah (ah (m:=fJ _) (cU (aq (aq #v[_,O,aq h])) htake))
  |exact ah (ah (m:=fJ _) (cU (aq #v[_,O,aq h]) htake))
end
end HT
namespace L2
open PySem PySem.Spec PyProof.Rows
abbrev TO:=St->Hp->(Option Int->Hp->Prop)->Prop
def PO(X:Cx)(e:Option Expr)(t:TO):Prop:=
 ∀(a:cN) (s:ae) (b:St) (H:Hp) (Q:Option Int->Hp->Prop),bt X a b H s->t b H Q->
  ao (model X.prog X.w) X.A (evalPart e X.a4) (λu d=>∃o c,bt X a b c d/\eG u o/\Q o c) X.xe s
def VR:TO:=λy H Q=>Q U H
def ads(t:TE):TO:=λb H Q=>t b H λx a=>∃i,x=.int i/\Q (Z i) a
section
variable{X:Cx}{e:Expr}{te:TE}{lo hi:Option Expr}{tl th:TO}{pos p2:Pos}
def OO:PO X U VR:=by intro a s b H Q I h;rw[nu];exact aq #v[U,H,I,.none,h]
def OP(h:PE X e te):PO X (Z e) (ads te):=by intro a s l H Q I d;rw[rB];refine e0 (h a s l H _ I d) λu m zz=>?_;obtain⟨x,b,c,j,f⟩:=zz;obtain⟨i,rfl,q⟩:=f;obtain⟨t,rfl⟩:=j;exact#v[Z i,b,c,.int i t,q]
def SlR(X:Cx)(r:V->Option Int->Option Int->Hp->VK->Prop):Prop:=
 ∀(a:cN) (s:ae) (f:St) (H:Hp) (x:V) (v c d:ab) (lo hi:Option Int) (b:Addr) (Q:VK),bt X a f H s->dd x v->s.heap.IsSliceOf b c d .none->eG c lo->eG d hi->r x lo hi H Q->
  ∃T id,typeLookup (.type T) "__getitem__" = pure (Z (.builtin id))/\s.TypeIs v T/\ao (model X.prog X.w) X.A (getItem v (.ref b)) (EP X a f Q) X.xe s
def tSl(r:V->Option Int->Option Int->Hp->VK->Prop)(te:TE)(tl th:TO):TE:=λa H Q=>te a H λx b=>tl a b λl c=>th a c λu d=>r x l u d Q
def E3(hr:SlR X r)(p:PE X e te)(t:PO X lo tl)(z:PO X hi th):PE X (.Subscript e (.Slice lo hi U p2) pos) (tSl r te tl th):=by intro pins s σ H Q I h;refine km (e0 (p pins s σ H _ I h) λv B zz=>?_);obtain⟨x,H1,i,r1,q1⟩:=zz;refine wpAny_Slice (e0 (t pins B σ H1 _ i q1) λc s2 #v[l,H2,j,pl,q2]=>e0 (z pins s2 σ H2 _ j q2) λd a zz=>?_);obtain⟨u,f,m,pu,q3⟩:=zz;rw[nu];refine aq ?_;have o:bt X pins σ f { a with heap:=a.heap.push { cls:=.type "slice", data:=.fields #[c,d,.none] } }:=m.fu (t':=a.toks) λb ob q=>aR _ q;obtain⟨T,id,hT,y,hg⟩:=hr pins { a with heap:=a.heap.push { cls:=.type "slice", data:=.fields #[c,d,.none] } } σ f x v c d l u a.heap.objs.size Q o r1 (pU ..) pl pu q3;show ao (model X.prog X.w) X.A (subscriptTail e (.Slice lo hi U p2) v (.ref a.heap.objs.size)) (EP X pins σ Q) X.xe { a with heap:=a.heap.push { cls:=.type "slice", data:=.fields #[c,d,.none] } };exact nY (ops:=[.ref a.heap.objs.size,v]) y hT hg (by with_unfolding_all rfl)
def Kt(a:bF)(lo hi:Option Int):bF:=(a.drop (HT.e? a.length 0 lo)).take (HT.e? a.length a.length hi - HT.e? a.length 0 lo)
def GT(a:bF)(lo hi:Option Int):(Kt a lo hi).length<=a.length:=by unfold Kt;rw[cA,cW];omega
def Zz(K:av):V->Option Int->Option Int->Hp->VK->Prop:=λx lo hi H Q=>∃a b,x=.ref a/\e8 K H a b/\
 ¬(HT.e? b.length 0 lo=0/\HT.e? b.length b.length hi=b.length)/\∀p,H p=U->Q (.ref p) (eg H p (.a7 (Kt b lo hi)))
def RZ:SlR X (Zz X.K):=by
 intro l s E H x v B C lo hi z Q I w m pl u h;obtain⟨a,d,rfl,t,p,q⟩:=h;cases w;obtain⟨f,r,i,j⟩:=I.tuple t;have c:f.toArray.size=d.length:=by rw[bf];exact r.length.symm
 refine#v["tuple", _,dX.lookup,i.typeIs,?_];refine HT.E2 i m pl u (by rw[c];exact p) ?_ (by rw[c];exact j);rw[c];refine#v[.ref s.heap.objs.size,_,I.laid (t':=s.toks) (o:=.a7 (Kt d lo hi)) (λb y q=>aR _ q) (aH _) ?_,O,q _ (I.ew.fresh (aH _))];exact#v[bz (GT d lo hi) j,_,(r.drop (HT.e? d.length 0 lo)).take (HT.e? d.length d.length hi - HT.e? d.length 0 lo),ky _ _,λo e=>by rw[bw _ O]at e;cases e;rfl]
inductive R0(K:av) (x:V) (y:V) (H:Hp) (Q:VK):Prop
 |i (a b xs ys) (h0:x=.ref a) (h1:y=.ref b) (h2:e8 K H a xs) (h3:e8 K H b ys) (h4:xs≠[]) (h5:xs.length+ys.length<=aI) (h6:(ys=[]->Q (.ref a) H)) (h7:(ys≠[]->∀p,H p=U->Q (.ref p) (eg H p (.a7 (xs++ys))))):R0 K x y H Q
def adt(K:av):R2:=λx y H Q=>R0 K x y H Q
def cm.sh(r:cm b a):a=[] ↔ b=[]:=by
 cases r with
 |nil=>simp
 |cons _ _=>simp
def OQ:gi X (cG .Add) (adt X.K):=by intro j s N H x y v u Q I C E h;obtain⟨a,b,F,G,rfl,rfl,l,m,p,f,A,B⟩:=h;cases C;cases E;obtain⟨r,d,t,_⟩:=I.tuple l;obtain⟨i,c,p2,_⟩:=I.tuple m;refine HT.VQ t p2 (λz=>p (d.sh.1 z)) (λz=>#v[.ref a,H,I,O,A (c.sh.1 z)]) (λz=>?_) (by rw[<-d.length,<- c.length];exact f);refine#v[.ref s.heap.objs.size,_,I.laid (t':=s.toks) (o:=.a7 (F++G)) (λb J q=>aR _ q) (aH _) ?_,O,B (λw=>z (c.sh.2 w)) _ (I.ew.fresh (aH _))];exact#v[by rw[aA];exact f,_,d.append c,ky _ _,λo e=>by rw[bw _ O]at e;cases e;rfl]
end
def ixN(n:Nat)(i:Int):Option Nat:=if 0<=i then (if i<n then Z i.toNat else U)else if -(n:Int)<=i then Z (i+n).toNat else U
def Bx{b:Type}(a:List b)(i:Int):Option b:=(ixN a.length i).bind λj=>a[j]?
def VS(h:ixN n i=Z j):seqIndex? i n=Z j/\j<n/\-(n:Int)<=i/\i<n:=by
 unfold ixN at h;by_cases b:0<=i
 .rw[aj b]at h;by_cases a:i<n
  .rw[aj a]at h;have e:i.toNat=j:=cX h;exact#v[by rw[seqIndex_of b a,e],by omega,by omega,a]
  .rw[ak a]at h;cases h
 .rw[ak b]at h;by_cases a:-(n:Int)<=i
  .rw[aj a]at h;have e:(i+n).toNat=j:=cX h;exact#v[by rw[seqIndex_neg (by omega) a,e],by omega,a,by omega]
  .rw[ak a]at h;cases h
def Ku{b:Type}{a:List b}{i:Int}{v:b}(h:Bx a i=Z v):∃j,seqIndex? i a.length=Z j/\a[j]?=Z v/\j<a.length/\-(a.length:Int)<=i/\i<a.length:=by
 unfold Bx at h;cases e:ixN a.length i with
 |none=>rw[e]at h;cases h
 |some j=>rw[e]at h;obtain⟨c,d,f,l⟩:=VS e;exact#v[j,c,h,d,f,l]
def y9{b:Type}{a:List b}{j:Nat}{v:b}(h:a[j]?=Z v):Bx a (j:Int)=Z v:=by
 have c:j<a.length:=(cj.1 h).1;have e:ixN a.length (j:Int)=Z j:=by unfold ixN;rw[aj (by omega),aj (by omega)];simp
 unfold Bx;rw[e];exact h
def OR(b:Expr):Prop:=∀o i,subscripted b δ o i=operate [o,i] (getItem o i)
def τ(X:Cx)(r:R2):Prop:=
 ∀(value slice:Expr) (a:cN) (s:ae) (b:St) (H:Hp) (x y:V) (v u:ab) (Q:VK),bt X a b H s->dd x v->dd y u->r x y H Q->
  subscripted slice δ v u=operate [v,u] (getItem v u)->ao (model X.prog X.w) X.A (subscriptTail value slice v u) (EP X a b Q) X.xe s
def MtR(X:Cx)(id:String)(r:V->bF->Hp->VK->Prop):Prop:=
 ∀(a:cN) (s:ae) (d:St) (H:Hp) (x:V) (c:bF) (v:ab) (b:List ab) (Q:VK),bt X a d H s->dd x v->cm c b->r x c H Q->
  ao (model X.prog X.w) X.A (call (.builtin id) (v::b)) (EP X a d Q) X.xe s
section
variable{X:Cx}{a b:Expr}{ta tb:TE}{pos:Pos}
def τ.or(h:τ X r)(j:τ X l):τ X (λx y H Q=>r x y H Q\/l x y H Q):=by
 intro value slice c s i H x y v u Q I e f q d;rcases q with q|q
 .exact h value slice c s i H x y v u Q I e f q d
 .exact j value slice c s i H x y v u Q I e f q d
def adu(j:τ X r)(f:PE X a ta)(i:PE X b tb)(l:OR b):PE X (.Subscript a b pos) (tOp r ta tb):=by intro c s t H Q I h;exact km (Zk f i I h λv u p x y d e m o q=>j a b c p t d x y v u Q e m o q (l _ _))
inductive Yc(K:av) (x:V) (y:V) (H:Hp) (Q:VK):Prop
 |i (p xs i v) (h0:x=.ref p) (h1:y=.int i) (h2:fb K H p xs) (h3:Bx xs i=Z v) (h4:Q v H):Yc K x y H Q
def rIxL(K:av):R2:=λx y H Q=>Yc K x y H Q
inductive Yd(K:av) (x:V) (y:V) (H:Hp) (Q:VK):Prop
 |i (p xs i v) (h0:x=.ref p) (h1:y=.int i) (h2:e8 K H p xs) (h3:Bx xs i=Z v) (h4:Q v H):Yd K x y H Q
def rIxT(K:av):R2:=λx y H Q=>Yd K x y H Q
inductive Ye(x:V) (y:V) (H:Hp) (Q:VK):Prop
 |i (z i c) (h0:x=.str z) (h1:y=.int i) (h2:z.length<=aI) (h3:Bx z.cps.toList i=Z c) (h4:Q (.str #v[#[c]]) H):Ye x y H Q
def rIxS:R2:=λx y H Q=>Ye x y H Q
def VT:τ X (rIxL X.K):=by
 intro value slice c s B H x y v u Q I N P h A;obtain⟨p,Y,i,z,rfl,rfl,M,G,q⟩:=h;cases N;obtain⟨t,rfl⟩:=P;obtain⟨f,r,pl,W⟩:=I.list M;obtain⟨j,d,C,S,E,F⟩:=Ku G;obtain⟨w,m,l⟩:=r.get C;have J:=r.length;have T:=HP;have fin:EP X c B Q w s:=#v[z,H,I,l,q];by_cases o:0<=i
 .have e:i.toNat=j:=by rw[seqIndex_of o F]at d;exact cX d
  exact item_listR pl.isList o (by omega) (by rw[e];simpa using m) fin A
 .have e:(i+(f.toArray.size:Int)).toNat=j:=by rw[seqIndex_neg (by omega) E]at d;rw[bf,<- J];exact cX d
  exact o5 (x:=w) pl.isList.typeIs qc.lookup
   (wpAny_getItem_list_neg (Q:=λr R=>r=w/\EP X c B Q r R) pl.isList (by omega) (by rw[bf]<;>omega) (by omega) (by rw[e];simpa using m) #v[O,fin]) A
def ZC:τ X (rIxT X.K):=by
 intro value slice c s e H x y v u Q I F G h C;obtain⟨p,T,i,z,rfl,rfl,B,o,q⟩:=h;cases F;obtain⟨t,rfl⟩:=G;obtain⟨E,r,pl,S⟩:=I.tuple B;obtain⟨j,l,m,M,N,P⟩:=Ku o;obtain⟨w,f,d⟩:=r.get m;have A:=r.length;have R:=HP;have fin:EP X c e Q w s:=#v[z,H,I,d,q];exact o5 (x:=w) pl.typeIs dX.lookup
  (getItem_tuple (j:=j) (Q:=λr J=>r=w/\EP X c e Q r J) pl (by omega) (by omega) (by rw[bf,<- A];exact l) (by simpa using f) #v[O,fin]) C
def ZD:τ X rIxS:=by
 intro value slice e s M H x y v u Q I B C h A;obtain⟨z,i,c,rfl,rfl,G,r,q⟩:=h;obtain⟨t,rfl⟩:=B;obtain⟨J,rfl⟩:=C;obtain⟨j,d,m,E,o,p⟩:=Ku r;have w:z.cps.toList.length=z.length:=by simp[Str.length]
 rw[w]at d o p;have F:=HP;exact nY (jl s z t) slot_str_getitem.lookup (getItem_str (c:=c) (by
  have f:decide (i < -(2 ^ 63:Int))=δ:=aZ (by omega);have l:decide (i >= 2 ^ 63)=δ:=aZ (by omega);rw[f,l,Bool.or_false]) (by rw[d];simpa using m) #v[.str #v[#[c]],H,I.rl _,#v[_,O],q]) A
def rIx(K:av):R2:=λx y H Q=>rIxL K x y H Q\/rIxT K x y H Q\/rIxS x y H Q
def ZJ:τ X (rIx X.K):=VT.or (ZC.or ZD)
def Yf(i:Int)(n d:Nat):max 0 (min (if i<0 then i+(n:Int)else i) n)=((HT.e? n d (Z i):Nat):Int):=by
 have e:∀j:Int,max 0 (min j n)=((min j.toNat n:Nat):Int):=λj=>by
  cases j with
  |ofNat a=>
   show max 0 (min (a:Int) n)=((min a n:Nat):Int);rcases Nat.le_total a n with h|h
   .rw[gA h,qI (rN.2 h)];exact qx (jL a)
   .rw[Nat.min_eq_right h,Int.min_eq_right (rN.2 h)];exact qx (jL n)
  |negSucc a=>rw[qI (Int.le_trans (rO (pE a)) (jL n)),Int.max_eq_left (rO (pE a))];show (0:Int)=((min 0 n:Nat):Int);rw[Nat.zero_min];rfl
 rw[e];simp only[HT.e?];by_cases h:i<0
 .simp only[h,if_true];rw[gA (Int.toNat_le.2 (by omega))]
 .simp only[h,if_false]
def Kv(lo c:Option Int)(n:Nat):(sliceBounds lo c U n).1=((HT.e? n 0 lo:Nat):Int)/\(sliceBounds lo c U n).2.1=((HT.e? n n c:Nat):Int)/\(sliceBounds lo c U n).2.2=1:=by
 refine#v[?_,?_,O]
 .cases lo with
  |none=>simp[sliceBounds,HT.e?]
  |some i=>exact Yf i n _
 .cases c with
  |none=>simp[sliceBounds,HT.e?]
  |some i=>exact Yf i n _
def Jq(c:List ab)(lo d:Option Int):slicePick c.toArray lo d U=((c.drop (HT.e? c.length 0 lo)).take (HT.e? c.length c.length d - HT.e? c.length 0 lo)).toArray:=by obtain⟨e,f,h⟩:=Kv lo d c.toArray.size;unfold slicePick;rw[e,f,h];simp only[sliceRange_one,pick_run,bf]<;>rfl
def Qs(K:av):V->Option Int->Option Int->Hp->VK->Prop:=λx lo d H Q=>∃a c,x=.ref a/\fb K H a c/\∀p,H p=U->Q (.ref p) (eg H p (.a3 (Kt c lo d)))
def VU:SlR X (Qs X.K):=by intro i s C H x v A B lo e y Q I u j pl t h;obtain⟨a,c,rfl,l,q⟩:=h;cases u;obtain⟨p,r,f,m⟩:=I.list l;have d:=r.length;refine#v["list", _,qc.lookup,f.isList.typeIs,?_];refine wpAny_getItem_list_slice f.isList j pl t .none (by simp) ?_ (by rw[bf]<;>omega);rw[Jq,<- d];refine#v[.ref s.heap.objs.size,_,I.laid (t':=s.toks) (o:=.a3 (Kt c lo e)) (λb w q=>aR _ q) (aH _) ?_,O,q _ (I.ew.fresh (aH _))];exact#v[bz (GT c lo e) m,_,0,(r.drop (HT.e? c.length 0 lo)).take (HT.e? c.length c.length e - HT.e? c.length 0 lo),bw _ O]
def Ed:V->Bool
 |.O=>γ
 |.X _=>γ
 |.int _=>γ
 |.str _=>γ
 |_=>δ
def eqV:V->V->Bool
 |.O,.O=>γ
 |.X a,.X b=>a==b
 |.X a,.int b=>(if a then 1 else 0)==b
 |.int a,.X b=>a==(if b then 1 else 0)
 |.int a,.int b=>a==b
 |.str a,.str b=>a==b
 |_,_=>δ
def HU(f:dd y u)(c:dd x v)(h:Ed y=γ)(e:Ed x=γ):jm A s u v (eqV y x):=by
 cases y with
 |O=>
  cases f;cases x with
  |O=>cases c;exact mR _
  |X b=>cases c;exact uH b
  |int b=>obtain⟨t,rfl⟩:=c;exact pF b t
  |str b=>obtain⟨t,rfl⟩:=c;exact pG b t
  |_=>exact ar (show δ=γ from e) bG
 |X a=>
  cases f;cases x with
  |O=>cases c;exact uI a
  |X b=>cases c;exact uJ a b
  |int b=>obtain⟨t,rfl⟩:=c;exact uS a b t
  |str b=>obtain⟨t,rfl⟩:=c;exact uT a b t
  |_=>exact ar (show δ=γ from e) bG
 |int a=>
  obtain⟨d,rfl⟩:=f;cases x with
  |O=>cases c;exact pH a d
  |X b=>cases c;exact uU a d b
  |int b=>obtain⟨t,rfl⟩:=c;exact u5 a d b t
  |str b=>obtain⟨t,rfl⟩:=c;exact pQ a d b t
  |_=>exact ar (show δ=γ from e) bG
 |str a=>
  obtain⟨d,rfl⟩:=f;cases x with
  |O=>cases c;exact pI a d
  |X b=>cases c;exact uV a d b
  |int b=>obtain⟨t,rfl⟩:=c;exact pS a d b t
  |str b=>obtain⟨t,rfl⟩:=c;exact l6 a d b t
  |_=>exact ar (show δ=γ from e) bG
 |_=>exact ar (show δ=γ from h) bG
def K?(x:V)(u:ab):Bool:=match u with
 |.none=>eqV .O x
 |.bool b=>eqV (.X b) x
 |.int i _=>eqV (.int i) x
 |.str z _=>eqV (.str z) x
 |_=>δ
def R7(r:dd y u)(f:Ed y=γ):K? x u=eqV y x:=by
 cases y with
 |O=>cases r;rfl
 |X b=>cases r;rfl
 |int i=>obtain⟨t,rfl⟩:=r;rfl
 |str z=>obtain⟨t,rfl⟩:=r;rfl
 |_=>exact ar (show δ=γ from f) bG
theorem E4:∀{c:bF} {d:List ab},cm c d->c.all Ed=γ->d.any (K? x)=c.any λy=>eqV y x
 |_,_,.nil,_=>rfl
 |y::c,u::d,.cons r t,f=>by rw[gH,aT]at f;rw[gL,gL,R7 r f.1,E4 t f.2]
theorem Dp(i:dd x v)(h:Ed x=γ):∀{e:bF} {d:List ab},cm e d->e.all Ed=γ->∀u∈d,jm A s u v (K? x u)
 |_,_,.nil,_=>λu c=>by cases c
 |y::e,u::d,.cons r t,f=>λj c=>by
  rw[gH,aT]at f;rcases aJ.1 c with rfl|c
  .rw[R7 r f.1];exact HU r i f.1 h
  .exact Dp i h t f.2 j c
def inV(x:V)(c:bF):Bool:=c.any λy=>eqV y x
inductive IrIn(K:av) (neg:Bool) (x:V) (y:V) (H:Hp) (Q:VK):Prop
 |i (p xs) (h0:y=.ref p) (h1:(fb K H p xs\/e8 K H p xs)) (h2:Ed x=γ) (h3:xs.all Ed=γ) (h4:Q (.X (if neg then !inV x xs else inV x xs)) H):IrIn K neg x y H Q
def rIn(K:av)(neg:Bool):R2:=λx y H Q=>IrIn K neg x y H Q
def Qt:gi X (bC .In) (rIn X.K δ):=by
 intro i s t H x y v u Q I j m h;obtain⟨p,o,rfl,d,f,fs,q⟩:=h;cases m;rcases d with d|d
 .obtain⟨c,r,pl,l⟩:=I.list d;refine SeqAt.in_listAt (K? x) pl.isList (λw e=>Dp j f r fs w (by simpa using e)) #v[.X _,H,I,O,?_];rw[show c.toArray.any (K? x)=c.any (K? x) by simp,E4 r fs];exact q
 .obtain⟨c,r,pl,l⟩:=I.tuple d;refine qy (K? x) pl (λw e=>Dp j f r fs w (by simpa using e)) #v[.X _,H,I,O,?_];rw[show c.toArray.any (K? x)=c.any (K? x) by simp,E4 r fs];exact q
def Kw:gi X (bC .NotIn) (rIn X.K γ):=by
 intro i s t H x y v u Q I j m h;obtain⟨p,o,rfl,d,f,fs,q⟩:=h;cases m;rcases d with d|d
 .obtain⟨c,r,pl,l⟩:=I.list d;refine SeqAt.notIn_listAt (K? x) pl.isList (λw e=>Dp j f r fs w (by simpa using e)) #v[.X _,H,I,O,?_];rw[show c.toArray.any (K? x)=c.any (K? x) by simp,E4 r fs];exact q
 .obtain⟨c,r,pl,l⟩:=I.tuple d;refine SeqAt.notIn_tupleAt (K? x) pl (λw e=>Dp j f r fs w (by simpa using e)) #v[.X _,H,I,O,?_];rw[show c.toArray.any (K? x)=c.any (K? x) by simp,E4 r fs];exact q
def Kz:xD X (.builtin "len") (λl H Q=>∃p d,l=[.ref p]/\(fb X.K H p d\/e8 X.K H p d)/\Q (.int d.length) H):=by
 intro j s x H l w Q I r h;obtain⟨p,d,rfl,e,q⟩:=h;obtain⟨u,rfl,o⟩:=kb r;cases o;have t:=HP;rcases e with e|e
 .obtain⟨f,i,pl,m⟩:=I.list e;have c:=i.length;exact Calls.call_len_list pl.isList (by simp only[bf]<;>omega) #v[.int d.length,H,I.rl _,#v[s.toks+1,by rw[bf,c]],q]
 .obtain⟨f,i,pl,m⟩:=I.tuple e;have c:=i.length;exact len_tuple pl (by simp only[bf]<;>omega) #v[.int d.length,H,I.rl _,#v[s.toks+1,by rw[bf,c]],q]
def KA:xD X (.builtin "len") (λd H Q=>∃z,d=[.str z]/\z.length<=aI/\Q (.int z.length) H):=by intro c s j H d i Q I r h;obtain⟨z,rfl,f,q⟩:=h;obtain⟨u,rfl,t,rfl⟩:=kb r;have e:=HP;exact len_str (by omega) #v[.int z.length,H,I.rl _,#v[_,O],q]
def KB:xD X (.type "list") (λxs H Q=>∃p i,xs=[.ref p]/\(fb X.K H p i\/e8 X.K H p i)/\∀l,H l=U->Q (.ref l) (eg H l (.a3 i))):=by
 intro pins s σ H xs us Q I r h;obtain⟨p,i,rfl,m,q⟩:=h;obtain⟨u,rfl,A⟩:=kb r;cases A;have fin:∀(c:List ab),cm i c->i.length<=aI->∀(h':Heap) (d:Nat),(∀b z,s.heap.get? b=Z z->h'.get? b=Z z)->
   h'.get? s.heap.objs.size=Z { cls:=.type "list", dict:=U,data:=.seq c.toArray d,slots:=#[] }->EP X pins σ Q (.ref s.heap.objs.size) { s with heap:=h' }:=λc f t h' d kp e=>
  #v[.ref s.heap.objs.size,_,I.laid (t':=s.toks) kp (aH _) (show eo X.prog X.w _ h' _ (.a3 i) from#v[t,c,d,f,e]),O,q _ (I.ew.fresh (aH _))]
 rcases m with m|m
 .obtain⟨c,f,pl,t⟩:=I.list m;have j:=f.length;obtain⟨o,y,x,n,hd⟩:=pl.isList;exact rD p (.inl O) y x hd (λh' d kp e=>fin c f t h' d kp e) (by simp only[bf]<;>omega)
 .obtain⟨c,f,pl,t⟩:=I.tuple m;have j:=f.length;obtain⟨o,y,x,n,hd⟩:=pl;exact rD p (.inr O) y x hd (λh' d kp e=>fin c f t h' d kp e) (by simp only[bf]<;>omega)
def Jr:xD X (.type "tuple") (λxs H Q=>∃p d,xs=[.ref p]/\((fb X.K H p d/\∀l,H l=U->Q (.ref l) (eg H l (.a7 d)))\/(e8 X.K H p d/\Q (.ref p) H))):=by
 intro pins s σ H xs us Q I r h;obtain⟨p,d,rfl,h⟩:=h;obtain⟨u,rfl,y⟩:=kb r;cases y;rcases h with ⟨f,q⟩|⟨f,q⟩
 .obtain⟨c,i,pl,t⟩:=I.list f;have m:=i.length;refine call_tuple_list pl.isList (λh' kp=>?_) (by simp only[bf]<;>omega);have j:bt X pins σ H { s with heap:=h' }:=I.fu (t':=s.toks) kp;have x:bt X pins σ (eg H h'.objs.size (.a7 d)) { s with heap:=h'.push { cls:=.type "tuple", data:=.seq c.toArray } }:=
   j.laid (t':=s.toks) (λb o e=>aR _ e) (aH _) (show eo X.prog X.w _ _ _ (.a7 d) from#v[t,c,i,ky _ _,λo e=>by rw[bw _ O]at e;cases e;rfl])
  exact#v[.ref h'.objs.size,_,x,O,q _ (j.ew.fresh (aH _))]
 .obtain⟨c,i,pl,t⟩:=I.tuple f;exact call_tuple_same pl #v[.ref p,H,I,O,q]
def tyV(K:av)(T:String)(x:V)(H:Hp):Prop:=match x with
 |.str _=>T="str"
 |.int _=>T="int"
 |.ref p=>(T="list" /\ ∃c,fb K H p c)\/(T="tuple" /\ ∃o,K.lookup p=Z o/\o.cls=.type "tuple" /\ o.dict=U)\/
   (T="dict" /\ ((∃kvs,H p=Z (.dK kvs))\/∃kvs,H p=Z (.dT kvs)))\/(T="set" /\ ∃S n,H p=Z (.set S n))
 |_=>False
def ZL(I:bt X l y H s)(r:dd x v)(ty:tyV X.K T x H):
  s.TypeIs v T/\∀a,v=.ref a->∃j,s.heap.get? a=Z j/\j.dict=U:=by
 cases x with
 |str z=>obtain⟨t,rfl⟩:=r;cases (show T="str" from ty);exact#v[jl s z t,λ_ e=>nomatch e]
 |int i=>obtain⟨t,rfl⟩:=r;cases (show T="int" from ty);exact#v[typeIs_int s i t,λ_ e=>nomatch e]
 |ref p=>
  cases r;rcases ty with ⟨rfl,w,q⟩|⟨rfl,o,d,m,hd⟩|⟨rfl,d⟩|⟨rfl,S,n,d⟩
  .obtain⟨u,_,pl,_⟩:=I.list q;refine#v[pl.isList.typeIs,λa e=>?_];cases e;obtain⟨o,n,e,c,hd,_⟩:=pl;exact#v[o,e,hd]
  .refine#v[#v[o,I.la p o d,m],λa e=>?_];cases e;exact#v[o,I.la _ o d,hd]
  .have z:∃o,s.heap.get? p=Z o/\o.ExactDict:=by
    rcases d with ⟨kvs,d⟩|⟨kvs,d⟩
    .obtain⟨_,_,_,_,o,_,_,e,f,_⟩:=I.ew p _ d;exact#v[o,e,f]
    .obtain⟨_,_,_,_,o,_,_,e,f,_⟩:=I.ew p _ d;exact#v[o,e,f]
   obtain⟨o,e,f⟩:=z;refine#v[#v[o,e,f.1],λa h=>?_];cases h;exact#v[o,e,f.2.1]
  .obtain⟨o,_,_,_,e,f,_⟩:=I.ew p _ d;refine#v[#v[o,e,f.1],λa h=>?_];cases h;exact#v[o,e,f.2.1]
 |_=>exact dc ty
def tBM(K:av)(T:String)(r:V->bF->Hp->VK->Prop)(to:TE)(t:TA):TE:=λd H Q=>to d H λx c=>tyV K T x c/\t d c λf e=>r x f e Q
variable{o e:Expr}{es:List Expr}{to:TE}{t:TA}{name:Str}{apos cpos:Pos}{T id:String}{r:V->bF->Hp->VK->Prop}
def adz(A:ko T)(slot:Slot T name id)(hty:typeOf (.builtin id)=pure (.type "method_descriptor"))(w:MtR X id r)(y:PE X o to)(u:PA X (e::es) t)
  (hbase:autoParam (fi o name X.a4 (eval o X.a4)=eval o X.a4) zA0._auto_1)
  (hfew:autoParam (((bO cpos (aF (e::es) X.a4)).all (λx=>!x.1)&&(backToKw cpos (dQ [] X.a4)).all (λx=>x.1.isSome)
   && decide ((e::es).length+([]:List eF).length+(if ([]:List eF).isEmpty then 0 else 1)<30))=γ) zA0._auto_1)
  (hline:autoParam ((apos.endLine==cpos.line)=γ) zA0._auto_1) (z:autoParam (aF (e::es) X.a4=(δ,eval e X.a4)::aF es X.a4) zA0._auto_1) (hplain:autoParam ((bO cpos (aF es X.a4)).any (·.1)=δ) zA0._auto_1):
  PE X (.Call (.Attribute o name apos) (e::es) [] cpos) (tBM X.K T r to t):=by
 intro c s d H Q I h;refine o6 hbase hfew hline O (e0 (y c s d H _ I h) λv F zz=>?_);obtain⟨x,j,f,i,ty,B⟩:=zz;obtain⟨p,q⟩:=ZL f i ty;refine#v[T,id,A,slot,hty,p,q,?_];have hA:=u cpos c F d j _ f B;rw[z]at hA ⊢;refine ig (by show (δ||(bO cpos (aF es X.a4)).any (·.1))=δ;rw[hplain]<;>rfl) (ip ?_)
 exact e0 hA λJ G #v[M,l,m,E,C]=>w c G d l x M v J Q m i E C
end
def MtM(X:Cx)(id:String)(r:V->bF->Hp->VK->Prop):Prop:=
 ∀(a:cN) (s:ae) (d:St) (H:Hp) (x:V) (c:bF) (v:ab) (b:List ab) (Q:VK),bt X a d H s->dd x v->cm c b->r x c H Q->
  ao (model X.prog X.w) X.A (call (.builtin id) (v::b)) (EP X a d Q) X.xe s
def cm.one:∀{x:V} {a:List ab},cm [x] a->∃u,a=[u]/\dd x u
 |_,_,.cons r .nil=>#v[_,O,r]
theorem cm.reverse(h:cm c b):cm c.reverse b.reverse:=by
 induction h with
 |nil=>exact .nil
 |cons r t a=>rw[jP,jP];exact cm.append a (.cons r .nil)
section
variable{X:Cx}{pins:cN}{σ:St}{H:Hp}{s:ae}{l b:Addr}{xs ys zs:bF}
def bt.lset{a its':List ab}(I:bt X pins σ H s)(hH:H l=Z (.a3 xs))
  (e:s.heap.get? l=Z { cls:=.type "list", data:=.seq a.toArray n }) (hf:f a.toArray=its'.toArray) (d:cm ys its') (h:ys.length<=aI):
  bt X pins σ (eg H l (.a3 ys)) { s with heap:=s.heap.update l (eC f),toks:=j }:=by
 have q:=PySem.IsL.update e f;rw[hf]at q;refine I.t? (x:=l) (e:=l) (by rw[hH];exact trivial) (.inl O) (λi u hb c=>(iW s.heap (eC f) (dS hb)).t c) #v[_,q] ?_;exact#v[h,its',_,d,q]
def bt.lnew(I:bt X pins σ H s)(a:cm ys its)(c:ys.length<=aI):
  bt X pins σ (eg H s.heap.objs.size (.a3 ys)) { s with heap:=s.heap.push { cls:=.type "list", data:=.seq its.toArray },toks:=t' }:=
 I.laid (λy y q=>aR _ q) (aH _) #v[c,its,0,a,bw _ O]
theorem bt.fresh(I:bt X pins σ H s):H s.heap.objs.size=U:=I.ew.fresh (aH _)
def bt.Me(I:bt X pins σ H s)(hH:H l=Z (.a3 xs)):xs.length<=aI/\∃(a:List ab) (n:Nat),cm xs a/\xs.length=a.length/\s.heap.get? l=Z { cls:=.type "list", data:=.seq a.toArray n }:=by obtain⟨z,a,n,r,e⟩:=I.ew l _ hH;exact#v[z,a,n,r,r.length,e]
def LR(h:n<=aI):iR n=δ:=by unfold iR;exact aZ (by omega)
end
section
variable{X:Cx}
inductive LS(x:V) (vs:bF) (H:Hp) (Q:VK):Prop
 |i (l xs y) (h0:x=.ref l) (h1:vs=[y]) (h2:H l=Z (.a3 xs)) (h3:xs.length<aI) (h4:Q .O (eg H l (.a3 (xs++[y])))):LS x vs H Q
def KC:V->bF->Hp->VK->Prop:=λx a H Q=>LS x a H Q
theorem F6:MtM X "list.append" KC:=by intro c s w H x p v o Q I i f h;obtain⟨l,t,y,rfl,rfl,hH,m,q⟩:=h;cases i;obtain⟨u,rfl,d⟩:=f.one;obtain⟨z,a,n,r,j,e⟩:=I.Me hH;refine fV l7 #v[_,e,O] F.entry_list_append (F.args_list_append_2 _ _) (PySem.list_append l a.toArray n u (by rw[bf];omega)) #v[e,?_];refine#v[.O,_,I.lset (its':=a++[u]) hH e (by simp) (r.append (.cons d .nil)) ?_,O,q];rw[aA,cR];omega
inductive LU(x:V) (vs:bF) (H:Hp) (Q:VK):Prop
 |i (l b xs zs) (h0:x=.ref l) (h1:vs=[.ref b]) (h2:H l=Z (.a3 xs)) (h3:H b=Z (.a3 zs)) (h4:xs.length+zs.length<=aI) (h5:Q .O (eg H l (.a3 (xs++zs)))):LU x vs H Q
def OS:V->bF->Hp->VK->Prop:=λx a H Q=>LU x a H Q
def Qu:MtM X "list.extend" OS:=by
 intro i s M H x E v C Q I y w h;obtain⟨l,b,F,J,rfl,rfl,hH,hB,B,q⟩:=h;cases y;obtain⟨u,rfl,t⟩:=w.one;cases t;obtain⟨z,c,n,r,A,e⟩:=I.Me hH;obtain⟨G,a,o,p,m,j⟩:=I.Me hB;have d:c.toArray.size+a.toArray.size<=aI:=by rw[bf,bf];omega
 have hlong:¬(!c.toArray.isEmpty&&iR (c.toArray.size+a.toArray.size))=γ:=by rw[LR d,mX];exact bG
 refine fV jM #v[_,e,O] pJ (px _ _)
  (AutoSeq1.list_extend_list_list_0 l c.toArray n b a.toArray o hlong (by rw[bf];omega) (by omega)) #v[e,j,?_]
 refine#v[.O,_,I.lset (its':=c++a) hH e (by simp) (r.append p) ?_,O,q];rw[aA];omega
inductive Yg(x:V) (y:V) (H:Hp) (Q:VK):Prop
 |i (l b xs zs) (h0:x=.ref l) (h1:y=.ref b) (h2:H l=Z (.a3 xs)) (h3:H b=Z (.a3 zs)) (h4:xs.length+zs.length<=aI) (h5:∀p,H p=U->Q (.ref p) (eg H p (.a3 (xs++zs)))):Yg x y H Q
def rCat:R2:=λx y H Q=>Yg x y H Q
def ZM:gi X (cG .Add) rCat:=by
 intro d s G H x y v u Q I o p h;obtain⟨l,b,C,F,rfl,rfl,hH,hB,w,q⟩:=h;cases o;cases p;obtain⟨z,c,n,r,t,e⟩:=I.Me hH;obtain⟨E,a,A,m,j,f⟩:=I.Me hB;refine PySem.P.add_list e f ?_ (by rw[bf,bf];omega);have i:c.toArray++a.toArray=(c++a).toArray:=by simp
 rw[i];exact#v[.ref _,_,I.lnew (t':=s.toks) (r.append m) (by rw[aA];omega),O,q _ I.fresh]
end
section
variable{prog:aL}{w:aC}{A:aQ}{E:ab->ae->Prop}{s:ae}
set_option maxRecDepth 100000 in
end
section
variable{κ:Type}[DecidableEq κ]
def za(kvs:List (κ×V))(k:κ):Option V:=(kvs.find? λkv=>decide (kv.1=k)).map (·.2)
def g?(kvs:List (κ×V))(k:κ)(v:V):List (κ×V):=
 if (kvs.any λkv=>decide (kv.1=k))=γ then kvs.map (λkv=>if kv.1=k then (kv.1,v)else kv)else kvs++[(k,v)]
def E5{p:κ×V}(e:p.1=k):za (p::r) k=Z p.2:=by simp[za,eX,e]
def E6{p:κ×V}(e:¬p.1=k):za (p::r) k=za r k:=by simp[za,eX,e]
theorem HV(k:κ):∀kvs:List (κ×V),(kvs.any λkv=>decide (kv.1=k))=(za kvs k).isSome
 |[]=>rfl
 |p::r=>by
  rw[gL];by_cases e:p.1=k
  .simp only[E5 e,aY e,Bool.true_or,Option.isSome_some]
  .rw[E6 e,aZ e,nv];exact HV k r
def A3(kvs:List (κ×V))(k:κ)(v:V):(g? kvs k v).length<=kvs.length+1:=by
 unfold g?;split
 .rw[af];omega
 .rw[aA,aS,du];omega
def R8{kvs:List (κ×V)}{k:κ}(v:V)(h:za kvs k=U):g? kvs k v=kvs++[(k,v)]:=by unfold g?;rw[HV,h];exact ak (by decide)
def Dn.S?(r:Dn o u):o.isSome=u.isSome:=by
 cases o with
 |none=>cases u with
  |none=>rfl
  |some _=>exact(show False from r).elim
 |some _=>cases u with
  |none=>exact(show False from r).elim
  |some _=>rfl
theorem Dn.getD(r:Dn o u)(b:dd d a):dd (o.getD d) (u.getD a):=by
 cases o with
 |none=>cases u with
  |none=>exact b
  |some _=>exact(show False from r).elim
 |some _=>cases u with
  |none=>exact(show False from r).elim
  |some _=>exact r
def KV.val(r:KV kvs j)(k:κ):Dn (za kvs k) (valueAt j k):=by
 unfold KV at r
 induction r with
 |nil=>exact True.intro
 |@cons p q l c h t i=>
  obtain⟨d,f⟩:=h;by_cases e:p.1=k
  .have a:q.1=k:=d.symm.t e;have b:valueAt (q::c) k=Z q.2:=by simp[valueAt,eX,a]
   rw[E5 e,b];exact f
  .have a:¬q.1=k:=λz=>e (d.t z);have b:valueAt (q::c) k=valueAt c k:=by simp[valueAt,eX,a]
   rw[E6 e,b];exact i
theorem KV.any(r:KV kvs vs)(k:κ):(kvs.any λkv=>decide (kv.1=k))=vs.any λkv=>decide (kv.1=k):=by
 unfold KV at r
 induction r with
 |nil=>rfl
 |cons h t a=>rw[gL,gL,a,h.1]
def KV.repl(r:KV kvs f)(k:κ)(d:dd y u):
  KV (kvs.map λkv=>if kv.1=k then (kv.1,y)else kv) (f.map λkv=>if kv.1=k then (kv.1,u)else kv):=by
 unfold KV at r ⊢
 induction r with
 |nil=>exact .nil
 |@cons p q i j h t c=>
  rw[aU,aU];refine .cons ?_ c;obtain⟨a,b⟩:=h;by_cases e:p.1=k
  .rw[aj e,aj (a.symm.t e)];exact#v[a,d]
  .rw[ak e,ak (λz=>e (a.t z))];exact#v[a,b]
def KV.put(r:KV kvs b)(k:κ)(a:dd y u):KV (g? kvs k y) (stored b k u):=by
 unfold g? stored;rw[r.any k];by_cases e:(b.any λkv=>decide (kv.1=k))=γ
 .rw[aj e,aj e];exact r.repl k a
 .rw[ak e,ak e];exact sg r #v[O,a]
theorem KV.length(r:KV kvs a):kvs.length=a.length:=m8 r
end
def E7(r:dd (kV k) u):(vU P w).is k u=γ:=by
 cases k with
 |inl i=>obtain⟨t,e⟩:=(show ∃t,u=Value.int i t from r);subst e;exact LI P w i t
 |inr x=>obtain⟨t,e⟩:=(show ∃t,u=Value.str x t from r);subst e;exact LJ P w x t
theorem JK:∀{a:List d?} {b:List ab},cm (a.map kV) b->ItemsAre (vU P w) a b
 |[],_,r=>by rw[eh]at r;cases r;exact .nil
 |k::a,_,r=>by
  rw[aU]at r;cases r with
  |cons h t=>exact .cons (E7 h) (JK t)
abbrev KT(H:Hp):List (List d?×V)->List (List d?×Addr×ab)->Prop:=gX λp q=>p.1=q.1/\H q.2.1=Z (.a7 (p.1.map kV))/\dd p.2 q.2.2
def KT.val(r:KT H kvs j)(k:List d?):Dn (za kvs k) ((atKey j k).map (·.2)):=by
 induction r with
 |nil=>exact True.intro
 |@cons p q l c h t i=>
  obtain⟨d,_,f⟩:=h;by_cases e:p.1=k
  .have a:q.1=k:=d.symm.t e;have b:atKey (q::c) k=Z q.2:=by simp[atKey,eX,a]
   rw[E5 e,b];exact f
  .have a:¬q.1=k:=λz=>e (d.t z);have b:atKey (q::c) k=atKey c k:=by simp[atKey,eX,a]
   rw[E6 e,b];exact i
def KT.repl(r:KT H kvs i)(k:List d?)(f:dd y u):
  KT H (kvs.map λkv=>if kv.1=k then (kv.1,y)else kv) (i.map (putAt k u)):=by
 induction r with
 |nil=>exact .nil
 |@cons p q j l h t d=>
  rw[aU,aU];refine .cons ?_ d;obtain⟨a,b,c⟩:=h;unfold putAt;by_cases e:p.1=k
  .rw[aj e,aj (a.symm.t e)];exact#v[a,b,f]
  .rw[ak e,ak (λz=>e (a.t z))];exact#v[a,b,c]
def KT.put(r:KT H kvs a)(k:List d?)(d:H b=Z (.a7 (k.map kV)))(c:dd y u):
  KT H (g? kvs k y) (storedH a k b u):=by
 have e:(kvs.any λkv=>decide (kv.1=k))=(atKey a k).isSome:=by rw[HV,(r.val k).S?,Option.isSome_map]
 unfold g? storedH;rw[e];by_cases q:(atKey a k).isSome=γ
 .rw[aj q,aj q];exact r.repl k c
 .rw[ak q,ak q];exact sg r #v[O,d,c]
def KT.keeps(r:KT H kvs e)(d:∀b a,H b=Z (.a7 a)->c b=Z (.a7 a)):KT c kvs e:=
 Paired.mapP r λy y z=>#v[z.1,d _ _ z.2.1,z.2.2]
section
variable{P:aL}{w:aC}{H:Hp}{h:Heap}{a:Addr}
def Yh(ok:n7 P w H h)(e:Rd H a u):eo P w H h a u:=e.ok ok
def GU(ok:n7 P w H h)(e:Rd H a (.dK kvs)):kvs.length<=aI/\(a==dy)=δ/\∃b,KV kvs b/\h.DictOf (vU P w) a b:=
 show eo P w H h a (.dK kvs) from Yh ok e
def R9(ok:n7 P w H h)(e:H a=Z (.dK kvs)):kvs.length<=aI/\(a==dy)=δ/\∃b,KV kvs b/\h.DictOf (vU P w) a b:=GU ok (.inl e)
def HW{c:List d?}(ok:n7 P w H h)(e:H a=Z (.a7 (c.map kV))):(tupleKind (vU P w)).is h c a:=by obtain⟨_,b,r,⟨o,d,f,n,i⟩,_⟩:=(show eo P w H h a (.a7 (c.map kV)) from ok a _ e);exact#v[o,b.toArray,n,d,f,i,by simpa using JK r]
def JL(ok:n7 P w H h)(e:Rd H a (.dT kvs)):kvs.length<=aI/\(a==dy)=δ/\
  ∃c,KT H kvs c/\h.DictOfH (tupleKind (vU P w)) a c:=by
 obtain⟨z,y,c,r,o,i,f,j,u,A,B,C⟩:=(show eo P w H h a (.dT kvs) from Yh ok e);refine#v[z,y,c,r,o,i,f,j,u,A,B,λx b=>?_,C];have all:∀{l:List (List d?×V)} {m:List (List d?×Addr×ab)},KT H l m->∀x∈m,(tupleKind (vU P w)).is h x.1 x.2.1:=by
  intro l m q
  induction q with
  |nil=>intro x b;exact nomatch b
  |@cons p q F G d t E=>
   intro x b;rcases aJ.1 b with e|b
   .subst e;exact HW ok (by rw[<-d.1];exact d.2.1)
   .exact E x b
 exact all r x b
def dt_of(ok:n7 P w H h)(e:H a=Z (.dT kvs)):kvs.length<=aI/\(a==dy)=δ/\
  ∃b,KT H kvs b/\h.DictOfH (tupleKind (vU P w)) a b:=JL ok (.inl e)
end
def pa(H:Hp)(a:Addr)(y:V)(r:Option V):Prop:=
 (∃kvs k,Rd H a (.dK kvs)/\y=kV k/\r=za kvs k)\/∃kvs k b,Rd H a (.dT kvs)/\y=.ref b/\H b=Z (.a7 (k.map kV))/\r=za kvs k
def Sa(H:Hp)(a:Addr)(y v:V)(c:Hp):Prop:=
 (∃kvs k,H a=Z (.dK kvs)/\y=kV k/\kvs.length<aI/\c=eg H a (.dK (g? kvs k v)))\/
 ∃kvs k b,H a=Z (.dT kvs)/\y=.ref b/\H b=Z (.a7 (k.map kV))/\kvs.length<aI/\c=eg H a (.dT (g? kvs k v))
theorem Sa.k{H:Hp}{a:Addr}{kvs:List (d?×V)}{k:d?}{v:V}(e:H a=Z (.dK kvs))(b:kvs.length<aI):Sa H a (kV k) v (eg H a (.dK (g? kvs k v))):=.inl #v[kvs,k,e,O,b,O]
section
variable{X:Cx}{pins:cN}{σ:St}{H:Hp}{s:ae}{a:Addr}{y v:V}{u r:ab}{o:Option V}{A:aQ}{E:ab->ae->Prop}
def bt.big(I:bt X pins σ H s):dy<s.heap.objs.size:=by have h:bL<s.heap.objs.size:=(I.x?.xo.keeps I.bk).lt;exact Nat.lt_trans (by decide) h
def Qv(C:A.units+1<cLine)(I:bt X pins σ H s)(g:pa H a y (Z v))(q:dd y u)(h:∀d t,bt X pins σ H t->dd v d->Q d t):
  ao (model X.prog X.w) A (getItem (.ref a) u) Q E s:=by
 rcases g with ⟨kvs,k,e,i,l⟩|⟨kvs,k,b,e,i,x,l⟩
 .subst i;obtain⟨z,hd,F,rel,f⟩:=GU I.ew e;obtain⟨d,m,c⟩:=Dn.z0 (v:=v) (o:=valueAt F k) (by rw[l];exact rel.val k);exact wpAny_getItem_of (E7 q) f.mapOf m (h d _ (I.rl _) c)
 .subst i;cases (show u=Value.ref b from q);obtain⟨z,hd,G,rel,f⟩:=JL I.ew e;obtain⟨d,m,c⟩:=Dn.z0 (v:=v) (o:=(atKey G k).map (·.2)) (by rw[l];exact rel.val k)
  obtain⟨p,B,j⟩:=fL.1 m;refine wpAny_getItem_heap (jN C) (HW I.ew x) f B ?_;rw[j];exact h d _ (I.rl _) c
def HD(I:bt X pins σ H s)(d:Mut (H a))(hs:ee a s.heap h')(c:∃q,h'.get? a=Z q)(new:eo X.prog X.w (eg H a ob) h' a ob):
  bt X pins σ (eg H a ob) { s with heap:=h',toks:=t' }:=
 I.t? (x:=a) (e:=a) d (.inl O) (λb q hb z=>(hs.2 b hb).t z) c new
def NG{h':Heap}{kvs:List (d?×V)}(z:kvs.length<=aI)(hd:(a==dy)=δ)(rel:KV kvs b)(c:h'.DictOf (vU P w) a b):
  eo P w d h' a (.dK kvs):=#v[z,hd,b,rel,c]
def Qw(hu:A.units+1<cLine)(I:bt X pins σ H s)(g:Sa H a y v N)(J:dd y u)(G:dd v r)(h:∀M,bt X pins σ N M->Q () M):
  ao (model X.prog X.w) A (setItem (.ref a) u r) Q E s:=by
 rcases g with ⟨kvs,k,e,j,l,eH⟩|⟨kvs,k,b,e,j,B,l,eH⟩
 .subst j eH;obtain⟨z,hd,vs,rel,i⟩:=R9 I.ew e;have x:vs.length<=aI:=by rw[<-rel.length];exact z
  have m:(g? kvs k v).length<=aI:=by have:=A3 kvs k v;omega
  refine wpAny_setItem_pairs (hsz:=x) (E7 J) i λF d p=>h _ ?_;have he:∃q,F.get? a=Z q:=let #v[q,_,_,f,_]:=d;#v[q,f];exact HD I (by rw[e];exact True.intro) p he (NG m hd (rel.put k G) d)
 .subst j eH;cases (show u=Value.ref b from J);obtain⟨z,hd,xs,rel,i⟩:=dt_of I.ew e;have x:xs.length<=aI:=by rw[<-m8 rel];exact z
  have m:(g? kvs k v).length<=aI:=by have:=A3 kvs k v;omega
  refine wpAny_setItem_heap (hsz:=x) (jN hu) (HW I.ew B) i λF d p=>h _ ?_;obtain⟨q,R,P,f,S,T,W,_,Y⟩:=d;refine HD I (by rw[e];exact True.intro) p #v[q,f] #v[m,hd,_,(rel.put k B G).keeps λc ys C=>?_,q,R,P,f,S,T,W,Y];rw[vH (ac2 C e (λz=>nomatch z))];exact C
end
section
variable{X:Cx}{pins:cN}{σ:St}{H:Hp}{s:ae}{a:Addr}{kvs:List (d?×V)}{k:d?}{u:ab}{A:aQ}{E:ab->ae->Prop}
def adA(I:bt X pins σ H s)(e:Rd H a (.dK kvs))(h:∀t b,bt X pins σ H b->Q (.int kvs.length t) b):ao (model X.prog X.w) A (call (.builtin "len") [.ref a]) Q E s:=by obtain⟨z,hd,d,rel,c⟩:=GU I.ew e;refine call_len_dict hd c (by rw[<-rel.length];rw[bV]at z;omega) ?_;rw[<-rel.length];exact h _ _ (I.rl _)
end
def ZQ(i:Expr):Prop:=∀b a,subscripted i δ b a=operate [b,a] (getItem b a)
def VW{prog:aL}{w:aC}{A:aQ}{E:ab->ae->Prop}{s:ae}{a4:Env}{value slice:Expr}{pos:Pos}{T id:String}{Q:ab->ae->Prop}
  (j:typeLookup (.type T) "__getitem__" = pure (Z (.builtin id))) (l:ZQ slice)
  (h:ao (model prog w) A (eval value a4) (λo c=>ao (model prog w) A (eval slice a4) (λi a=>a.TypeIs o T/\ao (model prog w) A (getItem o i) Q E a) E c) E s):
  ao (model prog w) A (eval (.Subscript value slice pos) a4) Q E s:=by
 refine km (cy h (λo c e=>cy e (λi a b=>?_) λy y x=>x) λy y x=>x);obtain⟨hT,b⟩:=b;unfold subscriptTail;refine ah ?_;rw[getitemInPython_of_ne hT.not_modules];refine ah (je hT j ?_);have fin:ao (model prog w) A (subscripted slice δ o i) (λr d=>ao (model prog w) A (letTemporaryGo value o r>>=λy=>pure r) Q E d) E a:=by rw[l o i];exact wpAny_operating (cy b (λr d f=>ah (wpAny_letTemporaryGo (aq f))) λy y x=>x)
 first
  |exact aq (ah fin)
  |exact ah (aq (ah fin))
  |exact ah fin
def LV(I:bt X d i H s)(g:pa H a y o):s.TypeIs (.ref a) "dict" := by
 rcases g with ⟨kvs,k,e,_,_⟩|⟨kvs,k,b,e,_,_,_⟩
 .obtain⟨_,_,f,_,c⟩:=GU I.ew e;exact c.typeIs
 .obtain⟨_,_,h,_,c⟩:=JL I.ew e;exact c.typeIs
def adB(e ty:TE):TE:=λc H Q=>e c H λx d=>ty c d λy b=>∃a v,x=.ref a/\pa b a y (Z v)/\Q v b
def Yi(h ty i:TE):TS:=λD b H=>i b H λv d=>h b d λx e=>ty b e λy f=>∃a c,x=.ref a/\Sa f a y v c/\D.nx b c
section
variable{X:Cx}{o i e value:Expr}{pos pos' tpos:Pos}{td ty tv:TE}
theorem VX(z:X.A.units+1<cLine)(t:PE X o td)(r:PE X i ty)(w:ZQ i):PE X (.Subscript o i pos) (adB td ty):=by intro b s f H Q I h;refine VW F.slot_dict_getitem.lookup w (e0 (t b s f H _ I h) λu J #v[x,j,m,E,B]=>e0 (r b J f j _ m B) λM N zz=>?_);obtain⟨y,l,d,G,a,v,q,g,C⟩:=zz;subst q;obtain rfl:u=Value.ref a:=E;exact#v[LV d g,Qv z d g G λR P p c=>#v[v,l,p,c,C]]
def VY(C:X.A.units+1<cLine)(z:PE X o td)(w:PE X i ty)(E:PE X value tv)(B:dR value (Z (.Subscript o i pos')) pos.line X.a4=pure δ):
  PS X (.Assign [.Subscript o i pos'] value pos) (Yi td ty tv):=by
 intro b s c H D I h;refine wpAny_Assign_Subscript (e0 (E b s c H _ I h) λr P #v[v,d,l,J,F]=>e0 (z b P c d _ l F) λu Q #v[x,f,m,M,G]=>e0 (w b Q c f _ m G) λS T zz=>?_) B;obtain⟨y,R,p,N,a,j,t,g,q3⟩:=zz;subst t;obtain rfl:u=Value.ref a:=M;exact Qw C p g N J λW q=>#v[c,j,q,q3]
end
def LW(h:Heap)(a:dy<h.objs.size):eo P w H (h.push { cls:=.type "dict", data:=.dict #[] }) h.objs.size (.dK []):=
 #v[bT _,beq_eq_false_iff_ne.2 (dS (bg a)),[],.nil,vg h]
def NH:TE:=λy H Q=>∀p,H p=U->Q (.ref p) (eg H p (.dK []))
section
variable{X:Cx}{pos:Pos}
def LX:PE X (.Dict [] [] pos) NH:=λb s d H Q I h=>
 wpAny_Dict_empty #v[.ref s.heap.objs.size,_,I.laid (a:=s.heap.objs.size) (o:=.dK []) (t':=s.toks) (λy y q=>aR _ q) (aH _) (LW s.heap I.big),O,h _ (I.ew.fresh (aH _))]
end
def KD:List (TE×TE)->St->Hp->(List (V×V)->Hp->Prop)->Prop
 |[],_,H,Q=>Q [] H
 |(f,h)::r,a,H,Q=>f a H λx b=>h a b λy c=>KD r a c λe d=>Q ((x,y)::e) d
abbrev VV:List (V×V)->List (ab×ab)->Prop:=gX λp q=>dd p.1 q.1/\dd p.2 q.2
def PPs(X:Cx)(pos:Pos)(keys:List (Option Expr))(values:List Expr)(trs:List (TE×TE)):Prop:=
 ∀(a:cN) (s:ae) (b:St) (H:Hp) (Q:List (V×V)->Hp->Prop),bt X a b H s->KD trs b H Q->
  ao (model X.prog X.w) X.A (evalPairs (pairTrees keys values X.a4 pos)) (λf e=>∃d c,bt X a b c e/\VV d f/\Q d c) X.xe s
def VZ:PPs X pos [] [] []:=λa s b H Q I h=>pairTrees_nil_walk #v[[],H,I,.nil,h]
def Sb(l:PE X k C)(o:PE X v E)(m:PPs X pos p F trs):
  PPs X pos (Z k::p) (v::F) ((C,E)::trs):=λa s b H Q I h=>
 pairTrees_cons_walk (e0 (l a s b H _ I h) λu A #v[x,c,f,w,r]=>e0 (o a A b c _ f r) λJ B #v[y,d,i,z,t]=>
  e0 (m a B b d _ i t) λws G #v[q,e,j,rel,q3]=>#v[(x,y)::q,e,j,.cons #v[w,z] rel,q3])
def Eu(kvs more:List (d?×V)):List (d?×V):=more.foldl (λacc kv=>g? acc kv.1 kv.2) kvs
def KV.merge:∀{more:List (d?×V)} {rs:List (d?×ab)} {kvs:List (d?×V)} {a:List (d?×ab)},KV more rs->KV kvs a->KV (Eu kvs more) (merged a rs):=by
 intro more rs kvs a r;unfold KV at r
 induction r generalizing kvs a with
 |nil=>intro q;exact q
 |@cons p q d f h t b=>
  intro c;have e:KV (g? kvs p.1 p.2) (stored a q.1 q.2):=by have:=c.put p.1 h.2;rw[<-h.1];exact this
  exact b e
theorem Ee:∀(more kvs:List (d?×V)),(Eu kvs more).length<=kvs.length+more.length
 |[],kvs=>by show kvs.length<=kvs.length+0;omega
 |p::r,kvs=>by have a:=Ee r (g? kvs p.1 p.2);have b:=A3 kvs p.1 p.2;show (Eu (g? kvs p.1 p.2) r).length<=_;rw[aS];omega
theorem HX:∀{kvs:List (d?×V)} {ws:List (ab×ab)},VV (kvs.map λkv=>(kV kv.1,kv.2)) ws->∃rs,Carries (vU P w) ws rs/\KV kvs rs
 |[],_,r=>by rw[eh]at r;cases r;exact#v[[],True.intro,.nil]
 |p::kvs,_,r=>by
  rw[aU]at r;cases r with
  |@cons a b as bs h t=>obtain⟨rs,c,q⟩:=HX (P:=P) (w:=w) t;obtain⟨e,d⟩:=b;exact#v[(p.1,d)::rs,#v[E7 h.1,O,c],.cons #v[O,h.2] q]
def Yj(trs:List (TE×TE)):TE:=λc H Q=>∀p,H p=U->KD trs c (eg H p (.dK [])) λb a=>a p=Z (.dK [])/\∃kvs:List (d?×V),b=kvs.map (λkv=>(kV kv.1,kv.2))/\kvs.length<=15/\Q (.ref p) (eg a p (.dK (Eu [] kvs)))
def V0(h:PPs X pos keys values trs)(hall:keys.all (·.isSome)=γ)(x:keys.length=values.length)(r:keys≠[])
  (f:keys.length<=15):PE X (.Dict keys values pos) (Yj trs):=by
 intro d s M H Q I q;have y:=I.ew.fresh (aH s.heap.objs.size);have l:=I.laid (a:=s.heap.objs.size) (o:=.dK []) (h':=s.heap.push { cls:=.type "dict", data:=.dict #[] }) (t':=s.toks) (λn n q=>aR _ q) (aH _) (LW s.heap I.big);refine wpAny_Dict_walk (knd:=vU X.prog X.w) hall x r f (e0 (h d _ M _ _ l (q _ y)) λws S zz=>?_);obtain⟨R,N,i,rel,e,kvs,p,lk,E⟩:=zz;subst p;obtain⟨rs,c,G⟩:=HX (P:=X.prog) (w:=X.w) rel;obtain⟨z,hd,J,F,m⟩:=R9 i.ew e;cases F;refine#v[rs,c,m,λj b B=>#v[.ref s.heap.objs.size,_,?_,O,E]];have C:(Eu [] kvs).length<=aI:=by have t:=Ee kvs [];rw[du]at t;rw[bV];omega
 have u:∃q,j.get? s.heap.objs.size=Z q:=let #v[q,_,_,A,_]:=b;#v[q,A];exact HD i (by rw[e];exact True.intro) B u (NG C hd (G.merge .nil) b)
structure M1(X:Cx)(o:Expr)(m:Str)(apos:Pos)(e:Expr)(cpos:Pos):Prop where
 a5:fi o m X.a4 (eval o X.a4)=eval o X.a4
 few:((bO cpos (aF [e] X.a4)).all (λx=>!x.1)&&(backToKw cpos (dQ [] X.a4)).all (λx=>x.1.isSome)
  && decide (([e]:List Expr).length+([]:List eF).length+(if ([]:List eF).isEmpty then 0 else 1)<30))=γ
 line:(apos.endLine==cpos.line)=γ
 Fs:bO cpos (aF [e] X.a4)=[(δ,eval e X.a4)]
structure M2(X:Cx)(o:Expr)(m:Str)(apos:Pos)(e f:Expr)(cpos:Pos):Prop where
 a5:fi o m X.a4 (eval o X.a4)=eval o X.a4
 few:((bO cpos (aF [e,f] X.a4)).all (λx=>!x.1)&&(backToKw cpos (dQ [] X.a4)).all (λx=>x.1.isSome)
  && decide (([e,f]:List Expr).length+([]:List eF).length+(if ([]:List eF).isEmpty then 0 else 1)<30))=γ
 line:(apos.endLine==cpos.line)=γ
 Fs:bO cpos (aF [e,f] X.a4)=[(δ,eval e X.a4),(δ,eval f X.a4)]
def IsD(H:Hp)(a:Addr):Prop:=(∃kvs,Rd H a (.dK kvs))\/∃kvs,Rd H a (.dT kvs)
def KE(I:bt X j o H s)(d:IsD H a):
  s.TypeIs (.ref a) "dict" /\ (∀b,Value.ref a=.ref b->∃c,s.heap.get? b=Z c/\c.dict=U)/\(a==dy)=δ:=by
 rcases d with ⟨kvs,e⟩|⟨kvs,e⟩
 .obtain⟨_,hd,l,_,f⟩:=GU I.ew e;refine#v[f.typeIs,λb q=>?_,hd];cases q;obtain⟨c,_,_,h,i,_⟩:=f;exact#v[c,h,i.2.1]
 .obtain⟨_,hd,m,_,f⟩:=JL I.ew e;refine#v[f.typeIs,λb q=>?_,hd];cases q;obtain⟨c,_,_,h,i,_⟩:=f;exact#v[c,h,i.2.1]
section
variable{X:Cx}{pins:cN}{σ:St}{H:Hp}{s:ae}{a:Addr}{y d:V}{u r:ab}{o:Option V}{A:aQ}{E:ab->ae->Prop}
def Sd(q:A.units+1<cLine)(I:bt X pins σ H s)(g:pa H a y o)(i:dd y u)(h:∀m j,bt X pins σ H j->dd (o.getD .O) m->Q m j):
  ao (model X.prog X.w) A (call (.builtin "dict.get") [.ref a,u]) Q E s:=by
 rcases g with ⟨kvs,k,e,f,l⟩|⟨kvs,k,b,e,f,p,l⟩
 .subst f;obtain⟨z,hd,x,rel,c⟩:=GU I.ew e;refine iG fQ c.typeIs jc (mE _ _) (qY (vU X.prog X.w) a (E7 i) hd) #v[_,c.mapOf,h _ _ (I.rl _) ?_];rw[l];exact(rel.val k).getD O
 .subst f;cases (show u=Value.ref b from i);obtain⟨z,hd,t,rel,c⟩:=JL I.ew e;refine iG fQ c.typeIs jc (mE _ _) (meetsH_dict_get (tupleKind (vU X.prog X.w)) a b hd) #v[jN q,k,t,HW I.ew p,c,h _ _ (I.rl _) ?_];rw[l];exact(rel.val k).getD O
def ZR(t:A.units+1<cLine)(I:bt X pins σ H s)(g:pa H a y o)(j:dd y u)(i:dd d r)(h:∀p m,bt X pins σ H m->dd (o.getD d) p->Q p m):
  ao (model X.prog X.w) A (call (.builtin "dict.get") [.ref a,u,r]) Q E s:=by
 rcases g with ⟨kvs,k,e,f,l⟩|⟨kvs,k,b,e,f,q,l⟩
 .subst f;obtain⟨z,hd,B,rel,c⟩:=GU I.ew e;refine iG fQ c.typeIs jc (qd _ _ _) (meets_dict_get_default (vU X.prog X.w) a (E7 j) hd r) #v[_,c.mapOf,h _ _ (I.rl _) ?_];rw[l];exact(rel.val k).getD i
 .subst f;cases (show u=Value.ref b from j);obtain⟨z,hd,x,rel,c⟩:=JL I.ew e;refine iG fQ c.typeIs jc (qd _ _ _) (meetsH_dict_get_default (tupleKind (vU X.prog X.w)) a b hd r) #v[jN t,k,x,HW I.ew q,c,h _ _ (I.rl _) ?_];rw[l];exact(rel.val k).getD i
end
def ZU(e ty:TE):TE:=λd H Q=>e d H λx b=>∃a,x=.ref a/\IsD b a/\ty d b λy c=>∃o,pa c a y o/\Q (o.getD .O) c
def ZV(f ty tx:TE):TE:=λb H Q=>f b H λx c=>∃a,x=.ref a/\IsD c a/\ty b c λy e=>tx b e λz d=>∃o,pa d a y o/\Q (o.getD z) d
section
variable{X:Cx}{o e f:Expr}{apos cpos:Pos}{td ty tx:TE}
def Sf(B:X.A.units+1<cLine)(z:PE X o td)(w:PE X e ty)(m:M1 X o "get" apos e cpos):PE X (.Call (.Attribute o "get" apos) [e] [] cpos) (ZU td ty):=by intro b s j H Q I h;refine jQ m.a5 m.few m.line jR fQ mS (e0 (z b s j H _ I h) λu J zz=>?_);obtain⟨x,l,i,F,a,t,d,C⟩:=zz;subst t;obtain rfl:u=Value.ref a:=F;obtain⟨M,N,_⟩:=KE i d;refine#v[M,N,?_];rw[m.Fs];refine ig O (ip (eK (e0 (w b J j l _ i C) λP S #v[y,p,q,G,R,g,E]=>gq ?_)));exact Sd B q g G λW T r c=>#v[_,p,r,c,E]
def Sg(G:X.A.units+1<cLine)(F:PE X o td)(C:PE X e ty)(E:PE X f tx)(m:M2 X o "get" apos e f cpos):PE X (.Call (.Attribute o "get" apos) [e,f] [] cpos) (ZV td ty tx):=by
 intro b s i H Q I h;refine jQ m.a5 m.few m.line jR fQ mS (e0 (F b s i H _ I h) λu S zz=>?_);obtain⟨x,l,j,N,a,B,d,J⟩:=zz;subst B;obtain rfl:u=Value.ref a:=N;obtain⟨W,Y,_⟩:=KE j d;refine#v[W,Y,?_];rw[m.Fs];refine ig O (ip (eK (e0 (C b S i l _ j J) λiv T #v[y,p,r,P,M]=>
  eK (e0 (E b T i p _ r M) λfv s3 #v[z,q,t,R,ov,g,q3]=>gq ?_))))
 exact ZR G t g P R λw' s4 w c=>#v[_,q,w,c,q3]
end
end L2
namespace Att
open PySem PySem.W PySem.Calls PyProof.Rows
def Hr:∀(c:List Int) (d:List ab),WellAll P h d (c.map WData.int)->jr d c:=by
 intro c
 induction c with
 |nil=>intro d w;rw[eh]at w;cases w;exact .nil
 |cons n c e=>
  intro d w;rw[aU]at w;cases w with
  |cons a b=>cases a;exact .cons _ _ (e _ b)
def Qx{l:iK}(t:l.most=Z n)
  (hpre:l.row.toRowW.claim.pre args=γ) (hwl:WellAll P h vals args):
  ∃a j b,vals=[Value.ref a]/\args=[WData.list (b.map WData.int)]/\h.get? a=Z { cls:=.type "list", data:=.seq j.toArray }/\jr j b/\b.length<=n:=by
 have hsh:WShape.hasAll [] args [.list .int]=γ:=(pre_splitW hpre).1;have i:l.pre.holds [] { args:=args }=γ:=(pre_splitW hpre).2;obtain⟨d,r,rfl,m,o⟩:=hasAllW_cons hsh;obtain rfl:=hasAllW_nil o;obtain⟨z,rfl,p⟩:=hasW_list m;obtain⟨b,rfl⟩:=items_int p;have c:b.length<=n:=by
  unfold OpenLaw.pre at i;have e:(WTm.not (.lt (.lit (.int (n:Int))) (.len (.arg 0)))).holds [] { args:=[.list (b.map .int)] }=γ:=by have e:=(holds_andW i).1;rw[t]at e;exact e
  have f:=condW_of e (w_not (w_lt w_lit (w_len_list (w_arg O))));rw[af]at f;refine qz λq=>?_;have w:(n:Int)<((b.length:Nat):Int):=by omega
  first
   |(rw[aY w]at f;exact ar f (by decide))
   |(simp at f;omega)
 cases hwl with
 |cons x y=>
  cases y;cases x with
  |list u hall=>exact#v[_,_,b,O,O,u,Hr b _ hall,c]
def Qy(l:iK)(args:List WData):l.row.toRowW.claim.post args (.bool γ) args=γ:=
 postW_of (r:=l.row.toRowW) (X:=(γ==γ))
  (show su [] (.bool γ) .bool=γ by first|rfl|decide|simp[su,WShape.arms,WShape.armsAll])
  (show (WTm.eq .res (.lit (.bool γ))).value [] { args:=args,res:=Z (.bool γ),after:=args }=Z (.bool (γ==γ)) from w_eq_bool (w_res O) w_lit) O
def Gn{l:iK}{d:DefRec}
  (B:l.most=Z n) (hdf:d.params.defaults=[])
  (call:∀(w:aC) (c b:ae) (j t:Str->Option ab) (h:Addr) (o:Obj) (pm cd doc:ab) (a:Addr) (e:List ab) (m:List Int),
   Ground q loose [] XP w c j t b.heap->YP w b.heap->
   b.heap.get? h=Z o->o.data=.func (docDef d.name d.params d.body d.scope pm cd doc)->b.heap.CodeRec cd d.name->j d.name=Z (.ref h)->
   b.heap.get? a=Z { cls:=.type "list", data:=.seq e.toArray }->jr e m->m.length<=n->b.gens=#[]->
   cH (model l.prog w) callerA (.call (.ref h) #v[[.ref a],[]]) (λr p=>r=.ok (.ret (.bool γ))/\OldK b.heap p.heap/\p.os=b.os/\fB p.gens) b):
  WalkO q loose XP YP l.row.toRowW d [] (λf e=>nT f e):=by
 intro w c b j t G Y h o pm cd doc dV kV C hd hcd hD hmg z args vals as hpre hlay hrd hwl hlo;obtain rfl:dV=.none:=Dflts.none hD hdf;obtain rfl:kV=.none:=Dflts.noKw hD;obtain⟨a,e,m,rfl,rfl,hobj,hints,i⟩:=Qx B hpre hwl;refine enter_call (iF (call w c b j t h o pm cd doc a e m G Y C (fd_plain hd) hcd hmg hobj hints i z) λr p E=>?_);obtain⟨rfl,u,x,y⟩:=E;exact#v[.inl #v[.bool γ,.bool γ,[],O,λs=>O,.bool γ,Qy l _,λs=>#v[List.Pairwise.nil,λs A=>(nomatch A)]],u,x,y]
end Att
namespace L2
open PySem PySem.Spec PyProof.Rows
theorem JM:∀{b:List ab} {a:List Int},jr b a->cm (a.map V.int) b
 |_,_,.nil=>.nil
 |_,_,.cons n t h=>.cons #v[t,O] (JM h)
def ZZ(H:Hp):Prop:=∀b,H b=U\/∃o a,H b=Z (.mi o (.a3 a))
def Sh{K:av}{c:ae}{j:List ab}
  (KX:K.In c.heap) (hns:c.heap.Ns bL A) (f:c.heap.Ns builtinsNs N) (hbb:∀x:Str,x≠"__name__" -> N x=d9 x) (hlim:c.heap.NoLimit) (hg:c.gens=#[])
  (y:c.heap.get? a=Z { cls:=.type "list", data:=.seq j.toArray }) (J:jr j B) (M:B.length<=aI) (hr:xX k callerA)
  (F:∀a5:Heap,K.In a5->a5.Ns bL A->zA P w K A a5 CX k I W [x] sp) (hbind:∀(s:ae) (u:ab),iM s W #v[[u],[]] [(x,u)])
  (hsp:∀H:Hp,ZZ H->fb K H a (B.map V.int)->sp [.ref a] H (λv _=>v=.X γ) λ_ _ _=>False)
  (hCX:∀H e i,CX [] H c (λ_ _ _=>False) e i->False):
  cH (model P w) callerA (.call (.ref I) #v[[.ref a],[]]) (λr i=>r=.ok (.ret (.bool γ))/\OldK c.heap i.heap/\i.os=c.os/\fB i.gens) c:=by
 have Q:=JM J;have lenV:=J.length;have core:∀H:Hp,ZZ H->fb K H a (B.map V.int)->n7 P w H c.heap->(∀b,H b≠U->b=a)->(H a≠U->K.lookup a=U)->
   cH (model P w) callerA (.call (.ref I) #v[[.ref a],[]]) (λr i=>r=.ok (.ret (.bool γ))/\OldK c.heap i.heap/\i.os=c.os/\fB i.gens) c:=by
  intro H hO hS ew hA hK;have base_of:∀{b:Addr} {o:Obj},c.heap.get? b=Z o->H b=U->(Ko c.heap H).get? b=Z o:=λe n=>RD e n;have noA:∀{b:Addr} {o:Obj} {p:Array DictEntry} {l:Nat},c.heap.get? b=Z o->o.data=.dict p l->H b=U:=λ{b o p l} e d=>by
   cases q:H b with
   |none=>rfl
   |some u=>have C:b=a:=hA b (by rw[q];simp);subst C;rw[y]at e;cases e;have R:Data.seq j.toArray _=Data.dict p l:=d;cases R
  have nsK:∀{b:Addr} {m:Str->Option ab},c.heap.Ns b m->(Ko c.heap H).Ns b m:=λ{b m} #v[o,p,l,e,d,r]=>#v[o,p,l,base_of e (noA e d),d,r];have hKb:K.In (Ko c.heap H):=λb o e=>base_of (KX b o e) (by
   cases q:H b with
   |none=>rfl
   |some u=>
    have C:b=a:=hA b (by rw[q];simp);subst C;rw[hK (by rw[q];simp)]at e;cases e)
  have hM:Mod K A (Ko c.heap H):=#v[hKb,nsK hns,#v[N,nsK f,hbb],let #v[mc,X,Y]:=hlim;#v[mc,nsK X,Y]];have S:NC P w K A (Ko c.heap H) callerA [] c H:=#v[O,hM,λb o e=>Vz e,rL (Qg _ _),trivial,λb f=>ar (show b∈([]:List Addr) from f) (by simp),ew,.of_eq hg];refine iF ((F _ hKb (nsK hns)).run callerA [] c H #v[[.ref a],[]] [.ref a] [.ref a] _ _ hr S (hbind c (.ref a)) (.cons O .nil) (hsp H hO hS)) λr i h=>?_;cases r with
  |error e=>exact(hCX H e i h).elim
  |ok fl=>
   cases fl with
   |next=>exact dc h
   |brk=>exact dc h
   |cont=>exact dc h
   |ret u=>
    obtain⟨v,H',os,j0,un,hok',r',q⟩:=h;have q':v=.X γ:=q;subst q';obtain rfl:u=Value.bool γ:=r';refine#v[O,OldK.of_keep λb o e=>?_,os,j0];cases q:H b with
    |none=>exact un.keep b o e q (by intro z;exact ar (show b∈([]:List Addr) from z) (by simp)) (by simp)
    |some u=>
     rcases hO b with z|⟨ob,xs,z⟩
     .rw[q]at z;cases z
     .have z2:=un.vl b ob _ z;obtain⟨G,_⟩:=ew b _ z;obtain⟨T,_⟩:=hok' b _ z2;rw[e]at G;cases G;exact T
 cases E:K.lookup a with
 |some o=>have e:=KX a o E;rw[y]at e;cases e;refine core (λ_=>U) (λ_=>.inl O) (.inr #v[_,j.toArray,_,E,O,O,O,by rw[bf,lenV];exact M,by simpa using Q]) (λb u z=>by have t:(U:Option HO)=Z u:=z;cases t) (λb z=>ar O z) λz=>ar O z
 |none=>
  refine core (λb=>if b=a then Z (.mi { cls:=.type "list", data:=.seq j.toArray } (.a3 (B.map V.int)))else U) (λb=>?_) (.inl (.inr #v[{ cls:=.type "list", data:=.seq j.toArray },aj O])) (λb u z=>?_) (λb z=>?_) λ_=>E
  .by_cases f:b=a
   .exact .inr #v[_,_,aj f]
   .exact .inl (ak f)
  .by_cases f:b=a
   .have t:=(aj f).symm.t z;cases t;subst f;exact#v[y,by rw[af];exact M,j,_,Q,y]
   .have t:=(ak f).symm.t z;cases t
  .by_cases f:b=a
   .exact f
   .exact ar (ak f) z
def V1{l:iK}{n k:Nat}{q:aL}{loose:aE}{XP:(Str->Option ab)->Heap->Prop}{YP:aC->Heap->Prop}{d:DefRec}{K:Params->av}{CX:aC->XF}{sp:aC->Sp}{x:Str}
  (E:l.most=Z n) (t:n<=aI) (hdf:d.params.defaults=[]) (I:xX k callerA)
  (hY:∀(w:aC) (h:Heap),YP w h->(K w.params).In h)
  (F:∀(w:aC) (i:Str->Option ab) (m:Addr) (h:Heap),(K w.params).In h->h.Ns bL i->i d.name=Z (.ref m)->
   ∃r:cp,(∀(s:ae) (u:ab),iM s r #v[[u],[]] [(x,u)])/\
    ∀a5:Heap,(K w.params).In a5->a5.Ns bL i->zA l.prog w (K w.params) i a5 (CX w) k m r [x] (sp w))
  (hsp:∀(w:aC) (H:Hp) (a:Addr) (p:List Int),p.length<=n->ZZ H->fb (K w.params) H a (p.map V.int)->sp w [.ref a] H (λv _=>v=.X γ) λ_ _ _=>False)
  (hCX:∀(w:aC) (H:Hp) (s:ae) (e:ab) (y:ae),CX w [] H s (λ_ _ _=>False) e y->False):
  W.WalkO q loose XP YP l.row.toRowW d [] (λf A=>nT f A):=by
 refine Att.Gn E hdf λw z j i M m o pm cd doc a A p G Y J hd hcd hmg hobj hints c C=>?_;have KX:=hY w _ Y;obtain⟨r,B,hF⟩:=F w i m _ KX G.T.g hmg;exact Sh KX G.T.g G.T.b G.T.builtins G.T.nolimit C hobj hints (bz c t) I hF B (λH hO hS=>hsp w H a p c hO hS) λH e y=>hCX w H j e y
def a8(s:Stmt)(j:Nat):Stmt:=match s with
 |.ClassDef _ _ _ body _ _ _ _ _ _ _=>body.getD j (.Pass #v[0,0,0,0])
 |_=>.Pass #v[0,0,0,0]
def zb(s:Stmt):Arguments:=match s with
 |.FunctionDef _ a _ _ _ _ _ _ _ _=>a
 |_=>{ posonlyargs:=[],args:=[],vararg:=U,kwonlyargs:=[],kw_defaults:=[],kwarg:=U,defaults:=[] }
def wJ(s:Stmt):List Stmt:=match s with
 |.FunctionDef _ _ b _ _ _ _ _ _ _=>b
 |_=>[]
def vY(s:Stmt):cQ:=match s with
 |.FunctionDef _ _ _ _ _ _ a _ _ _=>a
 |_=>{ kind:=.function,names:=[],isGenerator:=δ,isCoroutine:=δ }
abbrev zE:XF:=λy y y y y y=>False
abbrev E0:XK:=λy y y=>False
def LY:nj zE X E0:=λy y y y y y y h=>h.elim
structure V'(K:av)(x qual:Str)(st:Stmt)(f:Addr)(fd:cp):Prop where
 ex:∃(oc:ab) (od:Option Addr) (kV doc pm:ab) (an:Option Addr) (cdv ct:ab) (osl:Array (Option ab)),
  fd=fE x qual (zb st) (wJ st) (vY st) .none kV doc pm an cdv ct/\K.lookup f=Z #v[oc,od,.func fd,osl]/\iJ K cdv qual=γ
 kp:eD K (.ref f)=γ
section
variable{P:aL}{w:aC}{K:av}{mg:Str->Option ab}{a5:Heap}
theorem V'.ok{x qual:Str}{st:Stmt}{f:Addr}{c:cp}{N ps:aE}{k:Nat}{b:Sp}(F:V' K x qual st f c)(S:yA N ps (vY st))(len:∀a H Q E,b a H Q E->a.length=ps.length)
  (hbody:∀(cdv:ab) (A:aQ) (b3:List Env) (s:ae) (H:Hp) (a:bF) (Q:VK) (E:XK),xX k (A.deeper (envOfC qual (vY st) s.heap.objs.size f cdv))->b a H Q E->
   ∃t,mw (LN zE P w K mg a5 N qual (vY st) f cdv A b3 s H E).nox (wJ st) t/\t { nx:=λy d=>Q .O d,rt:=Q } (start N a) H):zA P w K mg a5 zE (k+1) f c ps b:=by
 obtain⟨l,m,kV,doc,pm,i,cdv,j,osl,rfl,lk,hcd⟩:=F.ex;refine Ya lk hcd S len λA b3 s H a Q E e hsp=>?_;obtain⟨t,h,q⟩:=hbody cdv A b3 s H a Q E e hsp;exact#v[t,h.nox,q]
theorem V'.n?{x qual:Str}{st:Stmt}{f:Addr}{e:cp}{c:aE}(F:V' K x qual st f e)
  (h:∀(kV doc pm:ab) (a:Option Addr) (cdv b:ab) (d:List ab),d.length=c.length->bindArgs (fE x qual (zb st) (wJ st) (vY st) .none kV doc pm a cdv b) #v[d,[]]=pure (c.zip d)):j1 K e c []:=by
 obtain⟨i,j,kV,doc,pm,a,cdv,b,osl,rfl,lk,hcd⟩:=F.ex;exact .all (h kV doc pm a cdv b)
end
def LZ(a:xX k A):A.units+1<cLine:=gn (Nat.add_le_add_left (by decide:1<=64) _) a.units
def BP(h:n<=1000):n<aI:=gn h (by decide)
section
variable{X:Cx}
def pv(i:Nat)(hN:autoParam (X.N[i]?=Z x) zA0._auto_1)(a:Vis X.a4.scope x:=by first|exact Or.inl O|exact Or.inr (Or.inl O)|exact Or.inr (Or.inr O))(hd:autoParam ((x==("__debug__" : Str))=δ) zA1._auto_1)
  (hcd:autoParam ((x==("__classdict__" : Str))=δ) zA1._auto_1):PE X (.Name x pos) (Et i):=Y4 hN a hd hcd
end
set_option r "F B δ k bG;G A γ j O" in def Kϑ0{A B:Prop}(h:ϑ1):if ϑ2=γ then A else B:=by rw[aϑ3 ϑ4];exact h
def vS(H a:Hp):Prop:=∀b o,H b=Z o->a b=Z o
def vS.refl(H:Hp):vS H H:=λy y h=>h
def vS.t(a:vS H d)(b:vS d e):vS H e:=λc o h=>b c o (a c o h)
def vS.seq{K:av}{H b:Hp}{a:Addr}{xs:bF}(e:vS H b)(h:fb K H a xs):fb K b a xs:=by
 rcases h with (h|⟨o,h⟩)|h
 .exact .inl (.inl (e _ _ h))
 .exact .inl (.inr #v[o,e _ _ h])
 .exact .inr h
end L2
set_option maxHeartbeats 4000000
namespace L3
open PySem PySem.Spec PyProof.Rows L2
abbrev St:=L2.St
theorem HY{d a:Type}{f:d->a->Sem (ForInStep a)}{g:a->d->a}:∀(l:List d) (b:a),(∀x∈l,∀c,f x c=pure (ForInStep.yield (g c x)))->(forIn l b f:Sem a)=pure (l.foldl g b)
 |[],b,_=>by simp
 |x::r,b,h=>by rw[List.forIn_cons,h x ba b];show (forIn r (g b x) f:Sem a)=_;rw[HY r (g b x) λy e c=>h y (bb _ e) c];rfl
def Dc(cells:List (Str×Addr))(cs:List (Str×Addr))(x:Str×eE):List (Str×Addr):=if (x.2==NameKind.free)=γ then (x.1,(cells.lookup x.1).getD 0)::cs else cs
def AD(cells:List (Str×Addr))(names:List (Str×eE)):List (Str×Addr):=names.foldl (Dc cells) []
def Js{scope:cQ}{a4:Env}(h:∀x∈scope.names,x.2=.free->∃c,a4.cells.lookup x.1=Z c):
  closureFor scope a4=pure (AD a4.cells scope.names):=by
 simp only[closureFor];rw[HY (g:=Dc a4.cells) scope.names [] λx i c=>by
  obtain⟨n,k⟩:=x;by_cases b:k=.free
  .subst b;obtain⟨a,e⟩:=h _ i O;have d:=e;simp only[Dc,cellOf,d,beq_self_eq_true,if_true,qA];rfl
  .have f:(k==NameKind.free)=δ:=by simpa using b
   simp only[Dc,f,gp,if_false]]
 rfl
set_option h true
theorem L0{cells:List (Str×Addr)}:∀(names:List (Str×eE)) (acc:List (Str×Addr)),(∀x∈names,x.2=.free->∃c,cells.lookup x.1=Z c)->(∀x c,acc.lookup x=Z c->cells.lookup x=Z c)->
  ∀x c,(names.foldl (Dc cells) acc).lookup x=Z c->cells.lookup x=Z c
 |[],acc,_,j,x,c,e=>j x c e
 |y::r,acc,h,j,x,c,e=>by
  refine L0 r (Dc cells acc y) (λz p=>h z (bb _ p)) (λz d b=>?_) x c e;obtain⟨n,k⟩:=y;unfold Dc at b;split at b
  .rename_i o;obtain⟨a,m⟩:=h (n,k) ba (by simpa using o);have f:=m;rw[eU]at b;cases l:z==n with
   |true=>rw[l]at b;have i:=b;rw[f]at i;rw[fW l,f];exact i
   |false=>rw[l]at b;exact j z d b
  .exact j z d b
set_option h false
theorem JN:∀(names:List (Str×eE)) (acc:List (Str×Addr)) (x:Str),(∃c,acc.lookup x=Z c)->∃c,(names.foldl (Dc cells) acc).lookup x=Z c
 |[],_,_,h=>h
 |y::r,acc,x,h=>by
  refine JN r (Dc cells acc y) x ?_;unfold Dc;split
  .rw[eU];cases x==y.1 with
   |true=>exact#v[_,O]
   |false=>exact h
  .exact h
theorem HZ:∀(names:List (Str×eE)) (acc:List (Str×Addr)) (x:Str),(x,NameKind.free)∈names->∃c,(names.foldl (Dc cells) acc).lookup x=Z c
 |[],_,_,h=>by cases h
 |y::r,acc,x,h=>by
  rcases aJ.1 h with e|h
  .subst e;refine JN r _ x ?_;unfold Dc;rw[aj (by simp),eU];simp
  .exact HZ r _ x h
set_option h true
theorem Cc{a4:Env}(x:Str):∀(names:List (Str×eE)),
  (names.map λ(n,k)=>if (k==NameKind.free&&a4.scope.kind==.function&&a4.kindOf n==Z .cell)then (n,NameKind.cell)else (n,k)).lookup x=
   (names.lookup x).map λk=>if (k==NameKind.free&&a4.scope.kind==.function&&a4.kindOf x==Z .cell)=γ then NameKind.cell else k
 |[]=>rfl
 |(n,k)::r=>by
  have c:=Cc (a4:=a4) x r;rw[aU,eU (k:=n)];show dP x ((if (k==NameKind.free&&a4.scope.kind==.function&&a4.kindOf n==Z .cell)=γ then (n,NameKind.cell)else (n,k))::_)=_;cases a:x==n with
  |true=>
   have e:=fW a;subst e;split
   .rename_i b;simp only[eU,a,gy,b,if_true]
   .rename_i b;simp only[eU,a,gy];rw[ak b]
  |false=>
   rw[<-c];split
   .simp only[eU,a]
   .simp only[eU,a]
set_option h false
def NI{scope:cQ}(hcell:∀y∈scope.names,y.2≠.cell)(h:(relabel scope a4).names.lookup x=Z .cell\/(relabel scope a4).names.lookup x=Z .free):(x,NameKind.free)∈scope.names:=by
 have e:=Cc (a4:=a4) x scope.names;have a:(scope.names.lookup x).map (λk=>if (k==NameKind.free&&a4.scope.kind==.function&&a4.kindOf x==Z .cell)=γ then NameKind.cell else k)=Z .cell\/
   (scope.names.lookup x).map (λk=>if (k==NameKind.free&&a4.scope.kind==.function&&a4.kindOf x==Z .cell)=γ then NameKind.cell else k)=Z .free:=by
  rw[<-e];exact h
 cases q:scope.names.lookup x with
 |none=>rw[q]at a;rcases a with z|z<;>cases z
 |some k=>
  rw[q]at a;have b:=mem_of_lookup q;have c:=hcell _ b;cases k with
  |free=>exact b
  |cell=>exact ar O c
  |_=>rcases a with z|z<;>cases z
def Jt{scope:cQ}(h:scope.names.lookup x=Z .free):(relabel scope a4).names.lookup x=Z .cell\/(relabel scope a4).names.lookup x=Z .free:=by
 have e:=Cc (a4:=a4) x scope.names;have a:(relabel scope a4).names.lookup x=(scope.names.lookup x).map λk=>if (k==NameKind.free&&a4.scope.kind==.function&&a4.kindOf x==Z .cell)=γ then NameKind.cell else k:=e
 rw[a,h,gy];split
 .exact .inl O
 .exact .inr O
def xF(X:Cx)(a:aE)(scope:cQ)(cl:List (Str×Addr))(C:Addr)(fp:List Addr)(s:ae)(H:Hp):Cx:=
 { X with N:=a,s₀:=s,H₀:=H,a4:=compEnvC scope cl C X.a4,b3:=X.stack,ex:=fp,fn:=λy=>δ,pn:=[],xe:=λy y=>False }
def PIf(X:Cx)(ifs:List Expr)(t:TT):Prop:=
 ∀(a:cN) (s:ae) (b:St) (H:Hp) (Q:Bool->Hp->Prop),bt X a b H s->t b H Q->
  ao (model X.prog X.w) X.A (forIn ifs γ λc r=>if r=γ then do let ok<-isTrue c X.a4 (eval c X.a4);pure (ForInStep.yield ok)else pure (ForInStep.yield r)) (TP X a b Q) X.xe s
def tIf0:TT:=λy H Q=>Q γ H
def V2:PIf X [] tIf0:=λy y y H y I h=>wpAny_tests_nil #v[H,I,h]
def V3(h:PT X c t):PIf X [c] t:=λa s d H Q I b=>wpAny_tests_one (h a s d H Q I b)
section
variable{prog:aL}{w:aC}{A:aQ}{R:hE->ae->Prop}{s:ae}
def KH(J:Nat->ae->Prop)
  (turn:∀n s,J n s->ao (model prog w) A (pyNext B) (λr d=>match r with
   |none=>R (.ok .next) d
   |some v=>ao (model prog w) A (jd target B v) (λ_ f=>ao (model prog w) A (assign target a4 v) (λ_ o=>
     ao (model prog w) A (forIn ifs γ λc r=>if r=γ then do let ok<-isTrue c a4 (eval c a4);pure (ForInStep.yield ok)else pure (ForInStep.yield r)) (λok i=>
      if ok=γ then ao (model prog w) A (eval elt a4) (λx p=>
       ao (model prog w) A (call (.builtin "list.append") [acc,x]) (λ_ q=>∃m,m<n/\J m q) (notedBy (model prog w) A a4 λe b=>R (.error e) b) p) (notedBy (model prog w) A a4 λe b=>R (.error e) b) i
      else ∃m,m<n/\J m i) (notedBy (model prog w) A a4 λe b=>R (.error e) b) o) (notedBy (model prog w) A a4 λe b=>R (.error e) b) f)
      (notedBy (model prog w) A a4 λe b=>R (.error e) b) d) (notedBy (model prog w) A a4 λe b=>R (.error e) b) s)
  (n:Nat) (h:J n s):
  cH (model prog w) A (.compLoop (.ListComp elt [#v[target,iter,ifs,0]] scope pos) 0 B acc a4) R s:=by
 refine codeAny_loop O J (λn s hI=>?_) n h;refine wpAny_noted ?_;rw[compTurn_list];refine ah (rE (ah (cy (turn n s hI) (λr d j=>?_) λ_ _ a=>a)));cases r with
 |none=>exact aq j
 |some v=>
  refine ah (cy j (λ_ f t=>?_) λ_ _ a=>a);refine ah (cy t (λ_ o u=>ah (cy u (λok i l=>?_) λ_ _ a=>a)) λ_ _ a=>a);cases ok with
  |false=>exact aq #v[O,l]
  |true=>exact ah (ah (cy l (λx p y=>ah (cy y (λ_ q z=>aq (aq #v[O,z])) λ_ _ a=>a)) λ_ _ a=>a))
end
def zc(k:Nat)(d3:List Nat)(a:St):St:=eZ k U++d3.map λj=>(a[j]?).join
def JO(h:(zc k d3 b)[i]?=Z (Z v)):k<=i:=by
 by_cases a:k<=i
 .exact a
 .unfold zc at h;rw[gb (by rw[c6];omega),jD]at h;split at h<;>cases h
def Qz{k:Nat}{d3:List Nat}{b:St}{N a:aE}{i:Nat}{v:V}{x:Str}(hcap:(a.drop k).map Z=d3.map λj=>N[j]?)(f:a[i]?=Z x)(h:(zc k d3 b)[i]?=Z (Z v)):
  ∃j:Nat,N[j]?=Z x/\b[j]?=Z (Z v)/\x∈a.drop k:=by
 have d:=JO h;unfold zc at h;rw[f9 (by rw[c6];exact d),c6,bq]at h;have hd:(a.drop k)[i - k]?=Z x:=by rw[eL,show k+(i - k)=i by omega];exact f
 have e:=bD (λl=>l[i - k]?) hcap;simp only[bq,hd,gy]at e;cases q:d3[i - k]? with
 |none=>rw[q]at h;cases h
 |some j=>
  rw[q]at h e;simp only[gy,vb]at h e;refine#v[j,e.symm,?_,cf hd];cases z:b[j]? with
  |none=>rw[z]at h;cases h
  |some o=>rw[z]at h;have c:o=Z v:=h;rw[c]
def GV(t:TI)(g:TG)(r:TT)(q:TE)(k:Nat)(d3:List Nat):TE:=λe H Q=>t e H λJ f=>∀p,f p=U->
 ∃W:Nat->Nat->bF->Hp->Prop,(∃m,W 0 m [] (eg f p (.a3 [])))/\∀i m acc c,W i m acc c->
  (J.stop i c/\Q (.ref p) c)\/
   (J.go i c/\∀x h,J.yld i c x h->g x (zc k d3 e) h λa o=>a.drop k=(zc k d3 e).drop k/\r a o λb j=>
    if b=γ then q a j λy l=>∃acc',l p=Z (.a3 acc')/\acc'.length<aI/\∃d,d<m/\W (i+1) d (acc'++[y]) (eg l p (.a3 (acc'++[y])))
    else ∃d,d<m/\W (i+1) d acc j)
def JP{X:Cx}{d3:List Nat}
  (hc:X.l0=γ) (hi:PI X tg iter wi)
  (body:∀(cl:List (Str×Addr)) (C:Addr) (fp:List Addr) (s:ae) (H:Hp),PG (xF X B scope cl C fp s H) tg g/\PIf (xF X B scope cl C fp s H) ifs tt/\PE (xF X B scope cl C fp s H) elt te)
  (hkind:scope.kind=.function) (hcell:(scope.names.all λy=>y.2 != .cell)=γ)
  (hloc:(scope.names.all λy=>y.2 != .local||scope.names.lookup y.1==Z .local)=γ)
  (hfree:(scope.names.all λy=>y.2 != .free||(X.a4.kindOf y.1==Z .cell||X.a4.kindOf y.1==Z .free))=γ)
  (hlen:B.length=k+d3.length) (hcap:(B.drop k).map Z=d3.map λj=>X.N[j]?)
  (hcf:((B.drop k).all λx=>scope.names.lookup x==Z .free)=γ)
  (hs:∀x,i7 iter X.a4 x=pure x)
  (I:bt X pins σ H s) (h:GV wi g tt te k d3 σ H Q)
  (fin:∀a C m u s4 H3,s4.heap.Ns C m->bt X pins σ H3 s4->Kr X pins H3 C->Q (.ref a) H3->compPost (model X.prog X.w) X.A X.xe use P (.ref a) C (.ok u) s4):
  ao (model X.prog X.w) X.A (comprehension (.ListComp elt [#v[tg,iter,ifs,0]] scope pos) scope X.a4 (firstIterPos [#v[tg,iter,ifs,0]] pos) (newList []) δ (eval iter X.a4) use) P X.xe s:=by
 have hcell':∀y∈scope.names,y.2≠.cell:=λy M e=>by have z:=aK.1 hcell y M;rw[e]at z;exact ar z (by decide)
 have hloc':∀y∈scope.names,y.2=.local->scope.names.lookup y.1=Z .local:=λy M e=>by have z:=aK.1 hloc y M;rw[e]at z;simpa using z
 have hfree':∀y∈scope.names,y.2=.free->X.a4.kindOf y.1=Z .cell\/X.a4.kindOf y.1=Z .free:=λy M e=>by have z:=aK.1 hfree y M;rw[e]at z;simpa using z
 have hcl:=λy M e=>I.ok.has y.1 (hfree' y M e);refine wpAny_comprehension_free O hs (Js hcl) hkind hloc' (e0 (hi pins s σ H _ I h) λxv s₁ E=>e0 E λit l h₂=>?_);obtain⟨ita,fp,tn,J,H2,e,I2,T,st2,G,R2⟩:=h₂;subst e;obtain⟨W,⟨m0,w0⟩,turn⟩:=R2 l.heap.objs.size (I2.ew.fresh (aH _));refine cU (wpAny_newFunctionEnv hcell' (by intro y M;simp at M) (λE hns₁ hsb₁=>?_) hkind);dsimp only at hns₁ hsb₁ ⊢;generalize hp:l.heap.push { cls:=.type "list", dict:=U,data:=.seq ([]:List ab).toArray }=hpL at hns₁ hsb₁ ⊢;have hsz:hpL.objs.size=l.heap.objs.size+1:=by rw[<-hp,c9]
 have t:bt X pins σ (eg H2 l.heap.objs.size (.a3 [])) { l with heap:=hpL }:=by rw[<-hp];exact I2.laid (λb u e=>aR _ e) (aH _) #v[bT _,[],0,.nil,bw _ O]
 have old:=λb o e=>hsb₁.extBut b o (bg (a9 e)) (aR _ e);have older:∀b o,l.heap.get? b=Z o->hpL.get? b=Z o:=λb o e=>by rw[<-hp];exact aR _ e
 have hfpS:=λb hb=>let #v[o,e,_]:=T.obj _ _ st2 b hb;a9 e;have sub:=L0 scope.names [] hcl (λx c e=>by cases e);have R:(xF X B scope (AD X.a4.cells scope.names) hpL.objs.size fp { l with heap:=hpL } (eg H2 l.heap.objs.size (.a3 []))).Ok:={
  x?:=t.ok.x?
  kind:=hkind
  xo:=t.ok.xo
  blt:=t.ok.blt
  above:=aH _
  inj:=λx y c h1 h2=>t.ok.inj x y c (sub x c h1) (sub y c h2)
  has:=λx F=>HZ scope.names [] x (NI hcell' F)
  cab:=λx c hf _=>ar (show δ=γ from hf) bG
  hd:=t.ok.hd
  frames:=t.ok.frames
  stk:=.inl O
  exf:=λb hb=>#v[(by
   rw[hsz];exact bg (eO (hfpS b hb))),λx c e=>(G b hb).2.2.2.2.1 x c (sub x c e)]
  bs:=t.bs
  μ:=bz t.ok.μ t.sz
  T':=λb o e hb=>by
   rcases(G b hb).2.2.2.1 with z|z
   .exact t.ok.T' b o e z
   .exact ar (cw (a9 e) (bz t.ok.μ z)) (fT _)
  R?:=λb hb z=>(aJ.1 (t.I1 b z)).elim (G b hb).2.1 (G b hb).2.2.1
  p?:=t.stack
  frf:=t.N1 }
 have IX:bt (xF X B scope (AD X.a4.cells scope.names) hpL.objs.size fp { l with heap:=hpL } (eg H2 l.heap.objs.size (.a3 []))) [] (zc k d3 σ) (eg H2 l.heap.objs.size (.a3 []))
   { l with heap:=E,toks:=l.toks+([]:List (Str×ab)).length }:={
  ok:=R
  os:=rfl
  j0:=t.j0
  a5:=Un.fu old
  A?:=#v[_,hns₁,λi x v e1 e2 _=>by
   obtain⟨j,hj,hσ,hm⟩:=Qz hcap e1 e2;have F:=by simpa using aK.1 hcf x hm
   have hk:=hfree' (x,.free) (mem_of_lookup F) O;obtain⟨m,hn,hl⟩:=t.A?;obtain⟨u,r,lk⟩:=hl j x v hj hσ (hk.elim (λz=>.inr (.inl z)) λz=>.inr (.inr z));refine#v[u,r,.inr #v[Jt F,?_]];rcases lk with ⟨z,_⟩|⟨_,c,e,o,ho,hd⟩
   .rcases hk with y|y
    .rw[y]at z;cases z
    .rw[y]at z;cases z
   .obtain⟨c',e'⟩:=HZ scope.names [] x (mem_of_lookup F);have ec:=sub x c' e';rw[e]at ec;have ec':=cX ec;subst ec';exact#v[c,e',o,old _ _ ho,hd]]
  cell:=λx c e=>by obtain⟨v,o,ho,hd⟩:=t.cell x c (sub x c e);exact#v[v,o,old _ _ ho,hd]
  free:=t.ew.fresh (aH _)
  ke:=λx c e=>t.ke x c (sub x c e)
  Dv:=λp hp=>ar (show p∈([]:cN) from hp) (by simp)
  ew:=t.ew.fu old
  len:=by
   show (zc k d3 σ).length=B.length;rw[hlen];unfold zc;rw[aA,c6,af] }
 have stat:∀{H':Hp},(∀b∈fp,H' b=U)->∀b∈fp,Kr (xF X B scope (AD X.a4.cells scope.names) hpL.objs.size fp { l with heap:=hpL } (eg H2 l.heap.objs.size (.a3 []))) [] H' b:=λhn b hb=>#v[hn b hb,(R.exf b hb).1,R.R? b hb,.inl hb,(R.exf b hb).2,λp hp=>ar (show p∈([]:cN) from hp) (by simp)]
 have st4:=T.keep _ _ _ st2 λb _ o e=>old b o (older b o e);have loop:cH (model X.prog X.w) X.A (.compLoop (.ListComp elt [#v[tg,iter,ifs,0]] scope pos) 0 (.ref ita) (.ref l.heap.objs.size) (compEnvC scope (AD X.a4.cells scope.names) hpL.objs.size X.a4))
   (compPost (model X.prog X.w) X.A X.xe use P (.ref l.heap.objs.size) hpL.objs.size) { l with heap:=E,toks:=l.toks+([]:List (Str×ab)).length }:=by
  refine KH (λn s'=>∃i acc H',bt (xF X B scope (AD X.a4.cells scope.names) hpL.objs.size fp { l with heap:=hpL } (eg H2 l.heap.objs.size (.a3 []))) [] (zc k d3 σ) H' s'/\tn i s'.heap/\(∀b∈fp,H' b=U)/\W i n acc H')
   ?_ m0 #v[0,[],_,IX,st4,λb hb=>?_,w0]
  .rintro n s3 ⟨i,acc,H3,I4,st3,fr3,w3⟩;rcases turn i n acc H3 w3 with ⟨stop,qn⟩|⟨go,step⟩
   .refine e0 (T.done (xF X B scope (AD X.a4.cells scope.names) hpL.objs.size fp { l with heap:=hpL } (eg H2 l.heap.objs.size (.a3 []))) O O O hc i [] s3 _ H3 _ I4 (stat fr3) st3 stop) λr s4 zz=>?_;obtain⟨hr,Y⟩:=zz;subst hr;obtain⟨m,hn,_⟩:=id Y.A?;have At:=Y.a5;refine fin _ _ m _ _ _ hn (t.call' Y.os #v[λb o e n hb F=>At.keep b o e n hb F,λb o e n hb F=>At.slot b o e n hb F,At.free,λb o e F=>At.there b o e F,At.u1,At.vl,At.A'] Y.ew Y.j0
     λb hb=>#v[(G b hb).2.2.2.1,(G b hb).2.1,(G b hb).2.2.2.2.1,(G b hb).2.2.2.2.2]) (t.Q0 (aH _) Y.free) qn
   .refine e0 (T.item (xF X B scope (AD X.a4.cells scope.names) hpL.objs.size fp { l with heap:=hpL } (eg H2 l.heap.objs.size (.a3 []))) O O O hc i [] s3 _ H3 _ I4 (stat fr3) st3 go) λr s4 zz=>?_;obtain⟨u,hr,h4⟩:=zz;subst hr;refine e0 h4 λ_ s5 zz=>?_;obtain⟨x,H5,Y,r5,y5,st5,fr5⟩:=zz;have I5':=Y.L' (stat fr5) (T.obj _ _ st5);have again:∀{H8:Hp} {s8:ae} {S:St} {acc8:bF} {m':Nat},bt (xF X B scope (AD X.a4.cells scope.names) hpL.objs.size fp { l with heap:=hpL } (eg H2 l.heap.objs.size (.a3 []))) ([]++HN fp s5.heap) S H8 s8->S.drop k=(zc k d3 σ).drop k->m'<n->W (i+1) m' acc8 H8->
      ∃m,m<n/\∃i acc H',bt (xF X B scope (AD X.a4.cells scope.names) hpL.objs.size fp { l with heap:=hpL } (eg H2 l.heap.objs.size (.a3 []))) [] (zc k d3 σ) H' s8/\tn i s8.heap/\(∀b∈fp,H' b=U)/\W i m acc H':=λ{H8 s8 S acc8 m'} I8 hd8 hm8 w8=>by
     refine#v[m',hm8,i+1,acc8,H8,I8.ma.b4 (IX.len.t I8.len.symm) (λj v e=>?_),T.keep _ _ _ st5 λb hb o e=>(I8.Dv (b,o) (bB _ (bB _ (AC hb e)))).1,λb hb=>?_,w8]
     .have hj:=JO e;have q:(S.drop k)[j - k]?=((zc k d3 σ).drop k)[j - k]?:=by rw[hd8]
      rw[eL,eL,show k+(j - k)=j by omega]at q;rw[q];exact e
     .obtain⟨o,e,d⟩:=T.obj _ _ st5 b hb;exact(I8.Dv (b,o) (bB _ (bB _ (AC hb e)))).2.1
    refine cy ((body _ _ _ _ _).1 _ s5 _ H5 x u _ I5' r5 (step x H5 y5)) (λ_ s6 h6=>?_) λ_ _ f=>f.elim;obtain⟨σ6,H6,I6,hd6,q6⟩:=h6;refine cy ((body _ _ _ _ _).2.1 _ s6 σ6 H6 _ I6 q6) (λb s7 h7=>?_) λ_ _ f=>f.elim;obtain⟨H7,I7,q7⟩:=h7;cases b with
    |false=>rw[ak bG]at q7;rw[ak bG];obtain⟨m',hm',w7⟩:=q7;exact again I7 hd6 hm' w7
    |true=>rw[aj O]at q7;rw[aj O];refine cy ((body _ _ _ _ _).2.2 _ s7 σ6 H7 _ I7 q7) (λyv s8 h8=>?_) λ_ _ f=>f.elim;obtain⟨y,H8,I8,r8,acc',hp8,hl8,m',hm',w8⟩:=h8;refine cy (F6 (X:=xF X B scope (AD X.a4.cells scope.names) hpL.objs.size fp { l with heap:=hpL } (eg H2 l.heap.objs.size (.a3 []))) _ s8 σ6 H8 (.ref l.heap.objs.size) [y] (.ref l.heap.objs.size) [yv] (λ_ Hx=>Hx=eg H8 l.heap.objs.size (.a3 (acc'++[y]))) I8 O (.cons r8 .nil) #v[_,acc',y,O,O,hp8,hl8,O]) (λ_ s9 h9=>?_) λ_ _ f=>f.elim;obtain⟨_,H9,I9,_,e9⟩:=h9;subst e9;exact again I9 hd6 hm' w8
  .have z:=bg (hfpS b hb);rw[vH z];exact(G b hb).1
 exact codeAny_compStart_list loop (T.self _ 0 _ _ _ st4 loop)
def V4{X:Cx}{d3:List Nat}
  (w:X.l0=γ) (z:PI X q iter J)
  (body:∀(f:List (Str×Addr)) (C:Addr) (i:List Addr) (s:ae) (H:Hp),PG (xF X c scope f C i s H) q g/\PIf (xF X c scope f C i s H) ifs G/\PE (xF X c scope f C i s H) elt F)
  (hkind:autoParam (scope.kind=.function) zA0._auto_1) (hcell:autoParam ((scope.names.all λy=>y.2 != .cell)=γ) zA0._auto_1)
  (hloc:autoParam ((scope.names.all λy=>y.2 != .local||scope.names.lookup y.1==Z .local)=γ) zA0._auto_1)
  (hfree:autoParam ((scope.names.all λy=>y.2 != .free||(X.a4.kindOf y.1==Z .cell||X.a4.kindOf y.1==Z .free))=γ) zA0._auto_1)
  (d:autoParam (c.length=k+d3.length) zA0._auto_1) (hcap:autoParam ((c.drop k).map Z=d3.map λj=>X.N[j]?) zA0._auto_1)
  (hcf:autoParam (((c.drop k).all λx=>scope.names.lookup x==Z .free)=γ) zA0._auto_1)
  (B:autoParam (∀x,i7 iter X.a4 x=pure x) zA3._auto_1):
  PE X (.ListComp elt [#v[q,iter,ifs,0]] scope pos) (GV J g G F k d3):=by
 intro p s R H Q I h;exact JP w z body hkind hcell hloc hfree d hcap hcf B I h λa C m u P r A A4 fpC E=>#v[m,A,λM l=>#v[.ref a,r,A4.iE (λb o t e=>(l.2 b t).t e) fpC.1 fpC.2.1 fpC.2.2.2.1 fpC.2.2.2.2.1 fpC.2.2.2.2.2,O,E]]
def Its(x:Str):It:=#v[λi y=>i<x.cps.size,λi H v a=>a=H/\∃c,x.cps[i]?=Z c/\v=.str #v[#[c]],λi y=>i=x.cps.size]
def Z0(hQ:Q () s):ao M A (jd a (.ref b) (.str c t)) Q E s:=by cases a<;>exact aq hQ
def L1{K:av}(it:Addr)(ty:String)(x:Str)(t:Tok)
  (hW:∀A:aQ,A.handled=U->Walks P w A it [it] [it] x.cps.size (SignAt x) (λi h=>h.IsStrIter it ty x t i))
  (hS:∀(A:aQ) (i:Nat) (s:ae) (Q:ab->ae->Prop) (E:ab->ae->Prop),s.heap.IsStrIter it ty x t i->Q (.ref it) s->ao (model P w) A (pyIter (.ref it)) Q E s):
  Ra P w K tg (Its x) [it] it (λi h=>h.IsStrIter it ty x t i) where
 mem:=by simp
 obj:=λi h st b hb=>by
  have e:=by simpa using hb
  subst e;obtain⟨o,e,c,d⟩:=st;exact#v[o,e,λv z=>by rw[d]at z;cases z]
 keep:=λi h h' st k=>by obtain⟨o,e,r⟩:=st;exact#v[o,k it (by simp) o e,r]
 item:=by intro X hP hw hK p i pins s σ H E I hf st hg;subst hP hw hK;obtain⟨a,f,F,j,l,m⟩:=hf it (by simp);refine(hW _ (I.ok.hd p)).item i s _ _ hg st λv h' tk G B y=>?_;obtain⟨c,J,q,rfl⟩:=G;have C:bt X pins σ H { s with heap:=h',toks:=tk }:=I.iE (λb o hb e=>y b o (by simpa using hb) e) a f j l m;exact#v[_,O,Z0 #v[.str #v[#[c]],H,C,#v[J,O],#v[O,c,q,O],B,λb hb=>(hf b hb).1]]
 done:=by intro X hP hw hK p i pins s σ H E I hf st hg;subst hP hw hK;obtain⟨a,f,F,j,l,m⟩:=hf it (by simp);have u:=hg;subst u;exact(hW _ (I.ok.hd p)).done s _ _ st λh' tk y=>#v[O,I.iE (λb o hb e=>y b o (by simpa using hb) e) a f j l m]
 self:=hS
section
variable{X:Cx}{tg:Expr}
def iStr(b:TE):TI:=λc H R=>b c H λv a=>∃x,v=.str x/\R (Its x) a
def Z1(r:PE X l y):PI X tg l (iStr y):=by
 intro a s B H R I h;refine e0 (r a s B H _ I h) λv c zz=>?_;obtain⟨x,f,d,w,u⟩:=zz;obtain⟨z,e,q⟩:=u;subst e;obtain⟨t,rfl⟩:=w;have j:∀b∈[c.heap.objs.size],Kr X a f b:=λb p=>by
  have e:=by simpa using p
  subst e;exact d.Q0 (aH _) (d.ew.fresh (aH _))
 cases m:z.cps.all (· < 128)
 .refine wpAny_pyIter_wide m #v[c.heap.objs.size,[c.heap.objs.size],_,_,f,O,d.fu λb o e=>aR _ e,L1 _ "str_iterator" z t (λA hA=>Walks.strWide hA _ z t) (λA i s Q E st hQ=>wpAny_pyIter_striter_wide st hQ),#v[_,bw _ O,O,O],j,q]
 .refine wpAny_pyIter_ascii m #v[c.heap.objs.size,[c.heap.objs.size],_,_,f,O,d.fu λb o e=>aR _ e,L1 _ "str_ascii_iterator" z t (λA hA=>Walks.strAscii hA _ z t) (λA i s Q E st hQ=>wpAny_pyIter_striter_ascii st hQ),#v[_,bw _ O,O,O],j,q]
end
section
variable{X:Cx}
def QA:gi X (bC .LtE) (λx y H Q=>∃i j,x=.str i/\y=.str j/\Q (.X (!decide (j.cps.toList<i.cps.toList))) H):=by intro a s e H x y v u Q I b c h;obtain⟨i,j,rfl,rfl,q⟩:=h;obtain⟨t,rfl⟩:=b;obtain⟨d,rfl⟩:=c;exact PySem.P.le_str (wu I q O)
def Si(y:X.l0=γ):xD X (.builtin "all") (λx H Q=>∃(p:Addr) (bs:List Bool),x=[.ref p]/\fb X.K H p (bs.map V.X)/\Q (.X (bs.all id)) H):=by
 intro t s T H x S Q I r h;obtain⟨p,bs,rfl,E,q⟩:=h;obtain⟨u,rfl,l⟩:=kb r;cases l;obtain⟨j,w,pl,N⟩:=I.list E;have hlt:p<s.heap.objs.size:=by obtain⟨o,C,_⟩:=pl.isList;exact a9 C
 have B:=by have:=w.length;rw[af]at this;exact this
 refine call_all_walk (ir pl.isList #v[s.heap.objs.size,_,_,_,_,_,λi=>(bs[i]?).getD γ,O,jo (show X.A.in1.handled=U from I.ok.hd y) _ p (bg hlt) j.toArray,#v[#v[_,bw _ O,O,O],?_],?_,λM R z=>?_])
 .exact pl.isList.at λo e=>aR _ e
 .intro i v P J G F hQ';have c:=by simpa using F
  have a:=(cj.1 c).1;have d:(bs.map V.X)[i]?=Z (.X (bs[i]'(by omega))):=by simp[show i<bs.length by omega]
  obtain⟨u,m,l⟩:=w.get d;rw[c]at m;cases m;cases l;refine dJ ?_;have e:(bs[i]?).getD γ=bs[i]'(by omega):=by simp[show i<bs.length by omega]
  rw[<-e];exact hQ'
 .refine#v[.X (bs.all id),H,?_,?_,q]
  .exact I.fu λb o e=>z b o (by simp;exact bg (a9 e)) (aR _ e)
  .show Value.bool _=Value.bool _;congr 1;rw[bf,<- B];rw[d5];simp only[aK,bx,id];constructor
   .intro f b d;obtain⟨i,a,rfl⟩:=lC.1 d;have:=f i a;simpa [a]using this
   .intro f i a;simp only[aP a,qA];exact f _ (gv a)
end
inductive Dq where
 |O|X (b:Bool)|int (i:Int)|str (x:Str)|a7 (ds:List Dq)|a3 (ds:List Dq)
mutual
def cb(K:av)(H:Hp):Dq->V->Prop
 |.O,v=>v=.O
 |.X b,v=>v=.X b
 |.int i,v=>v=.int i
 |.str x,v=>v=.str x
 |.a7 d,v=>∃a c,v=.ref a/\e8 K H a c/\a6 K H d c
 |.a3 d,v=>∃a c,v=.ref a/\fb K H a c/\a6 K H d c
def a6(K:av)(H:Hp):List Dq->bF->Prop
 |[],a=>a=[]
 |d::b,a=>∃v r,a=v::r/\cb K H d v/\a6 K H b r
end
mutual
def pk:Dq->Dq->Bool
 |.O,.O=>γ
 |.X a,.X b=>a==b
 |.X a,.int b=>(if a then 1 else 0)==b
 |.int a,.X b=>a==(if b then 1 else 0)
 |.int a,.int b=>a==b
 |.str a,.str b=>a==b
 |.a7 a,.a7 b=>D9 a b
 |.a3 a,.a3 b=>D9 a b
 |_,_=>δ
def D9:List Dq->List Dq->Bool
 |[],[]=>γ
 |a::r,b::q=>pk a b&&D9 r q
 |_,_=>δ
end
mutual
def fc:Dq->Nat
 |.a7 a=>xm a+1
 |.a3 a=>xm a+1
 |_=>0
def xm:List Dq->Nat
 |[]=>0
 |d::r=>max (fc d) (xm r)
end
mutual
theorem BQ:∀d:Dq,pk d d=γ
 |.O=>rfl
 |.X b=>beq_self_eq_true b
 |.int i=>beq_self_eq_true i
 |.str x=>beq_self_eq_true x
 |.a7 a=>F7 a
 |.a3 a=>F7 a
theorem F7:∀a:List Dq,D9 a a=γ
 |[]=>rfl
 |d::r=>by show (pk d d&&D9 r r)=γ;rw[BQ d,F7 r];rfl
end
theorem vC{K:av}:∀{b:List Dq} {a:bF},a6 K H b a->b.length=a.length
 |[],a,h=>by subst h;rfl
 |d::b,a,h=>by obtain⟨v,r,rfl,_,c⟩:=h;rw[aS,aS,vC c]
def eAt(d c:List Dq)(j:Nat):Bool:=match d[j]?,c[j]? with
 |some a,Z b=>pk a b
 |_,_=>γ
theorem Ia:∀(d c:List Dq),D9 d c=γ ↔ d.length=c.length/\∀j,j<d.length->eAt d c j=γ
 |[],[]=>by show γ=γ ↔ _;simp
 |[],b::q=>by show δ=γ ↔ _;simp
 |a::r,[]=>by show δ=γ ↔ _;simp
 |a::r,b::q=>by
  have l:=Ia r q;show (pk a b&&D9 r q)=γ ↔ _;rw[aT,l,aS,aS];constructor
  .rintro⟨f,e,h⟩;refine#v[by omega,λj i=>?_];cases j with
   |zero=>exact f
   |succ j=>exact h j (by omega)
  .rintro⟨f,e⟩;exact#v[e 0 (by omega),by omega,λj i=>e (j+1) (by omega)]
def Cd{b a:List Dq}(l:b.length=n)(i:a.length=m):((aB (min n m)).all (eAt b a)&&n==m)=D9 b a:=by
 rw[d5,Ia,aT,aK];subst l i;constructor
 .rintro⟨d,f⟩;have e:=by simpa using f
  exact#v[e,λj c=>d j (bx.2 (by omega))]
 .rintro⟨e,h⟩;exact#v[λj c=>h j (by have:=bx.1 c;omega),by simpa using e]
def Dr{b a:List Dq}(d:b.length=n)(c:a.length=n):(aB n).all (eAt b a)=D9 b a:=by rw[<-Cd d c];simp
def Ib{b a:List Dq}(h:b.length≠a.length):D9 b a=δ:=by
 cases e:D9 b a with
 |false=>rfl
 |true=>exact ar ((Ia b a).1 e).1 h
section
variable{X:Cx}{pins:cN}{σ:St}{H:Hp}{s:ae}
def Yk(I:bt X pins σ H s)(h:fb X.K H a f)(c:e8 X.K H a i):False:=by obtain⟨d,_,p,_⟩:=I.list h;obtain⟨b,_,e,_⟩:=I.tuple c;exact SeqAt.ne_of_list_tuple p.isList (show s.heap.IsTuple a b.toArray from e) O
mutual
theorem Ie(I:bt X pins σ H s):∀(d i:Dq) (v:V),cb X.K H d v->cb X.K H i v->pk d i=γ
 |.O,i,v,h,c=>by subst h;cases i<;>first|rfl|(exact nomatch c)|(obtain⟨_,_,e,_⟩:=c;exact nomatch e)
 |.X b,i,v,h,c=>by subst h;cases i<;>first|(obtain⟨_,_,e,_⟩:=c;cases e)|(cases c<;>exact BQ _)
 |.int b,i,v,h,c=>by subst h;cases i<;>first|(obtain⟨_,_,e,_⟩:=c;cases e)|(cases c<;>exact BQ _)
 |.str b,i,v,h,c=>by subst h;cases i<;>first|(obtain⟨_,_,e,_⟩:=c;cases e)|(cases c<;>exact BQ _)
 |.a7 q,i,v,h,c=>by
  obtain⟨a,u,rfl,o,t⟩:=h;cases i with
  |a7 j=>obtain⟨p,m,e,f,l⟩:=c;cases e;have r:=I.yr o f;subst r;exact F8 I q j u t l
  |a3 j=>obtain⟨p,m,e,f,l⟩:=c;cases e;exact(Yk I f o).elim
  |_=>exact nomatch (show _=_ from c)
 |.a3 q,i,v,h,c=>by
  obtain⟨a,u,rfl,o,t⟩:=h;cases i with
  |a3 j=>obtain⟨p,m,e,f,l⟩:=c;cases e;have r:=I.C' o f;subst r;exact F8 I q j u t l
  |a7 j=>obtain⟨p,m,e,f,l⟩:=c;cases e;exact(Yk I o f).elim
  |_=>exact nomatch (show _=_ from c)
theorem F8(I:bt X pins σ H s):∀(b a:List Dq) (f:bF),a6 X.K H b f->a6 X.K H a f->D9 b a=γ
 |[],a,f,h,c=>by
  subst h;cases a with
  |nil=>rfl
  |cons d r=>obtain⟨_,_,e,_⟩:=c;exact nomatch e
 |d::b,a,f,h,c=>by
  obtain⟨v,r,rfl,o,p⟩:=h;cases a with
  |nil=>exact nomatch (show _=_ from c)
  |cons l m=>obtain⟨t,q,e,i,j⟩:=c;cases e;show (pk d l&&D9 b m)=γ;rw[Ie I d l v o i,F8 I b m r p j];rfl
end
mutual
theorem Sj(I:bt X pins σ H s):∀(d C:Dq) (x y:V) (u v:ab) (A:aQ),cb X.K H d x->cb X.K H C y->dd x u->dd y v->A.units+fc d+fc C<cLine->jm A s u v (pk d C)
 |.a7 F,C,x,y,u,v,A,G,l,w,o,R=>by
  obtain⟨a,S,rfl,Q,M⟩:=G;cases w;obtain⟨J,P,p,_⟩:=I.tuple Q;cases C with
  |O=>unfold cb at l;subst l;cases o;exact uA p (by omega)
  |X b=>unfold cb at l;subst l;cases o;exact uB b p (by omega)
  |int b=>unfold cb at l;subst l;obtain⟨t,rfl⟩:=o;exact uK b t p (by omega)
  |str b=>unfold cb at l;subst l;obtain⟨t,rfl⟩:=o;exact uL b t p (by omega)
  |a3 i=>obtain⟨b,E,rfl,h,m⟩:=l;cases o;obtain⟨f,B,r,_⟩:=I.list h;exact uC p r.isList (by omega)
  |a7 i=>
   have N:=l;obtain⟨b,E,rfl,h,m⟩:=l;cases o;obtain⟨f,B,r,_⟩:=I.tuple h;by_cases hab:a=b
   .subst hab;have e:pk (.a7 F) (.a7 i)=γ:=Ie I _ _ (.ref a) (by unfold cb;exact#v[a,S,O,Q,M]) N;rw[e];exact mR _
   .have hd:fc (.a7 F)=xm F+1:=by rw[fc]
    have hd':fc (.a7 i)=xm i+1:=by rw[fc]
    have q:=vc (A:=A) p r (by omega) λj W Y=>by have z:=Ce I F i S E J f A.in1 M m P B (by show A.units+1+xm F+xm i<cLine;omega) j (by simpa using W) (by simpa using Y);simpa using z
    rw[Cd (by rw[vC M,P.length];simp) (by rw[vC m,B.length];simp)]at q;exact l8 hab q
 |.a3 F,C,x,y,u,v,A,G,l,w,o,R=>by
  obtain⟨a,S,rfl,Q,M⟩:=G;cases w;obtain⟨J,P,p,_⟩:=I.list Q;have p:=p.isList;cases C with
  |O=>unfold cb at l;subst l;cases o;exact uM p (by omega)
  |X b=>unfold cb at l;subst l;cases o;exact uN b p (by omega)
  |int b=>unfold cb at l;subst l;obtain⟨t,rfl⟩:=o;exact uW b t p (by omega)
  |str b=>unfold cb at l;subst l;obtain⟨t,rfl⟩:=o;exact uX b t p (by omega)
  |a7 i=>obtain⟨b,E,rfl,h,m⟩:=l;cases o;obtain⟨f,B,r,_⟩:=I.tuple h;exact uD p (show s.heap.IsTuple b f.toArray from r) (by omega)
  |a3 i=>
   have N:=l;obtain⟨b,E,rfl,h,m⟩:=l;cases o;obtain⟨f,B,r,_⟩:=I.list h;have r:=r.isList;by_cases hab:a=b
   .subst hab;have e:pk (.a3 F) (.a3 i)=γ:=Ie I _ _ (.ref a) (by unfold cb;exact#v[a,S,O,Q,M]) N;rw[e];exact mR _
   .have hd:fc (.a3 F)=xm F+1:=by rw[fc]
    have hd':fc (.a3 i)=xm i+1:=by rw[fc]
    by_cases T:J.length=f.length
    .have q:=ve (A:=A) p r (by simpa using T) (by omega) λj W Y=>by have z:=Ce I F i S E J f A.in1 M m P B (by show A.units+1+xm F+xm i<cLine;omega) j (by simpa using W) (by simpa using Y);simpa using z
     rw[Dr (by rw[vC M,P.length];simp) (by rw[vC m,B.length,<- T];simp)]at q;exact l8 hab q
    .have e:pk (.a3 F) (.a3 i)=δ:=by exact Ib (by rw[vC M,vC m,P.length,B.length];exact T)
     rw[e];exact l8 hab (uv p r (by simpa using T) (by omega))
 |.O,C,x,y,u,v,A,G,l,w,o,R=>by
  subst G;cases C with
  |a7 i=>obtain⟨b,E,rfl,h,m⟩:=l;cases o;cases w;obtain⟨f,B,r,_⟩:=I.tuple h;exact uE (show s.heap.IsTuple b f.toArray from r) (by omega)
  |a3 i=>obtain⟨b,E,rfl,h,m⟩:=l;cases o;cases w;obtain⟨f,B,r,_⟩:=I.list h;exact uO r.isList (by omega)
  |_=>unfold cb at l;subst l;exact HU w o O O
 |.X c,C,x,y,u,v,A,G,l,w,o,R=>by
  subst G;cases C with
  |a7 i=>obtain⟨b,E,rfl,h,m⟩:=l;cases o;cases w;obtain⟨f,B,r,_⟩:=I.tuple h;exact uF c (show s.heap.IsTuple b f.toArray from r) (by omega)
  |a3 i=>obtain⟨b,E,rfl,h,m⟩:=l;cases o;cases w;obtain⟨f,B,r,_⟩:=I.list h;exact uP c r.isList (by omega)
  |_=>unfold cb at l;subst l;exact HU w o O O
 |.int c,C,x,y,u,v,A,G,l,w,o,R=>by
  subst G;cases C with
  |a7 i=>obtain⟨b,E,rfl,h,m⟩:=l;cases o;obtain⟨t,rfl⟩:=w;obtain⟨f,B,r,_⟩:=I.tuple h;exact uQ c t (show s.heap.IsTuple b f.toArray from r) (by omega)
  |a3 i=>obtain⟨b,E,rfl,h,m⟩:=l;cases o;obtain⟨t,rfl⟩:=w;obtain⟨f,B,r,_⟩:=I.list h;exact uY c t r.isList (by omega)
  |_=>unfold cb at l;subst l;exact HU w o O O
 |.str c,C,x,y,u,v,A,G,l,w,o,R=>by
  subst G;cases C with
  |a7 i=>obtain⟨b,E,rfl,h,m⟩:=l;cases o;obtain⟨t,rfl⟩:=w;obtain⟨f,B,r,_⟩:=I.tuple h;exact uR c t (show s.heap.IsTuple b f.toArray from r) (by omega)
  |a3 i=>obtain⟨b,E,rfl,h,m⟩:=l;cases o;obtain⟨t,rfl⟩:=w;obtain⟨f,B,r,_⟩:=I.list h;exact uZ c t r.isList (by omega)
  |_=>unfold cb at l;subst l;exact HU w o O O
theorem Ce(I:bt X pins σ H s):∀(b a:List Dq) (f h:bF) (c e:List ab) (A:aQ),a6 X.K H b f->a6 X.K H a h->cm f c->cm h e->A.units+xm b+xm a<cLine->
  ∀(j:Nat) (i:j<c.length) (l:j<e.length),jm A s c[j] e[j] (eAt b a j)
 |[],a,f,h,c,e,A,m,o,p,q,B,j,i,l=>by
  have:=vC m;have:=p.length;simp only[du]at *
  omega
 |d::b,[],f,h,c,e,A,m,o,p,q,B,j,i,l=>by
  have:=vC o;have:=q.length;simp only[du]at *
  omega
 |d::b,r::a,f,h,c,e,A,m,o,p,q,B,j,i,l=>by
  obtain⟨x,J,rfl,t,u⟩:=m;obtain⟨y,M,rfl,w,z⟩:=o;have N:xm (d::b)=max (fc d) (xm b):=by rw[xm]
  have P:xm (r::a)=max (fc r) (xm a):=by rw[xm]
  cases p with
  |cons F G=>
   cases q with
   |cons C E=>
    cases j with
    |zero=>exact Sj I d r x y _ _ A t w F C (by omega)
    |succ j=>exact Ce I b a J M _ _ A u z G E (by omega) j (by simpa using i) (by simpa using l)
end
def Sk:Dq->Dq->Bool
 |.a7 _,.a7 _=>γ
 |.a3 _,.a3 _=>γ
 |_,_=>δ
def NJ(K:av)(neg:Bool):R2:=λx y H Q=>∃d a,cb K H d x/\cb K H a y/\Sk d a=γ/\fc d<=20/\fc a<=20/\Q (.X (if neg then !pk d a else pk d a)) H
def Z2(hu:X.A.units+64<cLine):gi X (bC .Eq) (NJ X.K δ):=by
 intro pins s σ H x y u v Q I W Y h;obtain⟨d,R,S,T,hd,B,C,q⟩:=h;cases d with
 |a7 i=>
  cases R with
  |a7 c=>
   have G:fc (.a7 i)=xm i+1:=by rw[fc]
   have J:fc (.a7 c)=xm c+1:=by rw[fc]
   obtain⟨a,N,rfl,M,r⟩:=S;obtain⟨b,P,rfl,o,l⟩:=T;cases W;cases Y;obtain⟨m,t,p,_⟩:=I.tuple M;obtain⟨f,w,F,_⟩:=I.tuple o;refine SeqAt.eq_tupleAt (e:=eAt i c) (show s.heap.IsTuple a m.toArray from p) (show s.heap.IsTuple b f.toArray from F) (by omega) (λj B C=>?_) ?_
   .have z:=Ce I i c N P m f X.A.in1 r l t w (by show X.A.units+1+xm i+xm c<cLine;omega) j (by simpa using B) (by simpa using C);simpa using z
   .rw[Cd (by rw[vC r,t.length];simp) (by rw[vC l,w.length];simp)];exact wu I q O
  |_=>exact nomatch hd
 |a3 i=>
  cases R with
  |a3 c=>
   have G:fc (.a3 i)=xm i+1:=by rw[fc]
   have J:fc (.a3 c)=xm c+1:=by rw[fc]
   obtain⟨a,N,rfl,M,r⟩:=S;obtain⟨b,P,rfl,o,l⟩:=T;cases W;cases Y;obtain⟨m,t,p,_⟩:=I.list M;obtain⟨f,w,F,_⟩:=I.list o;by_cases E:m.length=f.length
   .refine SeqAt.eq_listAt (e:=eAt i c) p.isList F.isList (by simpa using E) (by omega) (λj B C=>?_) ?_
    .have z:=Ce I i c N P m f X.A.in1 r l t w (by show X.A.units+1+xm i+xm c<cLine;omega) j (by simpa using B) (by simpa using C);simpa using z
    .rw[Dr (by rw[vC r,t.length];simp) (by rw[vC l,w.length,<- E];simp)];exact wu I q O
   .refine oX p.isList F.isList (by simpa using E) (by omega) ?_;have e:D9 i c=δ:=Ib (by rw[vC r,vC l,t.length,w.length];exact E);rw[show pk (.a3 i) (.a3 c)=δ from e]at q;exact wu I q O
  |_=>exact nomatch hd
 |_=>exact nomatch hd
def Z3(hu:X.A.units+64<cLine):gi X (bC .NotEq) (NJ X.K γ):=by
 intro pins s σ H x y u v Q I Y rv h;obtain⟨d,S,T,W,hd,C,E,q⟩:=h;cases d with
 |a7 l=>
  cases S with
  |a7 c=>
   have J:fc (.a7 l)=xm l+1:=by rw[fc]
   have M:fc (.a7 c)=xm c+1:=by rw[fc]
   obtain⟨a,P,rfl,N,r⟩:=T;obtain⟨b,R,rfl,o,i⟩:=W;cases Y;cases rv;obtain⟨m,t,p,_⟩:=I.tuple N;obtain⟨f,B,G,_⟩:=I.tuple o;have w:=u0 (A:=X.A) (show s.heap.IsTuple a m.toArray from p) (show s.heap.IsTuple b f.toArray from G) (by omega) (λj C E=>by
    have z:=Ce I l c P R m f X.A.in1 r i t B (by show X.A.units+1+xm l+xm c<cLine;omega) j (by simpa using C) (by simpa using E);simpa using z)
   rw[Cd (by rw[vC r,t.length];simp) (by rw[vC i,B.length];simp)]at w;exact w X.prog X.w X.xe _ (wu I q O)
  |_=>exact nomatch hd
 |a3 l=>
  cases S with
  |a3 c=>
   have J:fc (.a3 l)=xm l+1:=by rw[fc]
   have M:fc (.a3 c)=xm c+1:=by rw[fc]
   obtain⟨a,P,rfl,N,r⟩:=T;obtain⟨b,R,rfl,o,i⟩:=W;cases Y;cases rv;obtain⟨m,t,p,_⟩:=I.list N;obtain⟨f,B,G,_⟩:=I.list o;by_cases F:m.length=f.length
   .have w:=u6 (A:=X.A) p.isList G.isList (by simpa using F) (by omega) (λj C E=>by
     have z:=Ce I l c P R m f X.A.in1 r i t B (by show X.A.units+1+xm l+xm c<cLine;omega) j (by simpa using C) (by simpa using E);simpa using z)
    rw[Dr (by rw[vC r,t.length];simp) (by rw[vC i,B.length,<- F];simp)]at w;exact w X.prog X.w X.xe _ (wu I q O)
   .have e:D9 l c=δ:=Ib (by rw[vC r,vC i,t.length,B.length];exact F);rw[show pk (.a3 l) (.a3 c)=δ from e]at q;exact tS p.isList G.isList (by simpa using F) (by omega) X.prog X.w X.xe _ (wu I q O)
  |_=>exact nomatch hd
 |_=>exact nomatch hd
end
inductive A8:List Expr->bF->Prop
 |nil:A8 [] []
 |cons {x:Str} {j:Nat} {pos:Pos} {es:List Expr} {vs:bF} (h:A8 es vs):A8 (.Constant (.str x) j pos::es) (.str x::vs)
def yn(h:n<=1000):n<=aI:=iC (BP h)
def vS.new(x:vS H a)(c:a p=U)(o:HO):vS H (eg a p o):=λb u e=>by have z:=x b u e;rw[vH (ym z c)];exact z
structure QB(K:av)(x qual:Str)(st:Stmt)(f:Addr)(fd:cp)(T:Addr):Prop where
 ex:∃(oc:ab) (od:Option Addr) (kV doc pm:ab) (an:Option Addr) (cdv ct:ab) (osl:Array (Option ab)),
  fd=fE x qual (zb st) (wJ st) (vY st) (.ref T) kV doc pm an cdv ct/\K.lookup f=Z #v[oc,od,.func fd,osl]/\iJ K cdv qual=γ
 kp:eD K (.ref f)=γ
section
variable{P:aL}{w:aC}{K:av}{mg:Str->Option ab}{a5:Heap}
theorem QB.ok{st:Stmt}(F:QB K x qual st f d T)(S:yA N ps (vY st))(len:∀a H Q E,b a H Q E->a.length=ps.length)
  (hbody:∀(cdv:ab) (A:aQ) (b3:List Env) (s:ae) (H:Hp) (a:bF) (Q:VK) (E:XK),xX k (A.deeper (envOfC qual (vY st) s.heap.objs.size f cdv))->b a H Q E->
   ∃t,mw (LN zE P w K mg a5 N qual (vY st) f cdv A b3 s H E).nox (wJ st) t/\t { nx:=λy c=>Q .O c,rt:=Q } (L2.start N a) H):zA P w K mg a5 zE (k+1) f d ps b:=by
 obtain⟨l,m,kV,doc,pm,i,cdv,j,osl,rfl,lk,hcd⟩:=F.ex;refine Ya lk hcd S len λA b3 s H a Q E e hsp=>?_;obtain⟨t,h,q⟩:=hbody cdv A b3 s H a Q E e hsp;exact#v[t,h.nox,q]
end
theorem QB.n?{K:av}{st:Stmt}{e:aE}{d:List ab}(F:QB K x qual st f i T)(p:K.lookup T=Z o)(q:o.data=.seq items n)
  (h:∀(kV doc pm:ab) (b:Option Addr) (cdv c:ab) (a:List ab),a.length=e.length - d.length->∃k,bindArgs (fE x qual (zb st) (wJ st) (vY st) (.ref T) kV doc pm b cdv c) #v[a,[]]=seqItems? (.ref T)>>=k/\k (Z items)=pure (e.zip (a++d))):j1 K i e d:=by
 obtain⟨r,t,kV,doc,pm,b,cdv,c,osl,rfl,lk,hcd⟩:=F.ex;intro s a KX m;obtain⟨k,j,l⟩:=h kV doc pm b cdv c a (by rw[aA]at m;omega);exact BindsTo.of_defaults O (KX _ _ p) q j l
section
variable{X:Cx}
def NK:gi X (cG .Mult) (λx y H Q=>∃z n,x=.str z/\y=.int n/\MulOk z n/\Q (.str (fC z n)) H):=by intro a s i H x y v u Q I c d h;obtain⟨z,n,rfl,rfl,b,q⟩:=h;obtain⟨t,rfl⟩:=c;obtain⟨f,rfl⟩:=d;exact SB.mul b λe k=>#v[.str _,H,I.rl _,#v[e,O],q]
theorem Ef:∀(tk:Nat) (a:aE),cm (a.map V.str) (strValues (numbered tk a))
 |_,[]=>.nil
 |tk,x::r=>.cons #v[tk,O] (Ef (tk+1) r)
def Sm:MtR X "str.split" (λx vs H Q=>∃z y:Str,x=.str z/\vs=[.str y]/\(y.length==0)=δ/\z.length+2<=aI/\∀l,H l=U->Q (.ref l) (eg H l (.a3 ((cZ z y).map V.str)))):=by
 intro pins s σ H x vs v us Q I j i h;obtain⟨z,y,rfl,rfl,c,m,q⟩:=h;obtain⟨t,rfl⟩:=j;obtain⟨u,rfl,f⟩:=i.one;obtain⟨b,rfl⟩:=f;have hle:=qV z y;have itself:∀(e:cZ z y=[z]),EP X pins σ Q (.ref s.heap.objs.size) { s with heap:=s.heap.push { cls:=.type "list", data:=.seq [Value.str z t].toArray } }:=λe=>by have a:=q s.heap.objs.size (I.ew.fresh (aH _));rw[e]at a;exact#v[.ref _,_,I.lnew (t':=s.toks) (ys:=[V.str z]) (its:=[Value.str z t]) (.cons #v[t,O] .nil) (by show 1<=aI;decide),O,a]
 cases h1:(decide (z.length<y.length)||decide (pK z<pK y))
 .cases hf:(oY z y 0 z.length (z.length+1)).isEmpty
  .have e:cZ z y=uw z (oY z y 0 z.length (z.length+1)) y.length:=by unfold cZ;rw[h1,hf];rfl
   refine fV jV (jl _ _ _) mG (mf _ _) (meets_str_split_sep z y t b h1 c hf (by omega) (by rw[<-e];omega)) ?_;have a:=q s.heap.objs.size (I.ew.fresh (aH _));rw[<-e,strsFrom_eq];exact#v[.ref _,_,I.lnew (Ef s.toks (cZ z y)) (by rw[af];omega),O,a]
  .refine fV jV (jl _ _ _) mG (mf _ _) (meets_str_split_not_found z y t b h1 c hf) (itself ?_);unfold cZ;rw[h1,hf];rfl
 .refine fV jV (jl _ _ _) mG (mf _ _) (meets_str_split_cannot_occur z y t b h1) (itself ?_);unfold cZ;rw[h1];rfl
end
section
variable{X:Cx}(K:av)
set_option r "L6 RM VF;V5 Zh Zi" in def ϑ0(a:PE X l b)(hK:X.K=K:=by rfl):PI X c l (ϑ1 K b):=by subst hK;exact ϑ2 a
def V6(b:X.l0=γ)(h:Ls X a t)(c:autoParam ((de a X.a4).length=n) zA0._auto_1)(hst:autoParam ((de a X.a4).findIdx? (·.1)=U) zA0._auto_1)(hK:autoParam (X.K=K) zA0._auto_1):PG X (.Tuple a k pos) (Zd K n t):=by subst hK;exact Ze b h c hst
variable{o e:Expr}{es:List Expr}{to:TE}{t:TA}{name:Str}{apos cpos:Pos}{T id:String}{r:V->bF->Hp->VK->Prop}
def NM(f:ko T)(slot:Slot T name id)(hty:typeOf (.builtin id)=pure (.type "method_descriptor"))(b:MtR X id r)(c:PE X o to)(a:PA X (e::es) t)
  (hbase:autoParam (fi o name X.a4 (eval o X.a4)=eval o X.a4) zA0._auto_1)
  (hfew:autoParam (((bO cpos (aF (e::es) X.a4)).all (λx=>!x.1)&&(backToKw cpos (dQ [] X.a4)).all (λx=>x.1.isSome)
   && decide ((e::es).length+([]:List eF).length+(if ([]:List eF).isEmpty then 0 else 1)<30))=γ) zA0._auto_1)
  (hline:autoParam ((apos.endLine==cpos.line)=γ) zA0._auto_1) (d:autoParam (aF (e::es) X.a4=(δ,eval e X.a4)::aF es X.a4) zA0._auto_1) (hplain:autoParam ((bO cpos (aF es X.a4)).any (·.1)=δ) zA0._auto_1) (hK:autoParam (X.K=K) zA0._auto_1):
  PE X (.Call (.Attribute o name apos) (e::es) [] cpos) (tBM K T r to t):=by subst hK;exact adz f slot hty b c a hbase hfew hline d hplain
end
end L3
namespace L2
open PySem PySem.Spec PyProof.Rows
section
variable{X:Cx}{pins:cN}{σ:St}{H:Hp}{s:ae}
def BR(e:H a=Z u)(q:H c=Z v)(d:u≠v)(n:HO):eg H a n c=Z v:=by rw[vH (λz=>by subst z;rw[e]at q;exact d (cX q))];exact q
def bt.qq(I:bt X pins σ H s)(e:H a=Z (.dK kvs)):∃o,bt X pins σ (eg H a (.mi o (.dK kvs))) s:=by
 obtain⟨z,y,P,r,f,F,E,l,c⟩:=(show eo X.prog X.w H s.heap a (.dK kvs) from I.ew a _ e);refine#v[f,?_];have j:=I.step (H':=eg H a (.mi f (.dK kvs))) (h':=s.heap) (g':=s.gens) (d':=s.drawn) (t':=s.toks) (ch:=[]) (λ_ z=>nomatch z) (λb o _ _ _ q _=>q) (λb o _ _ _ q _=>#v[o.slots,q])
  (λb o _ _ n=>by rw[vH (λz=>by subst z;rw[e]at n;cases n)];exact n) (λb o _ q=>#v[o,q]) (λb p q=>BR e q (λz=>nomatch z) _) (λb o u q=>BR e q (λz=>nomatch z) _)
  (λb M q=>#v[#[],by rw[BR e q (λz=>nomatch z) _];simp]) (λm q=>q) ?_ I.j0
 .obtain⟨h,g,d,t,os⟩:=s;exact j
 .intro b u q;have st:∀{b:Addr} {u:HO},eo X.prog X.w H s.heap b u->eo X.prog X.w (eg H a (.mi f (.dK kvs))) s.heap b u:=λ{b u} x=>x.Rr (λ_ _ _ q=>q) (λc q=>BR e q (λz=>nomatch z) _) λc p q=>BR e q (λz=>nomatch z) _
  by_cases i:b=a
  .subst i;rw[vE]at q;cases q;exact#v[l,st (I.ew b _ e)]
  .rw[vH i]at q;exact st (I.ew b u q)
def PE.ν(h:PE X e t):PE X e (λσ H Q=>t σ H λx b=>Q x b\/∃a kvs,b a=Z (.dK kvs)/\∀o,Q x (eg b a (.mi o (.dK kvs)))):=λpins s σ H Q I i=>
 e0 (h pins s σ H _ I i) λu l #v[x,b,c,d,j]=>by
  rcases j with q|⟨a,kvs,e,q⟩
  .exact#v[x,b,c,d,q]
  .obtain⟨o,f⟩:=c.qq e;exact#v[x,_,f,d,q o]
end
end L2
namespace L4
open PySem PySem.Spec PyProof.Rows L2 L3
abbrev St:=L2.St
inductive D where
 |O|X (b:Bool)|int (i:Int)|str (x:Str)
 |a7 (ds:List D)|a3 (ds:List D)
 |mn (ds:List D)
 |obj (c:Nat) (ns:aE) (ds:List D)
 |Y (ks:List d?) (ds:List D)
 |η (ks:List (List d?)) (ds:List D)
abbrev bp:=List D
structure Bg where
 K:av
 ca:Nat->Addr
 hs:List d?->Int
def isO(a:Addr)(o:Obj):Heap->Prop:=λh=>h.get? a=Z o
structure DtE(hs:List d?->Int)(o:Obj)(qs:List (List d?×Addr×ab)):Prop where
 ex:o.ExactDict
 da:∃es ep,o.data=.dict es ep/\es.toList=qs.map λq=>#v[hs q.1,.ref q.2.1,q.2.2]
 nd:(qs.map (·.1)).Nodup
 sz:qs.length<=1000
def DtO(G:Bg)(H:Hp)(a:Addr)(c:List (List d?))(d:bF):Prop:=∃(o:Obj) (b:List (List d?×Addr×ab)),H a=Z (.ext (isO a o))/\(a==dy)=δ/\DtE G.hs o b/\b.map (·.1)=c/\(∀q∈b,e8 G.K H q.2.1 (q.1.map kV))/\cm d (b.map (·.2.2))
mutual
def cb(G:Bg)(H:Hp):D->V->Prop
 |.O,v=>v=.O
 |.X b,v=>v=.X b
 |.int i,v=>v=.int i
 |.str x,v=>v=.str x
 |.a7 e,v=>∃a d,v=.ref a/\e8 G.K H a d/\a6 G H e d
 |.a3 e,v=>∃a d,v=.ref a/\H a=Z (.a3 d)/\a6 G H e d
 |.mn e,v=>∃a d,v=.ref a/\fb G.K H a d/\a6 G H e d
 |.obj c h e,v=>∃a j d,v=.ref a/\H a=Z (.k0 (G.ca c) j (h.zip d))/\h.length=d.length/\a6 G H e d
 |.Y f e,v=>∃a o d,v=.ref a/\H a=Z (.mi o (.dK (f.zip d)))/\f.length=d.length/\a6 G H e d
 |.η f e,v=>∃a d,v=.ref a/\DtO G H a f d/\a6 G H e d
def a6(G:Bg)(H:Hp):bp->bF->Prop
 |[],a=>a=[]
 |d::b,a=>∃v r,a=v::r/\cb G H d v/\a6 G H b r
end
def e8.mono{K:av}{H b:Hp}{a:Addr}{c:bF}(e:vS H b)(h:e8 K H a c):e8 K b a c:=by
 rcases h with (h|⟨o,h⟩)|h
 .exact .inl (.inl (e _ _ h))
 .exact .inl (.inr #v[o,e _ _ h])
 .exact .inr h
theorem DtO.mono{G:Bg}{H b:Hp}{a:Addr}{ks:List (List d?)}{c:bF}(e:vS H b)(h:DtO G H a ks c):DtO G b a ks c:=by obtain⟨o,r,d,f,i,j,l,m⟩:=h;exact#v[o,r,e _ _ d,f,i,j,λq p=>e8.mono e (l q p),m]
mutual
theorem cb.mono{G:Bg}{H q:Hp}(e:vS H q):∀(d:D) (v:V),cb G H d v->cb G q d v
 |.O,v,h=>by unfold cb at h ⊢;exact h
 |.X b,v,h=>by unfold cb at h ⊢;exact h
 |.int i,v,h=>by unfold cb at h ⊢;exact h
 |.str x,v,h=>by unfold cb at h ⊢;exact h
 |.a7 j,v,h=>by obtain⟨a,f,rfl,l,m⟩:=h;exact#v[a,f,O,e8.mono e l,a6.mono e j f m]
 |.a3 j,v,h=>by obtain⟨a,f,rfl,l,m⟩:=h;exact#v[a,f,O,e _ _ l,a6.mono e j f m]
 |.mn j,v,h=>by obtain⟨a,f,rfl,l,m⟩:=h;exact#v[a,f,O,e.seq l,a6.mono e j f m]
 |.obj c u j,v,h=>by obtain⟨a,r,f,rfl,l,m,p⟩:=h;exact#v[a,r,f,O,e _ _ l,m,a6.mono e j f p]
 |.Y t j,v,h=>by obtain⟨a,o,f,rfl,l,m,p⟩:=h;exact#v[a,o,f,O,e _ _ l,m,a6.mono e j f p]
 |.η t j,v,h=>by obtain⟨a,f,rfl,l,m⟩:=h;exact#v[a,f,O,l.mono e,a6.mono e j f m]
theorem a6.mono{G:Bg}{H c:Hp}(e:vS H c):∀(a:bp) (b:bF),a6 G H a b->a6 G c a b
 |[],b,h=>by unfold a6 at h ⊢;exact h
 |d::a,b,h=>by obtain⟨v,r,rfl,f,i⟩:=h;exact#v[v,r,O,cb.mono e d v f,a6.mono e a r i]
end
section
variable{G:Bg}{H:Hp}
def wj:a6 G H [] []:=by unfold a6;rfl
def wB{d:D}{v:V}{b:bp}{a:bF}(h:cb G H d v)(r:a6 G H b a):a6 G H (d::b) (v::a):=by unfold a6;exact#v[v,a,O,h,r]
theorem vC:∀{b:bp} {a:bF},a6 G H b a->b.length=a.length
 |[],a,h=>by unfold a6 at h;subst h;rfl
 |d::b,a,h=>by obtain⟨v,r,rfl,_,c⟩:=h;rw[aS,aS,vC c]
theorem xp:∀{e a:bp} {b c:bF},a6 G H e b->a6 G H a c->a6 G H (e++a) (b++c)
 |[],a,b,c,h,f=>by unfold a6 at h;subst h;exact f
 |d::e,a,b,c,h,f=>by obtain⟨v,r,rfl,i,j⟩:=h;exact wB i (xp j f)
theorem AE:∀{b:bp} {a:bF} {i:Nat} {d:D},a6 G H b a->b[i]?=Z d->∃v,a[i]?=Z v/\cb G H d v
 |[],a,i,d,h,e=>by simp at e
 |j::b,a,i,d,h,e=>by
  obtain⟨v,r,rfl,c,f⟩:=h;cases i with
  |zero=>simp at e;subst e;exact#v[v,O,c]
  |succ i=>simpa using AE f (by simpa using e)
theorem F9:∀{ds:bp} {a:bF} (n:Nat),a6 G H ds a->a6 G H (ds.drop n) (a.drop n)
 |ds,a,0,h=>h
 |[],a,n+1,h=>by unfold a6 at h;subst h;exact wj
 |d::ds,a,n+1,h=>by obtain⟨v,r,rfl,c,b⟩:=h;exact F9 n b
theorem Ga:∀{ds:bp} {a:bF} (n:Nat),a6 G H ds a->a6 G H (ds.take n) (a.take n)
 |ds,a,0,h=>wj
 |[],a,n+1,h=>by unfold a6 at h;subst h;exact wj
 |d::ds,a,n+1,h=>by obtain⟨v,r,rfl,b,c⟩:=h;exact wB b (Ga n c)
def A9{a:Addr}{b:bF}{c:bp}(h:e8 G.K H a b)(r:a6 G H c b):cb G H (.a7 c) (.ref a):=by unfold cb;exact#v[a,b,O,h,r]
def DX{a:Addr}{b:bF}{c:bp}(h:H a=Z (.a3 b))(r:a6 G H c b):cb G H (.a3 c) (.ref a):=by unfold cb;exact#v[a,b,O,h,r]
set_option r "xN Int int;yh Bool X;Ac Str str" in def ϑ0(i:ϑ1):cb G H (.ϑ2 i) (.ϑ2 i):=by unfold cb;rfl
def Ad:cb G H .O .O:=by unfold cb;rfl
end
inductive Sl where
 |un
 |I (d:D)
 |ls (ds:bp)
 |pm (ds:bp)
 |dk (ks:List d?) (ds:bp)
 |ob (c:Nat) (ns:aE) (ds:bp)
abbrev bh:=List Sl
def Sl.fh:Sl->Bool
 |.ls _=>γ
 |.pm _=>γ
 |.dk _ _=>γ
 |.ob _ _ _=>γ
 |_=>δ
structure Fr where
 B0:Hp
 B:Hp
 A:List Addr
def Ew(G:Bg)(F:Fr)(e H:Hp)(o:Option V):Sl->Prop
 |.un=>True
 |.I d=>∃v,o=Z v/\cb G e d v
 |.ls f=>∃a b,o=Z (.ref a)/\H a=Z (.a3 b)/\e a=U/\F.B a=U/\a6 G e f b
 |.pm f=>∃a b,o=Z (.ref a)/\H a=Z (.a3 b)/\e a=U/\a∈F.A/\a6 G e f b
 |.dk h f=>∃a b,o=Z (.ref a)/\H a=Z (.dK (h.zip b))/\e a=U/\F.B a=U/\h.length=b.length/\a6 G e f b
 |.ob c i f=>∃a j b,o=Z (.ref a)/\H a=Z (.k0 (G.ca c) j (i.zip b))/\e a=U/\a∈F.A/\i.length=b.length/\a6 G e f b
structure b0(G:Bg)(F:Fr)(σ:St)(ρ:bh)(H0 H:Hp):Prop where
 sub:vS H0 H
 g0:vS F.B0 H0
 keep:∀b o,F.B b=Z o->b∉F.A->H b=Z o
 fr:∀b o,H0 b=Z o->F.B0 b=Z o\/F.B b=U
 am:∀a∈F.A,∃o,H a=Z o
 len:σ.length=ρ.length
 sl:∀(i:Nat) (s:Sl),ρ[i]?=Z s->Ew G F H0 H (σ[i]?).join s
 ap:∀(i j:Nat) (s t:Sl) (a:Addr),i≠j->ρ[i]?=Z s->ρ[j]?=Z t->s.fh=γ->t.fh=γ->(σ[i]?).join=Z (.ref a)->(σ[j]?).join=Z (.ref a)->False
theorem Ew.at{G:Bg}{F:Fr}{p H:Hp}{o:Option V}{s:Sl}(h:Ew G F p H o s)(e:s.fh=γ):∃a u,o=Z (.ref a)/\H a=Z u/\p a=U/\(F.B a=U\/a∈F.A):=by
 cases s with
 |un=>cases e
 |I d=>cases e
 |ls l=>obtain⟨a,m,b,f,i,j,_⟩:=h;exact#v[a,_,b,f,i,.inl j]
 |pm l=>obtain⟨a,m,b,f,i,j,_⟩:=h;exact#v[a,_,b,f,i,.inr j]
 |dk r l=>obtain⟨a,m,b,f,i,j,_⟩:=h;exact#v[a,_,b,f,i,.inl j]
 |ob c t l=>obtain⟨a,q,m,b,f,i,j,_⟩:=h;exact#v[a,_,b,f,i,.inr j]
def Ew.f5{G:Bg}{F:Fr}{t H f y:Hp}{o:Option V}{s:Sl}(h:Ew G F t H o s)(p:vS t f)(q:∀a u,o=Z (.ref a)->s.fh=γ->H a=Z u->y a=Z u)
  (r:∀a u,o=Z (.ref a)->s.fh=γ->H a=Z u->t a=U->f a=U):Ew G F f y o s:=by
 cases s with
 |un=>trivial
 |I d=>obtain⟨v,b,e⟩:=h;exact#v[v,b,cb.mono p _ _ e]
 |ls w=>obtain⟨a,m,b,e,i,j,l⟩:=h;exact#v[a,m,b,q _ _ b O e,r _ _ b O e i,j,a6.mono p _ _ l]
 |pm w=>obtain⟨a,m,b,e,i,j,l⟩:=h;exact#v[a,m,b,q _ _ b O e,r _ _ b O e i,j,a6.mono p _ _ l]
 |dk A w=>obtain⟨a,m,b,e,i,j,l,x⟩:=h;exact#v[a,m,b,q _ _ b O e,r _ _ b O e i,j,l,a6.mono p _ _ x]
 |ob c B w=>obtain⟨a,z,m,b,e,i,j,l,x⟩:=h;exact#v[a,z,m,b,q _ _ b O e,r _ _ b O e i,j,l,a6.mono p _ _ x]
section
variable{G:Bg}{F:Fr}{σ:St}{ρ:bh}{H0 H H0' H':Hp}
theorem b0.fm(R:b0 G F σ ρ H0 H){b:Addr}(h:H b=U):F.B b=U:=by
 cases e:F.B b with
 |none=>rfl
 |some o=>
  by_cases a:b∈F.A
  .obtain⟨c,q⟩:=R.am b a;rw[q]at h;cases h
  .have q:=R.keep b o e a;rw[q]at h;cases h
theorem b0.f5(R:b0 G F σ ρ H0 H)(hs:vS H H')(h0:vS H0 H0')(sub':vS H0' H')(hf:∀b o,H0' b=Z o->H0 b=Z o\/H b=U):b0 G F σ ρ H0' H' where
 sub:=sub'
 g0:=R.g0.t h0
 keep:=λb o e n=>hs _ _ (R.keep b o e n)
 fr:=λb o e=>by
  rcases hf b o e with q|q
  .exact R.fr b o q
  .exact .inr (R.fm q)
 am:=λa ha=>let #v[xs,q]:=R.am a ha;#v[xs,hs _ _ q]
 len:=R.len
 sl:=λi s e=>(R.sl i s e).f5 h0 (λa u x x q=>hs _ _ q) λa u x x q q0=>by
  cases z:H0' a with
  |none=>rfl
  |some o=>
   rcases hf a o z with y|y
   .rw[y]at q0;cases q0
   .rw[y]at q;cases q
 ap:=R.ap
def vK{H:Hp}{p:Addr}(a:H p=U)(o:HO):vS H (eg H p o):=vS.new (vS.refl H) a o
def b0.ef(R:b0 G F σ ρ H0 H){p:Addr}(a:H p=U):H0 p=U:=by
 cases e:H0 p with
 |none=>rfl
 |some o=>have:=R.sub _ _ e;rw[this]at a;cases a
def Sn{H0 H:Hp}(s:vS H0 H)(p:Addr)(o:HO):vS (eg H0 p o) (eg H p o):=λb u e=>by
 by_cases a:b=p
 .subst a;rw[vE]at e ⊢;exact e
 .rw[vH a]at e ⊢;exact s _ _ e
def b0.rh(R:b0 G F σ ρ H0 H){p:Addr}(a:H p=U)(o:HO):b0 G F σ ρ (eg H0 p o) (eg H p o):=
 R.f5 (vK a o) (vK (R.ef a) o) (Sn R.sub p o) λb u e=>by
  by_cases c:b=p
  .subst c;exact .inr a
  .rw[vH c]at e;exact .inl e
def b0.ff(R:b0 G F σ ρ H0 H){p:Addr}(a:H p=U)(o:HO):b0 G F σ ρ H0 (eg H p o):=
 R.f5 (vK a o) (vS.refl _) (λb u e=>by rw[vH (ym (R.sub _ _ e) a)];exact R.sub _ _ e) λb u e=>.inl e
def ri(σ:St)(ρ:bh)(p:Addr):Prop:=∀(i:Nat) (s:Sl),ρ[i]?=Z s->s.fh=γ->(σ[i]?).join≠Z (.ref p)
def b0.apart(R:b0 G F σ ρ H0 H){p:Addr}(d:H p=U):ri σ ρ p:=λi s e so z=>by obtain⟨a,u,b,c,_⟩:=(R.sl i s e).at so;rw[z]at b;cases b;rw[d]at c;cases c
theorem b0.qq(R:b0 G F σ ρ H0 H){p:Addr}{o:HO}(d:H p=Z o)(h0:H0 p=U)(hb:F.B p=U)(ap:ri σ ρ p):b0 G F σ ρ (eg H0 p o) H where
 sub:=λb u e=>by
  by_cases hb:b=p
  .subst hb;rw[vE]at e;cases e;exact d
  .rw[vH hb]at e;exact R.sub _ _ e
 g0:=R.g0.t (vK h0 o)
 keep:=R.keep
 fr:=λb u e=>by
  by_cases c:b=p
  .subst c;exact .inr hb
  .rw[vH c]at e;exact R.fr _ _ e
 am:=R.am
 len:=R.len
 sl:=λi s e=>(R.sl i s e).f5 (vK h0 o) (λa u x x q=>q) λa u z so q q0=>by rw[vH (λy=>ap i s e so (by rw[z,y]))];exact q0
 ap:=R.ap
def L7{σ:St}{i j:Nat}{v:Option V}(a:i<σ.length):((σ.set i v)[j]?).join=if j=i then v else (σ[j]?).join:=by
 rw[cE];by_cases h:i=j
 .subst h;simp[a]
 .rw[ak h,ak (λz=>h z.symm)]
set_option h true
theorem b0.set(R:b0 G F σ ρ H0 H){i:Nat}{v:V}{s:Sl}(hs:Ew G F H0 H (Z v) s)(ap:s.fh=γ->∀a,v=.ref a->∀(j:Nat) (t:Sl),j≠i->ρ[j]?=Z t->t.fh=γ->(σ[j]?).join≠Z (.ref a)):
  b0 G F (σ.set i (Z v)) (ρ.set i s) H0 H where
 sub:=R.sub
 g0:=R.g0
 keep:=R.keep
 fr:=R.fr
 am:=R.am
 len:=by rw[gB,gB,R.len]
 sl:=λj t e=>by
  rw[cE]at e;by_cases h:i=j
  .subst h;rw[aj O]at e;split at e
   .rename_i hi;cases e;rw[L7 (by rw[R.len];exact hi),aj O];exact hs
   .cases e
  .rw[ak h]at e;have A:=R.sl j t e;rw[cE,ak h];exact A
 ap:=λj k t u a hjk q f p tk b vk=>by
  have n3:∀{m:Nat} {x:Sl},(ρ.set i s)[m]?=Z x->m≠i->ρ[m]?=Z x/\((σ.set i (Z v))[m]?).join=(σ[m]?).join:=λ{m x} e hm=>by rw[cE,ak (λz=>hm z.symm)]at e;exact#v[e,by rw[cE,ak (λz=>hm z.symm)]]
  have self:∀{x:Sl},(ρ.set i s)[i]?=Z x->x=s/\((σ.set i (Z v))[i]?).join=Z v:=λ{x} e=>by
   rw[cE,aj O]at e;split at e
   .rename_i hi;cases e;exact#v[O,by rw[L7 (by rw[R.len];exact hi),aj O]]
   .cases e
  by_cases o:j=i
  .subst o;obtain⟨rfl,l⟩:=self q;rw[l]at b;cases b;obtain⟨c,d⟩:=n3 f (λz=>hjk z.symm);rw[d]at vk;exact ap p a O k u (λz=>hjk z.symm) c tk vk
  .obtain⟨c,d⟩:=n3 q o;by_cases r:k=i
   .subst r;obtain⟨rfl,l⟩:=self f;rw[l]at vk;cases vk;rw[d]at b;exact ap tk a O j t o c p b
   .obtain⟨w,y⟩:=n3 f r;rw[d]at b;rw[y]at vk;exact R.ap j k t u a hjk c w p tk b vk
set_option h false
def b0.setIm(R:b0 G F σ ρ H0 H)(i:Nat){v:V}{d:D}(h:cb G H0 d v):b0 G F (σ.set i (Z v)) (ρ.set i (.I d)) H0 H:=R.set #v[v,O,h] λz=>by cases z
theorem b0.setLs(R:b0 G F σ ρ H0 H)(i:Nat){p:Addr}{b:bF}{c:bp}(o:H p=Z (.a3 b))(l:H0 p=U)(m:F.B p=U)(d:ri σ ρ p)(h:a6 G H0 c b):b0 G F (σ.set i (Z (.ref p))) (ρ.set i (.ls c)) H0 H:=
 R.set #v[p,b,O,o,l,m,h] λy a e j t y f q=>by cases e;exact d j t f q
def b0.mut(R:b0 G F σ ρ H0 H){i:Nat}{a:Addr}{s c:Sl}{o:HO}(hi:ρ[i]?=Z s)(so:s.fh=γ)(ha:(σ[i]?).join=Z (.ref a))(ok:∀H',H' a=Z o->Ew G F H0 H' (Z (.ref a)) c)
  (J:c.fh=γ):b0 G F σ (ρ.set i c) H0 (eg H a o):=by
 obtain⟨P,u,d,Q,f,l⟩:=(R.sl i s hi).at so;rw[ha]at d;cases d;exact {
  sub:=λb w e=>by rw[vH (λz=>by rw[z,f]at e;cases e)];exact R.sub _ _ e
  g0:=R.g0
  keep:=λb w e n=>by
   have C:b≠a:=λz=>by
    subst z;rcases l with q|q
    .rw[q]at e;cases e
    .exact n q
   rw[vH C];exact R.keep b w e n
  fr:=R.fr
  am:=λb hb=>by
   by_cases z:b=a
   .subst z;exact#v[o,vE]
   .rw[vH z];exact R.am b hb
  len:=by rw[gB];exact R.len
  sl:=λj t e=>by
   rw[cE]at e;by_cases h:i=j
   .subst h;rw[aj O]at e;split at e
    .cases e;rw[ha];exact ok _ vE
    .cases e
   .rw[ak h]at e;refine(R.sl j t e).f5 (vS.refl _) (λb w z to q=>?_) λb w _ _ _ q=>q;rw[vH (λy=>by subst y;exact R.ap j i t s b (λy=>h y.symm) e hi to so z ha)];exact q
  ap:=λj k t u b hjk p r M tk N vk=>by
   have n3:∀{m:Nat} {x:Sl},(ρ.set i c)[m]?=Z x->∃y,ρ[m]?=Z y/\(x.fh=γ->y.fh=γ):=λ{m x} e=>by
    rw[cE]at e;by_cases h:i=m
    .subst h;exact#v[s,hi,λ_=>so]
    .rw[ak h]at e;exact#v[x,e,λq=>q]
   obtain⟨y,A,E⟩:=n3 p;obtain⟨z,B,I⟩:=n3 r;exact R.ap j k y z b hjk A B (E M) (I tk) N vk }
end
set_option r "E D;T Bool;A bp" in abbrev Fϑ0:=bh->Option (ϑ1×bh)
inductive ItF(G:Bg) (f:FE) (σ:St) (H:Hp) (Q:VK):Prop
 |i (F ρ H0 d ρ') (h0:b0 G F σ ρ H0 H) (h1:f ρ=Z (d,ρ')) (h2:∀v H0' H',vS H0 H0'->b0 G F σ ρ' H0' H'->cb G H0' d v->Q v H'):ItF G f σ H Q
def tF(G:Bg)(f:FE):TE:=λa H Q=>ItF G f a H Q
inductive ItFT(G:Bg) (f:FT) (σ:St) (H:Hp) (Q:(Bool->Hp->Prop)):Prop
 |i (F ρ H0 d ρ') (h0:b0 G F σ ρ H0 H) (h1:f ρ=Z (d,ρ')) (h2:∀H0' H',vS H0 H0'->b0 G F σ ρ' H0' H'->Q d H'):ItFT G f σ H Q
def k?(G:Bg)(f:FT):TT:=λa H Q=>ItFT G f a H Q
inductive ItFA(G:Bg) (f:FA) (σ:St) (H:Hp) (Q:(bF->Hp->Prop)):Prop
 |i (F ρ H0 ds ρ') (h0:b0 G F σ ρ H0 H) (h1:f ρ=Z (ds,ρ')) (h2:∀xs H0' H',vS H0 H0'->b0 G F σ ρ' H0' H'->a6 G H0' ds xs->Q xs H'):ItFA G f σ H Q
def q?(G:Bg)(f:FA):TA:=λa H Q=>ItFA G f a H Q
inductive ItFN(G:Bg) (f:FA) (σ:St) (H:Hp) (Q:VK):Prop
 |i (F ρ H0 ds ρ') (h0:b0 G F σ ρ H0 H) (h1:f ρ=Z (ds,ρ')) (h2:∀p xs H0' H',vS H0 H0'->b0 G F σ ρ' H0' H'->H' p=Z (.a3 xs)->H0' p=U->F.B p=U->ri σ ρ' p->a6 G H0' ds xs->Q (.ref p) H'):ItFN G f σ H Q
def tH(G:Bg)(f:FA):TE:=λa H Q=>ItFN G f a H Q
set_option r "E;T" in def Pϑ0.b4(h:Pϑ0 X e t)(w:∀b H Q,d b H Q->t b H Q):Pϑ0 X e d:=λa s b H Q I c=>h a s b H Q I (w _ _ _ c)
set_option r "W f;A pos" in def Pϑ0.b4(h:Pϑ0 X e t)(w:∀b H Q,d b H Q->t b H Q):Pϑ0 X e d:=λϑ1 a s b H Q I c=>h ϑ1 a s b H Q I (w _ _ _ c)
noncomputable def cC(d:D):FE:=λa=>Z (d,a)
noncomputable def cV(i:Nat):FE:=λa=>match a[i]? with
 |some (.I d)=>Z (d,a)
 |_=>U
noncomputable def c1(g:D->Option D) (f:FE):FE:=λb=>match f b with
 |some (d,a)=>match g d with
  |some x=>Z (x,a)
  |none=>U
 |none=>U
noncomputable def c2(g:D->D->Option D) (f c:FE):FE:=λd=>match f d with
 |some (x,a)=>match c a with
  |some (y,b)=>match g x y with
   |some z=>Z (z,b)
   |none=>U
  |none=>U
 |none=>U
def DY(h:c1 g f c=Z (z,b)):∃d,f c=Z (d,b)/\g d=Z z:=by
 unfold c1 at h;cases e:f c with
 |none=>rw[e]at h;cases h
 |some p=>
  obtain⟨d,i⟩:=p;rw[e]at h;cases a:g d with
  |none=>simp only[a]at h;cases h
  |some x=>simp only[a]at h;cases h;exact#v[d,O,a]
def E8(h:c2 g f i j=Z (z,d)):∃x y a,f j=Z (x,a)/\i a=Z (y,d)/\g x y=Z z:=by
 unfold c2 at h;cases e:f j with
 |none=>rw[e]at h;cases h
 |some p=>
  obtain⟨x,a⟩:=p;simp only[e]at h;cases b:i a with
  |none=>simp only[b]at h;cases h
  |some q=>
   obtain⟨y,l⟩:=q;simp only[b]at h;cases c:g x y with
   |none=>simp only[c]at h;cases h
   |some w=>simp only[c]at h;cases h;exact#v[x,y,a,O,b,c]
section
variable{X:Cx}{G:Bg}
set_option r "So int int RE xN;adG bool X ac3 yh;Z4 str str RF Ac" in def ϑ0{i j pos}:PE X (.Constant (.ϑ1 i) j pos) (tF G (cC (.ϑ2 i))):=PE.b4 ϑ3 λf H Q h=>by obtain⟨F,c,b,d,a,R,e,k⟩:=h;cases e;exact k _ _ _ (vS.refl _) R (ϑ4 i)
def Z5{j pos}:PE X (.Constant .none j pos) (tF G (cC .O)):=PE.b4 Y5 λf H Q h=>by obtain⟨F,c,b,d,a,R,e,k⟩:=h;cases e;exact k _ _ _ (vS.refl _) R Ad
set_option h true
def V7(h:cV i b=Z (d,a)):b[i]?=Z (.I d)/\a=b:=by
 unfold cV at h;split at h
 .rename_i e;cases h;exact#v[e,O]
 .cases h
set_option h false
def zN{a:Type}{o:Option (Option a)}{v:a}(h:o.join=Z v):o=Z (Z v):=by
 cases o with
 |none=>cases h
 |some u=>cases u with
  |none=>cases h
  |some w=>cases h;rfl
def NN(h:PE X e (Et i)):PE X e (tF G (cV i)):=PE.b4 h λo H Q f=>by obtain⟨F,m,l,d,j,R,e,k⟩:=f;obtain⟨a,rfl⟩:=V7 e;obtain⟨v,b,c⟩:=R.sl i _ a;exact#v[v,zN b,k _ _ _ (vS.refl _) R c]
def V8(h:PE X e (tC v))(r:∀H,cb G H d v):PE X e (tF G (cC d)):=PE.b4 h λj H Q a=>by obtain⟨F,i,c,f,b,R,e,k⟩:=a;cases e;exact k _ _ _ (vS.refl _) R (r _)
def i1(G:Bg)(r:R2)(g:D->D->Option D):Prop:=∀x y z b H v u (Q:VK),g x y=Z z->vS b H->cb G b x v->cb G b y u->(∀w,(∀a,vS b a->cb G a z w)->Q w H)->r v u H Q
def OT(C:i1 G r g):∀h H Q,tF G (c2 g f A) h H Q->tOp r (tF G f) (tF G A) h H Q:=λh H Q B=>by obtain⟨F,N,l,d,c,R,e,k⟩:=B;obtain⟨x,y,b,q,t,z⟩:=E8 e;refine#v[F,N,l,x,b,R,q,λv m o M p I=>#v[F,b,m,y,c,p,t,λu i a j R2 J=>?_]];exact C x y d i a v u Q z R2.sub (cb.mono j _ _ I) J λw E=>k w i a (M.t j) R2 (E _ (vS.refl _))
def adH(i:gi X (cG j) r)(h:i1 G r g)(d:PE X a (tF G f))(e:PE X b (tF G c)):PE X (.BinOp a j b pos) (tF G (c2 g f c)):=PE.b4 (OI i d e) (OT h)
def Z6(l:gi X (bC c) r)(j:i1 G r g)(e:PE X a (tF G f))(h:PE X b (tF G d))(i:gG c b=δ):PE X (.Compare a [c] [b] pos) (tF G (c2 g f d)):=PE.b4 (VL l e h i) (OT j)
def adI(i:τ X r)(h:i1 G r g)(d:PE X a (tF G f))(e:PE X b (tF G c))(j:OR b):PE X (.Subscript a b pos) (tF G (c2 g f c)):=PE.b4 (adu i d e j) (OT h)
def cT(f:FE):FT:=λc=>match f c with
 |some (.X b,a)=>Z (b,a)
 |_=>U
set_option h true
def OU(h:cT f c=Z (b,a)):f c=Z (.X b,a):=by
 unfold cT at h;split at h
 .rename_i e;cases h;exact e
 .cases h
set_option h false
def OV:∀b H Q,k? G (cT f) b H Q->RQ (tF G f) b H Q:=λb H Q j=>by obtain⟨F,l,c,d,a,R,e,k⟩:=j;refine#v[F,l,c,_,a,R,OU e,λv h m s i r=>?_];exact#v[d,r,k _ _ s i]
def V9(u:gi X (bC h) r)(t:i1 G r g)(m:PE X a (tF G f))(o:PE X b (tF G l))(q:gG h b=δ):
  PT X (.Compare a [h] [b] pos) (k? G (cT (c2 g f l))):=PT.b4 (VM u m o q) λi H Q p=>by
 obtain⟨F,w,j,d,c,R,e,k⟩:=OV i H Q p;exact OT t i H _ #v[F,w,j,d,c,R,e,k]
def Wa(h:PE X e (tF G f))(j:autoParam (∀whole,isTrue e X.a4 whole=(do let v<-whole;standAt e.pos;holding [v] (truthy v))) zA3._auto_1):PT X e (k? G (cT f)):=PT.b4 (Y6 h j) λp H Q l=>by obtain⟨F,m,b,d,a,R,e,k⟩:=l;refine#v[F,m,b,_,a,R,OU e,λv c o s i r=>?_];exact#v[d,r,k _ _ s i]
def w9(f:FT):FT:=λc=>match f c with
 |some (b,a)=>Z (!b,a)
 |none=>U
set_option r "E γ;C δ" in def xϑ0(f g:FT):FT:=λb=>match f b with
 |some (ϑ1,a)=>g a
 |r=>r
def Wb(h:PT X a (k? G f)):PT X (.UnaryOp .Not a pos) (k? G (w9 f)):=PT.b4 (Y9 h) λu H Q o=>by
 obtain⟨F,i,j,d,q,R,e,k⟩:=o;unfold w9 at e;cases c:f i with
 |none=>simp only[c]at e;cases e
 |some p=>obtain⟨b,r⟩:=p;simp only[c]at e;cases e;exact#v[F,i,j,b,_,R,c,λl t s m=>k _ _ s m]
def Z7:∀m H Q,k? G (xE f g) m H Q->tAnd (k? G f) (k? G g) m H Q:=λm H Q t=>by
 obtain⟨F,j,o,d,l,R,e,k⟩:=t;unfold xE at e;cases c:f j with
 |none=>simp only[c]at e;cases e
 |some p=>
  obtain⟨b,h⟩:=p;cases b with
  |true=>simp only[c]at e;exact#v[F,j,o,γ,h,R,c,λa q s i=>KG #v[F,h,a,d,l,i,e,λw r u R2=>k _ _ (s.t u) R2]]
  |false=>simp only[c]at e;cases e;exact#v[F,j,o,δ,_,R,c,λa q s i=>KF (k _ _ s i)]
def adJ:∀m H Q,k? G (xC f g) m H Q->θ (k? G f) (k? G g) m H Q:=λm H Q t=>by
 obtain⟨F,j,o,d,l,R,e,k⟩:=t;unfold xC at e;cases c:f j with
 |none=>simp only[c]at e;cases e
 |some p=>
  obtain⟨b,h⟩:=p;cases b with
  |false=>simp only[c]at e;exact#v[F,j,o,δ,h,R,c,λa q s i=>KF #v[F,h,a,d,l,i,e,λw r u R2=>k _ _ (s.t u) R2]]
  |true=>simp only[c]at e;cases e;exact#v[F,j,o,γ,_,R,c,λa q s i=>KG (k _ _ s i)]
set_option r "Sq And VB;Wc Or Y7" in def ϑ0(h:PT X a (k? G f)):PW X (.BoolOp .ϑ1 [a] pos) (k? G f):=ϑ2 h
set_option r "We And E Y8 Z7;Sr Or C ac5 adJ" in def ϑ0{et:List Expr}(c:PT X a (k? G f))(d:PW X (.BoolOp .ϑ1 (b::et) pos) (k? G g)):PW X (.BoolOp .ϑ1 (a::b::et) pos) (k? G (xϑ2 f g)):=PW.b4 (ϑ3 c d) ϑ4
set_option r "wM γ δ;H4 δ γ" in def ϑ0(f g:FE):FE:=λb=>match f b with
 |some (.X ϑ1,a)=>g a
 |some (.X ϑ2,a)=>Z (.X ϑ2,a)
 |_=>U
def Ht(f:FE):FE:=λc=>match f c with
 |some (.X b,a)=>Z (.X !b,a)
 |_=>U
def mq(c:FT)(f g:FE):FE:=λb=>match c b with
 |some (γ,a)=>f a
 |some (δ,a)=>g a
 |none=>U
def Z8{b}(h:PE X a (tF G f)):PE X (.BoolOp b [a] pos) (tF G f):=Za h
def L8{f:FE}{ρ:bh}:(∃a,f ρ=Z (.X γ,a))\/(∃a,f ρ=Z (.X δ,a))\/(∀b a,f ρ≠Z (.X b,a)):=by
 by_cases c:∃a,f ρ=Z (.X γ,a)
 .exact .inl c
 by_cases d:∃a,f ρ=Z (.X δ,a)
 .exact .inr (.inl d)
 refine .inr (.inr λb a z=>?_);cases b with
 |true=>exact c #v[a,z]
 |false=>exact d #v[a,z]
set_option h true
set_option r "QC wM;Ss H4" in def ϑ0(h:∀b a,f ρ≠Z (.X b,a)):ϑ1 f g ρ=U:=by
 unfold ϑ1;split
 .rename_i e;exact ar e (h _ _)
 .rename_i e;exact ar e (h _ _)
 .rfl
set_option h false
def Z9{et:List Expr}(u:PE X a (tF G f))(w:PE X (.BoolOp .And (b::et) pos) (tF G g)):PE X (.BoolOp .And (a::b::et) pos) (tF G (wM f g)):=PE.b4 (Zb u w) λC H Q x=>by
 obtain⟨F,i,p,d,o,R,e,k⟩:=x;rcases L8 (f:=f) (ρ:=i)with ⟨h,c⟩|⟨h,c⟩|c
 .have m:=by unfold wM at e;simp only[c]at e;exact e
  refine#v[F,i,p,_,h,R,c,λv q j s l r=>?_];refine#v[γ,r,?_];exact KG #v[F,h,q,d,o,l,m,λv B t A R2 z=>k _ _ _ (s.t A) R2 z]
 .have m:=by unfold wM at e;simp only[c]at e;exact e
  cases m;refine#v[F,i,p,_,_,R,c,λv q j s l r=>?_];have y:=r;refine#v[δ,y,?_];exact KF (k _ _ _ s l (yh δ))
 .rw[QC c]at e;cases e
def adK{et:List Expr}(u:PE X a (tF G f))(w:PE X (.BoolOp .Or (b::et) pos) (tF G g)):PE X (.BoolOp .Or (a::b::et) pos) (tF G (H4 f g)):=PE.b4 (ac8 u w) λB H Q x=>by
 obtain⟨F,i,p,d,o,R,e,k⟩:=x;rcases L8 (f:=f) (ρ:=i)with ⟨h,c⟩|⟨h,c⟩|c
 .have m:=by unfold H4 at e;simp only[c]at e;exact e
  cases m;refine#v[F,i,p,_,_,R,c,λv q j s l r=>?_];refine#v[γ,r,?_];exact KG (k _ _ _ s l (yh γ))
 .have m:=by unfold H4 at e;simp only[c]at e;exact e
  refine#v[F,i,p,_,h,R,c,λv q j s l r=>?_];refine#v[δ,r,?_];exact KF #v[F,h,q,d,o,l,m,λv A t z R2 y=>k _ _ _ (s.t z) R2 y]
 .rw[Ss c]at e;cases e
set_option h true
def aaa(l:PE X a (tF G f)):PE X (.UnaryOp .Not a pos) (tF G (Ht f)):=PE.b4 (Zc l) λu H Q m=>by
 obtain⟨F,o,c,d,p,R,e,k⟩:=m;unfold Ht at e;split at e
 .rename_i b q j;cases e;refine#v[F,o,c,_,_,R,j,λv t h s i r=>?_];exact#v[b,r,k _ _ _ s i (yh _)]
 .cases e
set_option h false
def adL(B:PT X c (k? G h))(z:PE X a (tF G f))(A:PE X b (tF G g)):PE X (.IfExp c a b pos) (tF G (mq h f g)):=PE.b4 (RG B z A) λE H Q C=>by
 obtain⟨F,u,w,d,j,R,e,k⟩:=C;unfold mq at e;cases l:h u with
 |none=>simp only[l]at e;cases e
 |some p=>
  obtain⟨b,i⟩:=p;refine#v[F,u,w,b,i,R,l,λr x s t=>?_];cases b with
  |true=>simp only[l]at e;exact KG #v[F,i,r,d,j,t,e,λv y m q R2 o=>k _ _ _ (s.t q) R2 o]
  |false=>simp only[l]at e;exact KF #v[F,i,r,d,j,t,e,λv y m q R2 o=>k _ _ _ (s.t q) R2 o]
noncomputable def vO:FA:=λa=>Z ([],a)
noncomputable def ax(f:FE) (g:FA):FA:=λe=>match f e with
 |some (d,a)=>match g a with
  |some (c,b)=>Z (d::c,b)
  |none=>U
 |none=>U
def NO(h:ax f g i=Z (j,c)):∃d r a,f i=Z (d,a)/\g a=Z (r,c)/\j=d::r:=by
 unfold ax at h;cases e:f i with
 |none=>rw[e]at h;cases h
 |some p=>
  obtain⟨x,a⟩:=p;simp only[e]at h;cases b:g a with
  |none=>simp only[b]at h;cases h
  |some q=>obtain⟨y,l⟩:=q;simp only[b]at h;cases h;exact#v[x,y,a,O,b,O]
def yB:PA X [] (q? G vO):=PA.b4 zz λh H Q a=>by obtain⟨F,f,c,d,b,R,e,k⟩:=a;cases e;exact k _ _ _ (vS.refl _) R wj
def xy(t:PE X e (tF G f))(w:PA X b (q? G g))(y:autoParam (aF (e::b) X.a4=(δ,eval e X.a4)::aF b X.a4) zA0._auto_1):PA X (e::b) (q? G (ax f g)):=PA.b4 (xA t w y) λE H Q u=>by obtain⟨F,A,i,d,c,R,e,k⟩:=u;obtain⟨x,r,a,p,q,rfl⟩:=NO e;exact#v[F,A,i,x,a,R,p,λv j l s o z=>#v[F,a,j,r,c,o,q,λC B m h R2 rs=>k _ _ _ (s.t h) R2 (wB (cb.mono h _ _ z) rs)]]
def vM(g:FA):FE:=λc=>match g c with
 |some (b,a)=>if b.length<=1000 then Z (.a7 b,a)else U
 |none=>U
def vJ(g:FA):FA:=λc=>match g c with
 |some (b,a)=>if b.length<=1000 then Z (b,a)else U
 |none=>U
set_option h true
def aab{q}(h:PA X l (q? G g)):PE X (.Tuple l q pos) (tF G (vM g)):=PE.b4 (NB h) λy H Q m=>by
 obtain⟨F,f,i,d,r,R,e,k⟩:=m;unfold vM at e;cases b:g f with
 |none=>simp only[b]at e;cases e
 |some p=>
  obtain⟨w,t⟩:=p;simp only[b]at e;split at e
  .rename_i o;cases e;refine#v[F,f,i,_,_,R,b,λx u j s a rs=>#v[by rw[<-vC rs];exact yn o,λp c=>?_]];exact k _ _ _ (s.t (vK (a.ef c) _)) (a.rh c _) (A9 (e8.of vE) (a6.mono (vK (a.ef c) _) _ _ rs))
  .cases e
def Wf(h:PA X l (q? G g)):PE X (.List l pos) (tH G (vJ g)):=PE.b4 (RW h) λx H Q m=>by
 obtain⟨F,f,i,d,q,R,e,k⟩:=m;unfold vJ at e;cases c:g f with
 |none=>simp only[c]at e;cases e
 |some p=>
  obtain⟨u,r⟩:=p;simp only[c]at e;split at e
  .rename_i o;cases e;refine#v[F,f,i,_,_,R,c,λw t j s a rs=>#v[by rw[<-vC rs];exact yn o,λp b=>?_]];exact k _ _ _ _ s (a.ff b _) vE (a.ef b) (a.fm b) (a.apart b) rs
  .cases e
set_option h false
def cL(g:FA):FE:=λc=>match g c with
 |some (b,a)=>Z (.a3 b,a)
 |none=>U
def Wg(h:cL g c=Z (d,b)):∃a,g c=Z (a,b)/\d=.a3 a:=by
 unfold cL at h;cases e:g c with
 |none=>simp only[e]at h;cases h
 |some p=>obtain⟨a,f⟩:=p;simp only[e]at h;cases h;exact#v[a,O,O]
def tN_F:∀c H Q,tF G (cL g) c H Q->tH G g c H Q:=λc H Q q=>by obtain⟨F,t,f,d,b,R,e,k⟩:=q;obtain⟨l,m,rfl⟩:=Wg e;refine#v[F,t,f,l,b,R,m,λp w u h s i r a o j rs=>?_];exact k _ _ _ (s.t (vK a _)) (i.qq r a o j) (DX vE (a6.mono (vK a _) _ _ rs))
def aac(h:PE X e (tH G g)):PE X e (tF G (cL g)):=PE.b4 h tN_F
end
inductive B' where
 |nx (ρ:bh)|bk (ρ:bh)|ct (ρ:bh)
 |rt (d:D) (ρ:bh)
 |rn (ds:bp) (ρ:bh)
abbrev FS:=bh->Option B'
def OW(G:Bg)(F:Fr)(f:Hp)(E:E'):B'->Prop
 |.nx c=>∀b a e,vS f a->b0 G F b c a e->E.nx b e
 |.bk c=>∀b a e,vS f a->b0 G F b c a e->E.bk b e
 |.ct c=>∀b a e,vS f a->b0 G F b c a e->E.ct b e
 |.rt d c=>∀v b a e,vS f a->b0 G F b c a e->cb G a d v->E.rt v e
 |.rn i c=>∀p h b a e,vS f a->b0 G F b c a e->e p=Z (.a3 h)->a p=U->F.B p=U->ri b c p->a6 G a i h->E.rt (.ref p) e
inductive ItFS(G:Bg) (f:FS) (E:E') (σ:St) (H:Hp):Prop
 |i (F ρ H0 o) (h0:b0 G F σ ρ H0 H) (h1:f ρ=Z o) (h2:OW G F H0 E o) (h3:(∀p,E.rt p=E.rt p)):ItFS G f E σ H
def ki(G:Bg)(f:FS):TS:=λE a H=>ItFS G f E a H
def OW.A4(h:OW G F i E o)(s:vS i j):OW G F j E o:=by
 cases o with
 |nx f=>exact λb a c e R=>h b a c (s.t e) R
 |bk f=>exact λb a c e R=>h b a c (s.t e) R
 |ct f=>exact λb a c e R=>h b a c (s.t e) R
 |rt d f=>exact λv b a c e R=>h v b a c (s.t e) R
 |rn m f=>exact λp l b a c e R=>h p l b a c (s.t e) R
set_option r "PS;mw" in def ϑ0.b4(h:ϑ0 X e t)(w:∀E b H,d E b H->t E b H):ϑ0 X e d:=λa s b H D I c=>h a s b H D I (w _ _ _ c)
def vz:FS:=λa=>Z (.nx a)
noncomputable def a0(f g:FS):FS:=λb=>match f b with
 |some (.nx a)=>g a
 |r=>r
section
variable{X:Cx}{G:Bg}
def aad(h:ki G vz E a H):E.nx a H:=by obtain⟨F,c,b,o,R,e,k,_⟩:=h;cases e;exact k _ _ _ (vS.refl _) R
def Wh:mw X [] (ki G vz):=mw.b4 VC λE a H h=>aad h
def Su{st:Stmt}{et:List Stmt}(p:PS X st (ki G f))(q:mw X et (ki G g)):mw X (st::et) (ki G (a0 f g)):=mw.b4 (HM p q) λE w H h=>by
 obtain⟨F,i,j,o,R,e,k,c⟩:=h;unfold a0 at e;cases a:f i with
 |none=>simp only[a]at e;cases e
 |some r=>
  cases r with
  |nx b=>simp only[a]at e;exact#v[F,i,j,_,R,a,λt l u s m=>#v[F,b,l,o,m,e,k.A4 s,c],c]
  |bk b=>simp only[a]at e;cases e;exact#v[F,i,j,_,R,a,k,c]
  |ct b=>simp only[a]at e;cases e;exact#v[F,i,j,_,R,a,k,c]
  |rt d b=>simp only[a]at e;cases e;exact#v[F,i,j,_,R,a,k,c]
  |rn d b=>simp only[a]at e;cases e;exact#v[F,i,j,_,R,a,k,c]
def Wi{st:Stmt}(a:PS X st (ki G f)):mw X [st] (ki G f):=Kq a
noncomputable def vw(f:FE):FS:=λb=>match f b with
 |some (d,a)=>Z (.rt d a)
 |none=>U
noncomputable def wQ(f:FA):FS:=λb=>match f b with
 |some (d,a)=>Z (.rn d a)
 |none=>U
def wc{b:Type}{f:bh->Option (b×bh)}{ρ:bh}:f ρ=U\/∃d a,f ρ=Z (d,a):=by
 cases e:f ρ with
 |none=>exact .inl O
 |some p=>exact .inr #v[p.1,p.2,O]
def Wj(h:PE X e (tF G f)):PS X (.Return (Z e) pos) (ki G (vw f)):=PS.b4 (Nl h) λE t H m=>by
 obtain⟨F,b,i,o,R,e,k,q⟩:=m;unfold vw at e;rcases wc (f:=f) (ρ:=b)with a|⟨d,c,a⟩<;>simp only[a]at e
 .cases e
 .cases e;exact#v[F,b,i,d,c,R,a,λv j p s l r=>k _ _ _ _ s l r]
def Sv(h:PE X e (tH G f)):PS X (.Return (Z e) pos) (ki G (wQ f)):=PS.b4 (Nl h) λE A H w=>by
 obtain⟨F,b,i,o,R,e,k,y⟩:=w;unfold wQ at e;rcases wc (f:=f) (ρ:=b)with a|⟨d,c,a⟩<;>simp only[a]at e
 .cases e
 .cases e;exact#v[F,b,i,d,c,R,a,λp z j x s l m q r t u=>k _ _ _ _ _ s l m q r t u]
noncomputable def v8(f:FE):FS:=λb=>match f b with
 |some (_,a)=>Z (.nx a)
 |none=>U
def Sw{pos:Pos}(h:PE X e (tF G f))(p:autoParam (dR e U pos.line X.a4=pure δ) zA0._auto_1):PS X (.Expr e pos) (ki G (v8 f)):=PS.b4 (OE h p) λE u H m=>by
 obtain⟨F,b,i,o,R,e,k,t⟩:=m;unfold v8 at e;rcases wc (f:=f) (ρ:=b)with a|⟨d,c,a⟩<;>simp only[a]at e
 .cases e
 .cases e;exact#v[F,b,i,d,c,R,a,λv j q s l r=>k _ _ _ s l]
noncomputable def en(c:FT) (f g:FS):FS:=λb=>match c b with
 |some (γ,a)=>f a
 |some (δ,a)=>g a
 |none=>U
def aae(w:PT X c (k? G h))(t:mw X a (ki G f))(u:mw X b (ki G g)):PS X (.If c a b pos) (ki G (en h f g)):=PS.b4 (adb w t u) λE z H x=>by
 obtain⟨F,m,r,o,R,e,k,q⟩:=x;unfold en at e;rcases wc (f:=h) (ρ:=m)with l|⟨d,i,l⟩
 .simp only[l]at e;cases e
 .refine#v[F,m,r,d,i,R,l,λj y s p=>?_];cases d with
  |true=>simp only[l]at e;exact KG #v[F,i,j,o,p,e,k.A4 s,q]
  |false=>simp only[l]at e;exact KF #v[F,i,j,o,p,e,k.A4 s,q]
abbrev FG:=D->bh->Option bh
inductive ItFG(G:Bg) (n:Nat) (g:FG) (v:V) (σ:St) (H:Hp) (Q:(St->Hp->Prop)):Prop
 |i (F ρ H0 d ρ') (h0:b0 G F σ ρ H0 H) (h1:cb G H0 d v) (h2:g d ρ=Z ρ') (h3:∀σ',σ'.drop n=σ.drop n->b0 G F σ' ρ' H0 H->Q σ' H):ItFG G n g v σ H Q
def Z'(G:Bg)(n:Nat)(g:FG):TG:=λv a H Q=>ItFG G n g v a H Q
inductive Yl(G:Bg) (n:Nat) (g:bp->bh->Option bh) (vs:bF) (σ:St) (H:Hp) (Q:(St->Hp->Prop)):Prop
 |i (F ρ H0 ds ρ') (h0:b0 G F σ ρ H0 H) (h1:a6 G H0 ds vs) (h2:g ds ρ=Z ρ') (h3:∀σ',σ'.drop n=σ.drop n->b0 G F σ' ρ' H0 H->Q σ' H):Yl G n g vs σ H Q
def Sx(G:Bg)(n:Nat)(g:bp->bh->Option bh):TGs:=λa b H Q=>Yl G n g a b H Q
set_option r "PG;Ls" in def ϑ0.b4(h:ϑ0 X e t)(w:∀v b H Q,d v b H Q->t v b H Q):ϑ0 X e d:=λa s b H x u Q I r c=>h a s b H x u Q I r (w _ _ _ _ c)
def gN(i:Nat):FG:=λd a=>Z (a.set i (.I d))
def L9{a:Type}{l:List a}{i n:Nat}{x:a}(h:i<n):(l.set i x).drop n=l.drop n:=by apply mx;intro j;rw[eL,eL,cE,ak (by omega)]
def Sy(n:Nat)(h:PG X c (A2 i))(b:i<n):PG X c (Z' G n (gN i)):=PG.b4 h λv m H Q a=>by obtain⟨F,l,j,d,f,R,r,e,k⟩:=a;cases e;exact k _ (L9 b) (R.setIm i r)
def Dg:bp->bh->Option bh:=λa b=>match a with
 |[]=>Z b
 |_=>U
def wx(g:FG)(c:bp->bh->Option bh):bp->bh->Option bh:=λb e=>match b with
 |d::r=>match g d e with
  |some a=>c r a
  |none=>U
 |[]=>U
def Wk(h:Ls X [] gNil):Ls X [] (Sx G n Dg):=Ls.b4 h λv j H Q b=>by
 obtain⟨F,i,f,a,c,R,r,e,k⟩:=b;cases a with
 |nil=>cases e;unfold a6 at r;exact#v[r,k _ O R]
 |cons d a=>cases e
def SA(h:Ls X (e::p) (X5 (Z' G n g) (Sx G n q))):Ls X (e::p) (Sx G n (wx g q)):=Ls.b4 h λv B H Q t=>by
 obtain⟨F,l,j,c,i,R,r,e,k⟩:=t;cases c with
 |nil=>cases e
 |cons d c=>
  obtain⟨z,x,rfl,u,w⟩:=r;unfold wx at e;cases f:g d l with
  |none=>simp only[f]at e;cases e
  |some a=>simp only[f]at e;exact#v[z,x,O,F,l,j,d,a,R,u,f,λA s o=>#v[F,a,j,c,i,o,w,e,λm y b=>k _ (y.t s) b]]
def gT(b:bp->bh->Option bh)(n:Nat):FG:=λd c=>match d with
 |.a7 a=>if a.length=n then b a c else U
 |_=>U
set_option h true
def Wl(h:PG X (.Tuple j k pos) (Zd G.K m (Sx G n l))):PG X (.Tuple j k pos) (Z' G n (gT l m)):=PG.b4 h λv w H Q p=>by
 obtain⟨F,u,f,d,b,R,r,e,k⟩:=p;cases d with
 |a7 i=>
  unfold gT at e;simp only at e;split at e
  .rename_i q;obtain⟨a,t,rfl,o,c⟩:=r;exact#v[a,t,O,e8.mono R.sub o,by rw[<-vC c];exact q,F,u,f,i,b,R,c,e,k]
  .cases e
 |_=>cases e
set_option h false
def E9(f:FE)(g:FG):FS:=λc=>match f c with
 |some (d,a)=>match g d a with
  |some b=>Z (.nx b)
  |none=>U
 |none=>U
def Wm{st:Stmt}(h:PS X st (EY (tF G f) (Z' G n g))):PS X st (ki G (E9 f g)):=PS.b4 h λE x H q=>by
 obtain⟨F,j,m,o,R,e,k,w⟩:=q;unfold E9 at e;rcases wc (f:=f) (ρ:=j)with c|⟨d,a,c⟩<;>simp only[c]at e
 .cases e
 .cases i:g d a with
  |none=>simp only[i]at e;cases e
  |some l=>simp only[i]at e;cases e;exact#v[F,j,m,d,a,R,c,λv b u s p r=>#v[F,a,b,d,l,p,r,i,λt y R2=>k _ _ _ s R2]]
def vI(i:Nat)(f:FE):FS:=λb=>match f b with
 |some (d,a)=>Z (.nx (a.set i (.I d)))
 |none=>U
def OX{st:Stmt}(h:PS X st (EY (tF G f) (A2 i))):PS X st (ki G (vI i f)):=PS.b4 h λE u H p=>by
 obtain⟨F,b,j,o,R,e,k,t⟩:=p;unfold vI at e;rcases wc (f:=f) (ρ:=b)with a|⟨d,c,a⟩<;>simp only[a]at e
 .cases e
 .cases e;exact#v[F,b,j,d,c,R,a,λv l q s m r=>k _ _ _ s (m.setIm i r)]
def ya(i:Nat)(f:FA):FS:=λb=>match f b with
 |some (d,a)=>Z (.nx (a.set i (.ls d)))
 |none=>U
def Ma{st:Stmt}(h:PS X st (EY (tH G f) (A2 i))):PS X st (ki G (ya i f)):=PS.b4 h λE B H x=>by
 obtain⟨F,b,j,o,R,e,k,z⟩:=x;unfold ya at e;rcases wc (f:=f) (ρ:=b)with a|⟨d,c,a⟩<;>simp only[a]at e
 .cases e
 .cases e;exact#v[F,b,j,d,c,R,a,λp A l y s m q r t u w=>k _ _ _ s (m.setLs i q r t u w)]
def y0(n:Nat)(a:bp):bh:=a.map Sl.I++eZ (n - a.length) .un
def dr(b n:Nat)(f:FS):bp->Option D:=λa=>if a.length=b then match f (y0 n a)with
 |some (.rt d _)=>Z d
 |some (.rn a _)=>Z (.a3 a)
 |some (.nx _)=>Z .O
 |_=>U
 else U
def qi(b n:Nat)(f:FS):bp->Option bp:=λa=>if a.length=b then match f (y0 n a)with
 |some (.rn a _)=>Z a
 |_=>U
 else U
inductive IspF(G:Bg) (g:bp->Option D) (vs:bF) (H:Hp) (Q:VK) (_x3:XK):Prop
 |i (H0 ds d) (h0:vS H0 H) (h1:a6 G H0 ds vs) (h2:g ds=Z d) (h3:∀v H0' H',vS H0 H0'->vS H0' H'->vS H H'->(∀b o,H0' b=Z o->H0 b=Z o\/H b=U)->cb G H0' d v->Q v H'):IspF G g vs H Q _x3
def eb(G:Bg)(g:bp->Option D):Sp:=λa H Q _x3=>IspF G g a H Q _x3
inductive IspN(G:Bg) (g:bp->Option bp) (vs:bF) (H:Hp) (Q:VK) (_x3:XK):Prop
 |i (H0 ds d) (h0:vS H0 H) (h1:a6 G H0 ds vs) (h2:g ds=Z d) (h3:∀p xs H0' H',vS H0 H0'->vS H0' H'->vS H H'->(∀b o,H0' b=Z o->H0 b=Z o\/H b=U)->H p=U->H' p=Z (.a3 xs)->H0' p=U->a6 G H0' d xs->Q (.ref p) H'):IspN G g vs H Q _x3
def pw(G:Bg)(g:bp->Option bp):Sp:=λa H Q _x3=>IspN G g a H Q _x3
def KI{n:Nat}{b:bp}{i:Nat}{s:Sl}(h:(y0 n b)[i]?=Z s):s=.un\/∃d,b[i]?=Z d/\s=.I d:=by
 unfold y0 at h;by_cases a:i<b.length
 .rw[gb (by simpa using a),bq,aP a]at h;cases h;exact .inr #v[_,aP a,O]
 .rw[f9 (by simpa using a),jD]at h;split at h
  .cases h;exact .inl O
  .cases h
def Gb{N:aE}{a:bF}{i:Nat}{v:V}(h:a[i]?=Z v):((L2.start N a)[i]?).join=Z v:=by unfold L2.start;have b:=(cj.1 h).1;rw[gb (by simpa using b),bq,h];rfl
def JQ{N:aE}(s:vS H0 H)(r:a6 G H0 ds vs)(p:vs.length<=N.length):b0 G #v[H0,H,[]] (L2.start N vs) (y0 N.length ds) H0 H where
 sub:=s
 g0:=vS.refl _
 keep:=λb o e y=>e
 fr:=λb o e=>.inl e
 am:=λa h=>by cases h
 len:=by unfold L2.start y0;rw[aA,aA,af,af,c6,c6,vC r]
 sl:=λi t e=>by
  rcases KI e with rfl|⟨d,c,rfl⟩
  .trivial
  .obtain⟨v,f,l⟩:=AE r c;exact#v[v,Gb f,l]
 ap:=λi j t u a y e y m=>by rcases KI e with rfl|⟨d,_,rfl⟩<;>cases m
set_option h true
def Mb(h:dr j n f b=Z d):b.length=j/\((∃a,f (y0 n b)=Z (.rt d a))\/(∃c a,f (y0 n b)=Z (.rn c a)/\d=.a3 c)\/∃a,f (y0 n b)=Z (.nx a)/\d=.O):=by
 unfold dr at h;split at h
 .rename_i i;refine#v[i,?_];split at h
  .rename_i e;cases h;exact .inl #v[_,e]
  .rename_i e;cases h;exact .inr (.inl #v[_,_,e,O])
  .rename_i e;cases h;exact .inr (.inr #v[_,e,O])
  .cases h
 .cases h
def Mc(h:qi c n f a=Z d):a.length=c/\∃i,f (y0 n a)=Z (.rn d i):=by
 unfold qi at h;split at h
 .rename_i b;refine#v[b,?_];split at h
  .rename_i e;cases h;exact#v[_,e]
  .cases h
 .cases h
end
set_option h false
def Wn{N:aE}(hN:I<=N.length)(h:eb G (dr I N.length f) M H Q E):ki G f { nx:=λn c=>Q .O c,rt:=Q } (L2.start N M) H:=by
 obtain⟨l,P,d,s,r,e,k⟩:=h;obtain⟨C,A⟩:=Mb e;clear e;have R:=JQ s r (by rw[<-vC r,C];exact hN);have fin:∀{j:St} {x:bh} {a c:Hp},b0 G #v[l,H,[]] j x a c->vS H c/\vS a c/\∀b o,a b=Z o->l b=Z o\/H b=U:=λi=>#v[λb o e=>i.keep b o e (by simp),i.sub,i.fr];rcases A with ⟨y,e⟩|⟨S,y,e,rfl⟩|⟨y,e,rfl⟩
 .refine#v[_,_,l,_,R,e,λv j a c u i J=>?_,λn=>O];obtain⟨m,q,t⟩:=fin i;exact k v a c u q m t J
 .refine#v[_,_,l,_,R,e,λp T j a c u i F w B z rs=>?_,λn=>O];have R2:=i.qq F w B z;obtain⟨m,q,t⟩:=fin R2;exact k _ _ c (u.t (vK w _)) q m t (DX vE (a6.mono (vK w _) _ _ rs))
 .refine#v[_,_,l,_,R,e,λj a c u i=>?_,λn=>O];obtain⟨m,q,t⟩:=fin i;exact k _ a c u q m t Ad
def Wp{N:aE}(hN:u<=N.length)(h:pw G (qi u N.length f) x H Q E):ki G f { nx:=λn a=>Q .O a,rt:=Q } (L2.start N x) H:=by obtain⟨j,B,d,s,r,e,k⟩:=h;obtain⟨q,C,e⟩:=Mc e;have R:=JQ s r (by rw[<-vC r,q];exact hN);refine#v[_,_,j,_,R,e,λp y z c a w i t l m A rs=>?_,λn=>O];exact k p y c a w i.sub (λb o e=>i.keep b o e (by simp)) i.fr m t l rs
set_option r "R eb;S pw" in def adϑ0(c:∀a d,g a=Z d->a.length=f):∀b H Q E,ϑ1 G g b H Q E->b.length=f:=λb H Q E h=>by obtain⟨i,a,d,_,r,e,_⟩:=h;rw[<-vC r];exact c _ _ e
set_option r "q dr b;r qi c" in def Wϑ0:∀a d,ϑ1 b n f a=Z d->a.length=b:=λy y h=>(Mϑ2 h).1
def Gc{c:Type}(g:bp->Option c)(a:FA):bh->Option (c×bh):=λf=>match a f with
 |some (e,b)=>match g e with
  |some d=>Z (d,b)
  |none=>U
 |none=>U
abbrev vq(g:bp->Option D)(a:FA):FE:=Gc g a
abbrev wm(g:bp->Option bp)(a:FA):FA:=Gc g a
def Ex{j:Type}{g:bp->Option j}{a:FA}{ρ c:bh}{d:j}(h:Gc g a ρ=Z (d,c)):∃b,a ρ=Z (b,c)/\g b=Z d:=by
 unfold Gc at h;rcases wc (f:=a) (ρ:=ρ)with e|⟨b,l,e⟩<;>simp only[e]at h
 .cases h
 .cases i:g b with
  |none=>simp only[i]at h;cases h
  |some x=>simp only[i]at h;cases h;exact#v[b,e,i]
section
variable{X:Cx}{G:Bg}
def Wt(hd:∀H,a6 G H dds dvs):∀h H Q,tF G (vq (λb=>g (b++dds)) a) h H Q->HR (eb G g) dvs E (q? G a) h H Q:=λh H Q t=>by obtain⟨F,y,l,d,f,R,e,k⟩:=t;obtain⟨b,q,r⟩:=Ex e;refine#v[F,y,l,b,f,R,q,λz m o s i rs=>#v[m,b++dds,d,i.sub,xp rs (hd _),r,λv p c j w x fr u=>?_]];exact k v p c (s.t j) (i.f5 x j w fr) u
def Wu(hd:∀H,a6 G H dds dvs):∀i H Q,tH G (wm (λc=>g (c++dds)) a) i H Q->HR (pw G g) dvs E (q? G a) i H Q:=λi H Q x=>by obtain⟨F,I,m,d,h,R,e,k⟩:=x;obtain⟨c,t,u⟩:=Ex e;refine#v[F,I,m,c,h,R,t,λJ o q s b rs=>#v[o,c++dds,d,b.sub,xp rs (hd _),u,λp C r f l A B fr j y w z=>?_]];exact k p C r f (s.t l) (b.f5 B l A fr) y w (b.fm j) (b.apart j) z
end
section
variable{X:Cx}{G:Bg}
set_option r "Wv eb F vq t;SC pw H wm u" in def ϑ0(hd:∀H,a6 G H dds dvs)(h:PE X e (HR (ϑ1 G g) dvs E (q? G a))):PE X e (tϑ2 G (ϑ3 (λb=>g (b++dds)) a)):=PE.b4 h (Wϑ4 hd)
def QD(h:PE X e (HR (pw G g) [] E Jp)):PE X e (tH G (wm g vO)):=PE.b4 h λA H Q o=>by obtain⟨F,z,f,d,x,R,e,k⟩:=o;obtain⟨y,j,l⟩:=Ex e;cases j;exact#v[f,[],d,R.sub,wj,l,λp w i a c t u fr b q m r=>k p w i a c (R.f5 u c t fr) q m (R.fm b) (R.apart b) r]
def QE:aE->bp->Str->Option D
 |n::b,d::a,f=>if n=f then Z d else QE b a f
 |_,_,_=>U
theorem JR:∀{h:aE} {b:bp} {a:bF} {f:Str} {d:D},a6 G H b a->QE h b f=Z d->∃v,(h.zip a).lookup f=Z v/\cb G H d v
 |[],b,a,f,d,r,e=>by simp[QE]at e
 |n::h,[],a,f,d,r,e=>by simp[QE]at e
 |n::h,p::b,a,f,d,r,e=>by
  obtain⟨v,q,rfl,l,m⟩:=r;unfold QE at e;by_cases c:n=f
  .rw[aj c]at e;cases e;subst c;exact#v[v,by simp[dP],l]
  .rw[ak c]at e;obtain⟨w,i,j⟩:=JR m e;refine#v[w,?_,j];have o:=beq_eq_false_iff_ne.2 λz=>c z.symm;simp only[fM,dP,o];exact i
def vA(ok:Nat->Bool)(f:Str):D->Option D
 |.obj c b a=>if ok c=γ then QE b a f else U
 |_=>U
set_option h true
def SD(A:PE X e (tF G t))(j:∀c,ok c=γ->I' X.K (G.ca c)/\Br X.K (G.ca c) f)(z:autoParam (fi e f X.a4 (eval e X.a4)=eval e X.a4) zA0._auto_1):PE X (.Attribute e f pos) (tF G (c1 (vA ok f) t)):=PE.b4 (Zw A z) λT H Q B=>by
 obtain⟨F,I,m,d,h,R,e,k⟩:=B;obtain⟨x,q,b⟩:=DY e;cases x with
 |obj c P M=>
  unfold vA at b;simp only at b;split at b
  .rename_i l;refine#v[F,I,m,_,h,R,q,λv J o s i r=>?_];obtain⟨a,p,S,rfl,u,N,y⟩:=r;obtain⟨w,C,E⟩:=JR y b;exact#v[a,_,p,_,w,O,i.sub _ _ u,(j c l).1,(j c l).2,C,k _ _ _ s i E]
  .cases b
 |_=>cases b
set_option h false
def MOk(X:Cx)(C:Addr)(m:Str)(d:Sp)(dvs:bF)(E:XK):Prop:=∃(k:Nat) (f:Addr) (b:cp) (c:aE) (a:List ab),I' X.K C/\Meth X.K C m f/\zA X.prog X.w X.K X.mg X.a5 zE k f b c d/\xX k X.A/\j1 X.K b c a/\cm dvs a/\nj zE X E
def vR(g:Nat->Option (bp->Option D))(m:Str)(f:FE)(a:FA):FE:=λo=>match f o with
 |some (.obj c i j,b)=>match g c with
  |some h=>if i.contains m=γ then U else match a b with
   |some (l,e)=>match h (.obj c i j::l)with
    |some d=>Z (d,e)
    |none=>U
   |none=>U
  |none=>U
 |_=>U
set_option h true
def Ig(h:vR g m f a ρ=Z (d,t)):
  ∃c e i b l j,f ρ=Z (.obj c e i,b)/\g c=Z l/\e.contains m=δ/\a b=Z (j,t)/\l (.obj c e i::j)=Z d:=by
 unfold vR at h;split at h
 .rename_i c e i b u;cases o:g c with
  |none=>simp only[o]at h;cases h
  |some l=>
   simp only[o]at h;cases p:e.contains m with
   |true=>simp only[p,if_true]at h;cases h
   |false=>
    simp only[p,gp,if_false]at h;rcases wc (f:=a) (ρ:=b)with q|⟨j,w,q⟩<;>simp only[q]at h
    .cases h
    .cases r:l (.obj c e i::j)with
     |none=>simp only[r]at h;cases h
     |some x=>simp only[r]at h;cases h;exact#v[c,e,i,b,l,j,u,o,p,q,r]
 .cases h
set_option h false
theorem Ey:∀{a:aE} {b:bF},a.contains m=δ->(a.zip b).lookup m=U
 |[],b,h=>rfl
 |n::a,[],h=>rfl
 |n::a,x::b,h=>by rw[pV,lD]at h;simp only[fM,dP,h.1];exact Ey h.2
def SE(T:Addr->Sp->Prop)(hT:∀C d,T C d->MOk X C m d dvs E)(W:PE X o ta)(R:PA X (e::i) t)
  (hst:autoParam (aF (e::i) X.a4=(δ,eval e X.a4)::aF i X.a4) zA0._auto_1) (hpl:autoParam ((bO pos (aF i X.a4)).any (·.1)=δ) zA0._auto_1)
  (w:autoParam (eval (.Call (.Attribute o m apos) (e::i) [] pos) X.a4=(do
   let M<-eval o X.a4
   standAt apos.atName
   let (f,first)<-holding [M] (getMethod M m pl)
   callWith pos f first (bO pos (aF (e::i) X.a4)) (backToKw pos (dQ [] X.a4)))) zA0._auto_1):
  PE X (.Call (.Attribute o m apos) (e::i) [] pos) (λj H Q=>ta j H λx p=>∃a C B fs d,x=.ref a/\p a=Z (.k0 C B fs)/\T C d/\fs.lookup m=U/\t j p λvs y=>d (x::(vs++dvs)) y Q E):=by
 intro b s j H Q I h;refine qJ (e0 (W b s j H _ I h) λu s1 zz=>?_) w;obtain⟨x,p,z,rx,a,C,B,fs,d,P,N,w,l,q⟩:=zz;obtain⟨k,f,fd,ps,ds,c,J,F,Y,S,hd,hx⟩:=hT C d w;subst P;obtain rfl:u=Value.ref a:=rx;refine HQ z N c J l ?_;refine nJ I.ok.x?.kin J.kp (e0 (R pos b s1 j p _ z q) λus s2 #v[vs,y,A,r,q2]=>#v[A.la,?_]) hst hpl;exact Ks (vs:=.ref a::vs) F Y S hd hx A (.cons O r) q2
def QF(T:Addr->Sp->Prop)(hT:∀C b,T C b->MOk X C m b dvs E)(B:PE X o P)
  (j:autoParam (eval (.Call (.Attribute o m apos) [] [] pos) X.a4=(do
   let w<-eval o X.a4
   standAt apos.atName
   let (f,first)<-holding [w] (getMethod w m pl)
   callWith pos f first (bO pos (aF [] X.a4)) (backToKw pos (dQ [] X.a4)))) zA0._auto_1):
  PE X (.Call (.Attribute o m apos) [] [] pos) (λp H Q=>P p H λx e=>∃a C r fs b,x=.ref a/\e a=Z (.k0 C r fs)/\T C b/\fs.lookup m=U/\b (x::dvs) e Q E):=by
 intro d s p H Q I h;refine qJ (e0 (B d s p H _ I h) λu Y zz=>?_) j;obtain⟨x,e,i,N,a,C,r,fs,b,z,y,j,l,q⟩:=zz;obtain⟨k,f,S,W,R,c,t,F,J,A,hd,M⟩:=hT C b j;subst z;obtain rfl:u=Value.ref a:=N;refine HQ i y c t l ?_;exact ng i.la t.kp (Ks (vs:=[.ref a]) F J A hd M i (.cons O .nil) q)
def MT(G:Bg)(g:Nat->Option (bp->Option D)):Addr->Sp->Prop:=λC a=>∃c h,g c=Z h/\C=G.ca c/\a=eb G h
def Ww(h:PE X (.Call (.Attribute o m apos) (e::es) [] pos) (λz H Q=>tF G f z H λx j=>∃b C u fs I,x=.ref b/\j b=Z (.k0 C u fs)/\MT G g C I/\fs.lookup m=U/\q? G a z j λvs p=>I (x::(vs++[])) p Q E)):
  PE X (.Call (.Attribute o m apos) (e::es) [] pos) (tF G (vR g m f a)):=PE.b4 h λz H Q l=>by
 obtain⟨F,ρ,M,d,y,R,e,k⟩:=l;obtain⟨c,ns,ds,i,l,w,S,T,W,Y,e5⟩:=Ig e;refine#v[F,ρ,M,_,i,R,S,λv j N s A r=>?_];have r0:=r;obtain⟨b,u,xs,rfl,h1,h2,h3⟩:=r;refine#v[b,_,u,_,_,O,A.sub _ _ h1,#v[c,l,T,O,O],Ey W,F,i,j,w,y,A,Y,λys p q B R2 rs=>?_];show eb G l (V.ref b::(ys++[])) q Q E;rw[bZ];exact#v[p,_,d,R2.sub,wB (cb.mono B _ _ r0) rs,e5,λv P t J t2 t3 fr rv=>k v P t (s.t (B.t J)) (R2.f5 t3 J t2 fr) rv]
def SF(h:PE X (.Call (.Attribute o m apos) [] [] pos) (λu H Q=>tF G f u H λx a=>∃b C l fs q,x=.ref b/\a b=Z (.k0 C l fs)/\MT G g C q/\fs.lookup m=U/\q (x::[]) a Q E)):
  PE X (.Call (.Attribute o m apos) [] [] pos) (tF G (vR g m f vO)):=PE.b4 h λu H Q p=>by
 obtain⟨F,ρ,w,d,ρ',R,e,k⟩:=p;obtain⟨c,ns,ds,ρ1,p,N,A,B,I,J,M⟩:=Ig e;cases J;refine#v[F,ρ,w,_,_,R,A,λv a y s j r=>?_];have S:=r;obtain⟨b,l,xs,rfl,P,h2,h3⟩:=r;refine#v[b,_,l,_,_,O,j.sub _ _ P,#v[c,p,B,O,O],Ey I,?_];exact#v[a,_,d,j.sub,wB S wj,M,λv z i t W Y fr T=>k v z i (s.t t) (j.f5 Y t W fr) T]
inductive IspI(G:Bg) (c:Nat) (g:bp->Option (aE×bp)) (vs:bF) (H:Hp) (Q:VK) (_x3:XK):Prop
 |i (p dx:Addr) (us:bF) (H0:Hp) (ds:bp) (ns:aE) (es:bp) (h0:vs=.ref p::us) (h1:H p=Z (.k0 (G.ca c) dx [])) (h2:H0 p=U) (h3:vS H0 H) (h4:a6 G H0 ds us) (h5:g ds=Z (ns,es)) (h6:∀ys dx' H0' H',vS H0 H0'->vS H0' H'->(∀b o,H b=Z o->b≠p->H' b=Z o)->(∀b o,H0' b=Z o->H0 b=Z o\/H b=U)->H0' p=U->H' p=Z (.k0 (G.ca c) dx' (ns.zip ys))->ns.length=ys.length->a6 G H0' es ys->Q .O H'):IspI G c g vs H Q _x3
def spI(G:Bg)(c:Nat)(g:bp->Option (aE×bp)):Sp:=λa H Q _x3=>IspI G c g a H Q _x3
def wg(c:Nat)(g:bp->Option (aE×bp))(a:FA):FE:=λh=>match a h with
 |some (d,b)=>match g d with
  |some (f,e)=>Z (.obj c f e,b)
  |none=>U
 |none=>U
def Wx(hd:∀H,a6 G H dds dvs)(h:PE X e (X9 (G.ca c) (spI G c g) dvs E (q? G a))):PE X e (tF G (wg c (λm=>g (m++dds)) a)):=PE.b4 h λσ H Q hh=>by
 obtain⟨F,M,T,d,N,R,e,k⟩:=hh;unfold wg at e;rcases wc (f:=a) (ρ:=M)with y|⟨m,ρ1,y⟩<;>simp only[y]at e
 .cases e
 .cases A:g (m++dds)with
  |none=>simp only[A]at e;cases e
  |some q=>
   obtain⟨ns,es⟩:=q;simp only[A]at e;cases e;refine#v[F,M,T,m,N,R,y,λxs P j s l rs x r p hdx ne=>?_];have I:(eg j r (.fh x)) x=U:=by rw[vH (λz=>ne z.symm)];exact p
   have J:vS j (eg (eg j r (.fh x)) x (.k0 (G.ca c) r [])):=(vK hdx _).t (vK I _);refine#v[x,r,_,P,m++dds,ns,es,O,vE,l.ef p,l.sub.t J,xp rs (hd _),A,λys w W Y S t2 t3 fr C hp hl ry=>#v[O,?_]];have t4:=λb o e=>t3 b o (J b o e) (ym e p);have B:∀b o,W b=Z o->P b=Z o\/j b=U:=λb o e=>by
    rcases fr b o e with q|q
    .exact .inl q
    .cases z:j b with
     |none=>exact .inr O
     |some u=>rw[J b u z]at q;cases q
   have R2:=l.f5 t4 S t2 B;have hb:=l.fm p;have R3:=R2.qq hp C hb (λi t ei to z=>l.apart p i t ei to z);refine k _ _ _ (s.t (S.t (vK C _))) R3 ?_;exact#v[x,w,ys,O,vE,hl,a6.mono (vK C _) _ _ ry]
def wD(h:Nat)(i:Nat)(f:Str)(j:FE):FS:=λl=>match j l with
 |some (d,a)=>match a[i]? with
  |some (.ob c b e)=>if c=h then if b.contains f=γ then U else if e.length=b.length then if b.length<900 then Z (.nx (a.set i (.ob c (b++[f]) (e++[d]))))else U else U else U
  |_=>U
 |none=>U
theorem Mg:∀{a:aE} {b:bF},a.contains f=δ->a.length=b.length->BN f v (a.zip b)=(a++[f]).zip (b++[v])
 |[],[],h,l=>rfl
 |[],x::b,h,l=>by cases l
 |n::a,[],h,l=>by cases l
 |n::a,x::b,h,l=>by
  rw[pV,lD]at h;have c:¬n=f:=λz=>by rw[z]at h;simp at h
  have d:=Mg (v:=v) h.2 (by simpa using l);show BN f v ((n,x)::a.zip b)=_;rw[show BN f v ((n,x)::a.zip b)=(if n=f then (n,v)::a.zip b else (n,x)::BN f v (a.zip b)) from O,ak c,d];rfl
set_option h true
def WA{st:Stmt}(h:PS X st (sFld X.K (Et i) (tF G x) f))(y:I' X.K (G.ca p)/\Br X.K (G.ca p) f):PS X st (ki G (wD p i f x)):=PS.b4 h λE σ H M=>by
 obtain⟨F,j,z,o,R,e,k,k2⟩:=M;unfold wD at e;rcases wc (f:=x) (ρ:=j)with b|⟨d,l,b⟩<;>simp only[b]at e
 .cases e
 .split at e
  .rename_i c N T t;split at e
   .rename_i hcc;subst hcc;split at e
    .cases e
    rename_i hnc;split at e
    .rename_i Y;split at e
     .rename_i W;cases e;refine#v[F,j,z,d,l,R,b,λv S A s m r=>?_];obtain⟨a,q,P,u,B,C,I,w,J⟩:=m.sl i _ t;refine#v[_,zN u,a,_,q,_,O,B,y.1,y.2,by rw[iw];omega,?_];have hnf:N.contains f=δ:=by simpa using hnc
      rw[Mg hnf w];refine k _ _ _ s (m.mut t O u (λQ hH=>?_) O);exact#v[a,q,P++[v],O,hH,C,I,by rw[aA,aA,w];rfl,xp J (wB r wj)]
     .cases e
    .cases e
   .cases e
  .cases e
set_option h false
def stI(c n:Nat)(a:bp):bh:=.ob c [] []::y0 (n - 1) a
def rr(c h n:Nat)(f:FS):bp->Option (aE×bp):=λa=>if a.length=h then match f (stI c n a)with
 |some (.nx i)=>match (i:bh)[0]? with
  |some (Sl.ob e d b)=>if e=c then if d.length=b.length then Z (d,b)else U else U
  |_=>U
 |_=>U
 else U
set_option h true
def Ih(h:rr c m n f b=Z q):b.length=m/\∃a,f (stI c n b)=Z (.nx a)/\a[0]?=Z (.ob c q.1 q.2)/\q.1.length=q.2.length:=by
 unfold rr at h;split at h
 .rename_i l;refine#v[l,?_];split at h
  .rename_i a e;split at h
   .rename_i o r p d;split at h
    .rename_i j;split at h
     .rename_i i;subst j;cases h;exact#v[a,e,d,i]
     .cases h
    .cases h
   .cases h
  .cases h
 .cases h
set_option h false
def OY{N:aE}(hN:M+1<=N.length)(h:spI G c (rr c M N.length f) vs H Q E):ki G f { nx:=λ_ H'=>Q .O H',rt:=Q } (L2.start N vs) H:=by
 obtain⟨p,dx,us,H0,ds,ns,es,rfl,A,h0,s,r,e,k⟩:=h;obtain⟨Y,ρ,l,x,z⟩:=Ih e;have gets:∀{i:Nat} {t:Sl},(stI c N.length ds)[i]?=Z t->(i=0/\t=.ob c [] [])\/t=.un\/∃(j:Nat) (d:D),i=j+1/\ds[j]?=Z d/\t=.I d:=λ{i t} e=>by
  cases i with
  |zero=>cases e;exact .inl #v[O,O]
  |succ j=>
   have F:=e;rcases KI F with rfl|⟨d,l,rfl⟩
   .exact .inr (.inl O)
   .exact .inr (.inr #v[j,d,O,l,O])
 have R:b0 G #v[H0,H,[p]] (L2.start N (.ref p::us)) (stI c N.length ds) H0 H:={
  sub:=s
  g0:=vS.refl _
  keep:=λb o e _=>e
  fr:=λb o e=>.inl e
  am:=λa ha=>by
   have y:=by simpa using ha
   subst y;exact#v[_,A]
  len:=by unfold L2.start stI y0;simp only[aA,af,c6,aS];rw[<-vC r,lZ,Nat.sub_sub,Nat.add_comm 1]
  sl:=λi t e=>by
   rcases gets e with ⟨rfl,rfl⟩|rfl|⟨j,d,rfl,l,rfl⟩
   .exact#v[p,dx,[],Gb O,A,h0,by simp,O,wj]
   .trivial
   .obtain⟨v,x,z⟩:=AE r l;exact#v[v,Gb (by simpa using x),z]
  ap:=λi j t u a hij I J B C=>by
   rcases gets I with ⟨rfl,rfl⟩|rfl|⟨_,_,_,_,rfl⟩
   .rcases gets J with ⟨rfl,rfl⟩|rfl|⟨_,_,_,_,rfl⟩
    .exact ar O hij
    .cases C
    .cases C
   .cases B
   .cases B }
 refine#v[_,_,H0,_,R,l,λσ' q H' T m=>?_,λ_=>O];obtain⟨a,w,W,q1,q2,q3,q4,P,S⟩:=m.sl 0 _ x;have y:=by simpa using q4
 subst y;exact k W w q H' T m.sub (λb o e n=>m.keep b o e (by simpa using n)) m.fr q3 q2 P S
end
def Sl.L:Sl->Option bp
 |.ls a=>Z a
 |.pm a=>Z a
 |_=>U
def Sl.putL:Sl->bp->Sl
 |.pm _,a=>.pm a
 |_,a=>.ls a
def Sl.ub{s:Sl}(h:s.L=Z a):s.fh=γ:=by cases s<;>first|rfl|cases h
def Sl.putL_L{s:Sl}:(s.putL a).L=Z a:=by cases s<;>rfl
section
variable{G:Bg}{F:Fr}{σ:St}{ρ:bh}{H0 H:Hp}
theorem Ew.a3{o:Option V}{s:Sl}{ds:bp}(h:Ew G F H0 H o s)(e:s.L=Z ds):∃a xs,o=Z (.ref a)/\H a=Z (.a3 xs)/\H0 a=U/\a6 G H0 ds xs:=by
 cases s with
 |ls b=>cases e;obtain⟨a,xs,c,d,f,j,i⟩:=h;exact#v[a,xs,c,d,f,i]
 |pm b=>cases e;obtain⟨a,xs,c,d,f,j,i⟩:=h;exact#v[a,xs,c,d,f,i]
 |_=>cases e
def b0.mutL(R:b0 G F σ ρ H0 H)(m:ρ[i]?=Z s)(o:s.L=Z w)(l:(σ[i]?).join=Z (.ref a))(r:a6 G H0 d c):
  b0 G F σ (ρ.set i (s.putL d)) H0 (eg H a (.a3 c)):=by
 have ok:=R.sl i s m;rw[l]at ok;refine R.mut m (Sl.ub o) l (λu hH=>?_) (Sl.ub Sl.putL_L);cases s with
 |ls e=>obtain⟨b,t,f,p,h,j,q⟩:=ok;cases f;exact#v[a,c,O,hH,h,j,r]
 |pm e=>obtain⟨b,t,f,p,h,j,q⟩:=ok;cases f;exact#v[a,c,O,hH,h,j,r]
 |_=>cases o
end
def yp(ρ:bh)(i:Nat):Option bp:=match ρ[i]? with
 |some s=>s.L
 |none=>U
def Ar(h:yp ρ i=Z a):∃s,ρ[i]?=Z s/\s.L=Z a:=by
 unfold yp at h;cases e:ρ[i]? with
 |none=>rw[e]at h;cases h
 |some s=>rw[e]at h;exact#v[s,O,h]
def putAt(a:bh)(i:Nat)(b:bp):bh:=match a[i]? with
 |some s=>a.set i (s.putL b)
 |none=>a
def Ae(i:Nat)(f:FE):FE:=λc=>match yp c i with
 |some _=>match f c with
  |some (d,a)=>match yp a i with
   |some b=>if b.length<1000 then Z (.O,putAt a i (b++[d]))else U
   |none=>U
  |none=>U
 |none=>U
section
variable{X:Cx}{G:Bg}
def zO(R:b0 G F m ρ e H)(h:yp ρ i=Z o):∃a d,m[i]?=Z (Z (.ref a))/\H a=Z (.a3 d)/\a6 G e o d/\
  (∀b c,a6 G e b c->b0 G F m (putAt ρ i b) e (eg H a (.a3 c))):=by
 obtain⟨s,f,j⟩:=Ar h;obtain⟨a,d,l,p,t,q⟩:=(R.sl i s f).a3 j;refine#v[a,d,zN l,p,q,λb c r=>?_];unfold putAt;rw[f];exact R.mutL f j l r
set_option h true
def QG(h:PE X e (tBM G.K "list" KC (Et i) (q? G (ax f vO)))):PE X e (tF G (Ae i f)):=PE.b4 h λσ H Q z=>by
 obtain⟨F,c,t,d,M,R,e,k⟩:=z;unfold Ae at e;cases j:yp c i with
 |none=>simp only[j]at e;cases e
 |some y=>
  simp only[j]at e;rcases wc (f:=f) (ρ:=c)with l|⟨x,b,l⟩<;>simp only[l]at e
  .cases e
  .cases m:yp b i with
   |none=>simp only[m]at e;cases e
   |some S=>
    simp only[m]at e;split at e
    .rename_i T;cases e;obtain⟨a,J,p,C,Y,_⟩:=zO R j;refine#v[.ref a,p,.inl #v[O,J,fb.of C],F,c,t,[x],b,R,by unfold ax;rw[l];rfl,λys N u s w rs=>?_];obtain⟨v,W,rfl,B,A⟩:=rs;subst A;obtain⟨P,o,q,E,r,I⟩:=zO w m;rw[p]at q;cases q;exact#v[a,o,v,O,O,E,by rw[<-vC r];exact BP (by omega),k _ _ _ s (I _ _ (xp r (wB B wj))) Ad]
    .cases e
set_option h false
def Ii(i:Nat)(f:FA):FE:=λd=>match yp d i with
 |some _=>match f d with
  |some (c,a)=>match yp a i with
   |some b=>if b.length+c.length<=1000 then Z (.O,putAt a i (b++c))else U
   |none=>U
  |none=>U
 |none=>U
set_option h true
def QH(h:PE X e (tBM G.K "list" OS (Et i) (E1 (tH G f) Jp))):PE X e (tF G (Ii i f)):=PE.b4 h λσ H Q A=>by
 obtain⟨F,c,u,d,P,R,e,k⟩:=A;unfold Ii at e;cases j:yp c i with
 |none=>simp only[j]at e;cases e
 |some z=>
  simp only[j]at e;rcases wc (f:=f) (ρ:=c)with l|⟨x,b,l⟩<;>simp only[l]at e
  .cases e
  .cases m:yp b i with
   |none=>simp only[m]at e;cases e
   |some Y=>
    simp only[m]at e;split at e
    .rename_i B;cases e;obtain⟨a,M,q,E,s3,_⟩:=zO R j;refine#v[.ref a,q,.inl #v[O,M,fb.of E],F,c,u,x,b,R,l,λp N S w s y C h0 hb W rs=>?_];obtain⟨T,o,r,I,t,J⟩:=zO y m;rw[q]at r;cases r;refine#v[a,p,o,N,O,O,I,C,?_,k _ _ _ s (J _ _ (xp t rs)) Ad];rw[<-vC t,<- vC rs];exact yn B
    .cases e
set_option h false
def afL(i:Nat):FE:=λa=>match yp a i with
 |some (d::b)=>Z (d,putAt a i b)
 |_=>U
def Ik(r:a6 G b a c)(h:Bx a i=Z d):∃v,Bx c i=Z v/\cb G b d v:=by
 unfold Bx at h ⊢;rw[<-vC r];cases e:ixN a.length i with
 |none=>rw[e]at h;cases h
 |some j=>rw[e]at h;exact AE r h
def rm(i:Nat):FE:=λb=>match b[i]? with
 |some (.ls a)=>Z (.a3 a,b.set i (.I (.a3 a)))
 |some (.dk c a)=>Z (.Y c a,b.set i (.I (.Y c a)))
 |some (.I d)=>Z (d,b)
 |_=>U
theorem b0.toIm(R:b0 G F σ ρ H0 H)(hi:ρ[i]?=Z s)(hs:(σ[i]?).join=Z (.ref p))(so:s.fh=γ)(A:H p=Z o)(h0:H0 p=U)(hb:F.B p=U)(r:cb G (eg H0 p o) d (.ref p)):
  b0 G F σ (ρ.set i (.I d)) (eg H0 p o) H where
 sub:=λb u e=>by
  by_cases hb:b=p
  .subst hb;rw[vE]at e;cases e;exact A
  .rw[vH hb]at e;exact R.sub _ _ e
 g0:=R.g0.t (vK h0 o)
 keep:=R.keep
 fr:=λb u e=>by
  by_cases c:b=p
  .subst c;exact .inr hb
  .rw[vH c]at e;exact R.fr _ _ e
 am:=R.am
 len:=by rw[gB];exact R.len
 sl:=λj t e=>by
  rw[cE]at e;by_cases h:i=j
  .subst h;rw[aj O]at e;split at e
   .cases e;exact#v[_,hs,r]
   .cases e
  .rw[ak h]at e;refine(R.sl j t e).f5 (vK h0 o) (λa u n n q=>q) λa u z to q q0=>?_;rw[vH (λy=>by subst y;exact R.ap j i t s a (λy=>h y.symm) e hi to so z hs)];exact q0
 ap:=λj k t u b hjk l w f tk C vk=>by
  have n3:∀{m:Nat} {x:Sl},(ρ.set i (.I d))[m]?=Z x->x.fh=γ->ρ[m]?=Z x:=λ{m x} e E=>by
   rw[cE]at e;by_cases h:i=m
   .subst h;rw[aj O]at e;split at e
    .cases e;cases E
    .cases e
   .rw[ak h]at e;exact e
  exact R.ap j k t u b hjk (n3 l f) (n3 w tk) f tk C vk
theorem b0.toImD(R:b0 G F σ ρ H0 H)(hi:ρ[i]?=Z s)(hs:(σ[i]?).join=Z (.ref p))(so:s.fh=γ)(h0:H0 p=U)(hb:F.B p=U)(r:cb G (eg H0 p o) d (.ref p)):
  b0 G F σ (ρ.set i (.I d)) (eg H0 p o) (eg H p o) where
 sub:=λb u e=>by
  by_cases hb:b=p
  .subst hb;rw[vE]at e ⊢;exact e
  .rw[vH hb]at e ⊢;exact R.sub _ _ e
 g0:=R.g0.t (vK h0 o)
 keep:=λb u e n=>by rw[vH (λz=>by subst z;rw[hb]at e;cases e)];exact R.keep b u e n
 fr:=λb u e=>by
  by_cases c:b=p
  .subst c;exact .inr hb
  .rw[vH c]at e;exact R.fr _ _ e
 am:=λb hm=>by
  by_cases c:b=p
  .subst c;exact#v[o,vE]
  .rw[vH c];exact R.am b hm
 len:=by rw[gB];exact R.len
 sl:=λj t e=>by
  rw[cE]at e;by_cases h:i=j
  .subst h;rw[aj O]at e;split at e
   .cases e;exact#v[_,hs,r]
   .cases e
  .rw[ak h]at e;refine(R.sl j t e).f5 (vK h0 o) (λa u z to q=>?_) λa u z to q q0=>?_
   .rw[vH (λy=>by subst y;exact R.ap j i t s a (λy=>h y.symm) e hi to so z hs)];exact q
   .rw[vH (λy=>by subst y;exact R.ap j i t s a (λy=>h y.symm) e hi to so z hs)];exact q0
 ap:=λj k t u b hjk l w f tk A vk=>by
  have n3:∀{m:Nat} {x:Sl},(ρ.set i (.I d))[m]?=Z x->x.fh=γ->ρ[m]?=Z x:=λ{m x} e C=>by
   rw[cE]at e;by_cases h:i=m
   .subst h;rw[aj O]at e;split at e
    .cases e;cases C
    .cases e
   .rw[ak h]at e;exact e
  exact R.ap j k t u b hjk (n3 l f) (n3 w tk) f tk A vk
set_option h true
def adU(h:PE X e (Et i)):PE X e (tF G (rm i)):=PE.b4 (PE.ν h) λE H Q z=>by
 obtain⟨F,C,u,d,A,R,e,k⟩:=z;unfold rm at e;split at e
 .rename_i r b;cases e;obtain⟨a,q,f,l,c,m,p⟩:=R.sl i _ b;have j:=DX vE (a6.mono (vK c _) _ _ p);exact#v[_,zN f,.inl (k _ _ _ (vK c _) (R.toIm b f O l c m j) j)]
 .rename_i t r b;cases e;obtain⟨a,q,f,l,c,m,p,y⟩:=R.sl i _ b;refine#v[_,zN f,.inr #v[a,_,l,λo=>?_]];have j:cb G (eg u a (.mi o (.dK (t.zip q)))) (.Y t r) (.ref a):=by unfold cb;exact#v[a,o,q,O,vE,p,a6.mono (vK c _) _ _ y]
  exact k _ _ _ (vK c _) (R.toImD b f O c m j) j
 .rename_i B b;cases e;obtain⟨v,w,x⟩:=R.sl i _ b;exact#v[v,zN w,.inl (k _ _ _ (vS.refl _) R x)]
 .cases e
set_option h false
def Ge(i:Nat):FA:=λa=>match a[i]? with
 |some (.ls b)=>Z (b,a.set i .un)
 |_=>U
set_option h true
def WB(h:PE X e (Et i)):PE X e (tH G (Ge i)):=PE.b4 h λσ H Q r=>by
 obtain⟨F,ρ,H0,d,ρ',R,e,k⟩:=r;unfold Ge at e;split at e
 .rename_i ds l;cases e;obtain⟨a,xs,h1,h2,h3,h4,h5⟩:=R.sl i _ l;have n3:∀{m:Nat} {x:Sl},(ρ.set i .un)[m]?=Z x->x.fh=γ->m≠i/\ρ[m]?=Z x:=λ{m x} e A=>by
   rw[cE]at e;by_cases h:i=m
   .subst h;rw[aj O]at e;split at e
    .cases e;cases A
    .cases e
   .rw[ak h]at e;exact#v[λz=>h z.symm,e]
  have p:b0 G F σ (ρ.set i .un) H0 H:={
   sub:=R.sub,g0:=R.g0,keep:=R.keep,fr:=R.fr,am:=R.am
   len:=by rw[gB];exact R.len
   sl:=λj t e=>by
    rw[cE]at e;by_cases h:i=j
    .subst h;rw[aj O]at e;split at e
     .cases e;trivial
     .cases e
    .rw[ak h]at e;exact R.sl j t e
   ap:=λj k t u b hjk c q o tk y vk=>R.ap j k t u b hjk (n3 c o).2 (n3 q tk).2 o tk y vk }
  refine#v[_,zN h1,k a xs _ _ (vS.refl _) p h2 h3 h4 (λj t c to z=>?_) h5];obtain⟨w,f⟩:=n3 c to;exact R.ap j i t _ a w f l to O z h1
 .cases e
end
set_option h false
def stM(n:Nat)(b a:bp):bh:=.pm b::y0 (n - 1) a
def Ym(b:bh):Option bp:=match b with
 |.pm a::_=>Z a
 |_=>U
def fnM(h n:Nat)(f:FS):bp->bp->Option (D×bp):=λe c=>if c.length=h then match f (stM n e c)with
 |some (.rt d b)=>match Ym b with
  |some a=>Z (d,a)
  |none=>U
 |some (.rn i b)=>match Ym b with
  |some a=>Z (.a3 i,a)
  |none=>U
 |_=>U
 else U
section
variable{X:Cx}{G:Bg}
def cMut(g:bp->bp->Option (D×bp))(i:Nat)(a:FA):FE:=λe=>match yp e i with
 |some _=>match a e with
  |some (f,b)=>match yp b i with
   |some h=>match g h f with
    |some (d,c)=>Z (d,putAt b i c)
    |none=>U
   |none=>U
  |none=>U
 |none=>U
def Walk(G:Bg)(J:It)(h:bp)(j:Hp):Prop:=∀(i:Nat) (e a:Hp),vS j e->vS e a->
 (∀d,h[i]?=Z d->J.go i a/\∀x c,J.yld i a x c->∃f,vS e f/\vS f c/\vS a c/\(∀b o,f b=Z o->e b=Z o\/a b=U)/\cb G f d x)/\(i=h.length->J.stop i a)
inductive ItFI(G:Bg) (f:FA) (σ:St) (H:Hp) (R:(It->Hp->Prop)):Prop
 |i (F ρ H0 ds ρ') (h0:b0 G F σ ρ H0 H) (h1:f ρ=Z (ds,ρ')) (h2:∀J H0' H',vS H0 H0'->b0 G F σ ρ' H0' H'->Walk G J ds H0'->R J H'):ItFI G f σ H R
def M?(G:Bg)(f:FA):TI:=λa H R=>ItFI G f a H R
def PI.b4(h:PI X f e t)(w:∀b H R,d b H R->t b H R):PI X f e d:=λa s b H R I c=>h a s b H R I (w _ _ _ c)
def Il(h:fb G.K j a c)(r:a6 G j w c):Walk G (Itl G.K a) w j:=λi q t s p=>by have f:=(s.t p).seq h;refine#v[λd e=>?_,λC=>#v[c,f,by rw[<-vC r,C];exact aH _]];obtain⟨v,l,z⟩:=AE r e;refine#v[#v[c,v,f,l],λx u y=>?_];obtain⟨A,B⟩:=y;have m:=B c f;rw[l]at m;cases m;subst A;exact#v[q,vS.refl _,p,vS.refl _,λb o e=>.inl e,cb.mono s _ _ z]
def SG(h:e8 G.K j a c)(r:a6 G j w c):Walk G (Itt G.K a) w j:=λi q t s p=>by have f:=e8.mono (s.t p) h;refine#v[λd e=>?_,λC=>#v[c,f,by rw[<-vC r,C];exact aH _]];obtain⟨v,l,z⟩:=AE r e;refine#v[#v[c,v,f,l],λx u y=>?_];obtain⟨A,B⟩:=y;have m:=B c f;rw[l]at m;cases m;subst A;exact#v[q,vS.refl _,p,vS.refl _,λb o e=>.inl e,cb.mono s _ _ z]
def iL(f:FE):FA:=λc=>match f c with
 |some (.a3 b,a)=>Z (b,a)
 |some (.mn b,a)=>Z (b,a)
 |_=>U
def iT(f:FE):FA:=λc=>match f c with
 |some (.a7 b,a)=>Z (b,a)
 |_=>U
set_option h true
def Mh(h:PI X w e (RM G.K (tF G f))):PI X w e (M? G (iL f)):=PI.b4 h λz H R u=>by
 obtain⟨F,q,p,y,x,R,e,k⟩:=u;unfold iL at e;split at e
 .rename_i i o j;cases e;refine#v[F,q,p,_,_,R,j,λv t d s b r=>?_];obtain⟨a,m,rfl,c,l⟩:=r;exact#v[a,O,#v[m,b.sub.seq (fb.of c)],k _ _ _ s b (Il (fb.of c) l)]
 .rename_i i o j;cases e;refine#v[F,q,p,_,_,R,j,λv t d s b r=>?_];obtain⟨a,m,rfl,c,l⟩:=r;exact#v[a,O,#v[m,b.sub.seq c],k _ _ _ s b (Il c l)]
 .cases e
def WC(h:PI X p e (Zh G.K (tF G f))):PI X p e (M? G (iT f)):=PI.b4 h λz H R m=>by
 obtain⟨F,t,d,y,u,R,e,k⟩:=m;unfold iT at e;split at e
 .rename_i j w l;cases e;refine#v[F,t,d,_,_,R,l,λv x i s b r=>?_];obtain⟨a,q,rfl,c,o⟩:=r;exact#v[a,O,#v[q,e8.mono b.sub c],k _ _ _ s b (SG c o)]
 .cases e
set_option h false
def Im(lo:Int)(n:Nat):bp:=(aB n).map λ(i:Nat)=>D.int (lo+(i:Int))
def Mi{lo:Int}:Walk G (Itr lo n) (Im lo n) p:=λi c f s m=>by
 refine#v[λd e=>?_,λl=>by show n<=i;rw[l];simp[Im]];unfold Im at e;rw[bq]at e;by_cases a:i<n
 .rw[lL a]at e;cases e;refine#v[a,λx h y=>?_];obtain⟨j,rfl⟩:=y;subst j;exact#v[c,vS.refl _,m,vS.refl _,λb o e=>.inl e,xN _]
 .rw[gj (by simpa using a)]at e;cases e
def u3(f:FE):FA:=λb=>match f b with
 |some (.int n,a)=>if -1000000<=n/\n<=1000000 then Z (Im 0 n.toNat,a)else U
 |_=>U
set_option h true
def NP(h:PI X m e (X7 (q? G (ax f vO)))):PI X m e (M? G (u3 f)):=PI.b4 h λy H R i=>by
 obtain⟨F,o,a,t,p,R,e,k⟩:=i;unfold u3 at e;split at e
 .rename_i n q d;split at e
  .rename_i u;cases e;refine#v[F,o,a,[.int n],_,R,by unfold ax;rw[d];rfl,λx r b s c rs=>?_];obtain⟨v,w,rfl,l,j⟩:=rs;subst j l;exact#v[n,O,by omega,by omega,k _ _ _ s c Mi]
  .cases e
 .cases e
set_option h false
def f3(g:FG)(b:FS):bp->FS
 |[],c=>Z (.nx c)
 |d::r,c=>match g d c with
  |none=>U
  |some e=>match b e with
   |some (.nx a)=>f3 g b r a
   |some (.ct a)=>f3 g b r a
   |some (.bk a)=>Z (.nx a)
   |some (.rt d a)=>Z (.rt d a)
   |some (.rn d a)=>Z (.rn d a)
   |none=>U
def yb(s:FA)(g:FG)(b:FS):FS:=λd=>match s d with
 |some (c,a)=>f3 g b c a
 |none=>U
def WE{st:Stmt}(h:PS X st (Zj (M? G s) (Z' G n g) (ki G b))):PS X st (ki G (yb s g b)):=PS.b4 h λE σ H hh=>by
 obtain⟨F,Y,H0,o,R,e,k,k2⟩:=hh;unfold yb at e;rcases wc (f:=s) (ρ:=Y)with Q|⟨l,C,Q⟩<;>simp only[Q]at e
 .cases e
 .refine#v[F,Y,H0,l,C,R,Q,λJ N H1' s1 R1 wk=>?_];refine#v[λi m σ H=>m=l.length - i/\i<=l.length/\∃c r,vS N r/\b0 G F σ c r H/\f3 g b (l.drop i) c=Z o,#v[_,O,bT _,C,N,vS.refl _,R1,e],?_];rintro i m σi B ⟨rfl,hi,c,r,A,I,a⟩;by_cases hlt:i<l.length
  .have ed:=ic hlt;rw[ed]at a;unfold f3 at a;obtain⟨go,yl⟩:=(wk i r B A I.sub).1 l[i] (aP hlt);refine .inr #v[go,λp z=>∃c r,vS N r/\b0 G F p c r z/\f3 g b (l.drop (i+1)) c=Z o,λp z q=>#v[l.length - (i+1),by omega,O,hlt,q],λx z y=>?_];obtain⟨H2,M,t2,t3,t4,t5⟩:=yl x z y;have R2:=I.f5 t3 M t2 t4;cases S:g l[i] c with
   |none=>simp only[S]at a;cases a
   |some w=>
    simp only[S]at a;refine#v[F,c,H2,_,w,R2,t5,S,λσ3 _ R3=>?_];have T:=k.A4 (s1.t (A.t M));cases u:b w with
    |none=>simp only[u]at a;cases a
    |some q=>
     refine#v[F,w,H2,q,R3,u,?_,λ_=>O];cases q with
     |nx j=>simp only[u]at a;exact λp t z W P=>#v[j,t,A.t (M.t W),P,a]
     |ct j=>simp only[u]at a;exact λp t z W P=>#v[j,t,A.t (M.t W),P,a]
     |bk j=>simp only[u]at a;cases a;exact T
     |rt d j=>simp only[u]at a;cases a;exact T
     |rn d j=>simp only[u]at a;cases a;exact T
  .have ez:l.drop i=[]:=o7 (by omega);rw[ez]at a;cases a;exact .inl #v[(wk i r B A I.sub).2 (by omega),k _ _ _ (s1.t A) I]
def whL(c:FT)(b:FS):Nat->FS
 |0,_=>U
 |n+1,f=>match c f with
  |some (δ,e)=>Z (.nx e)
  |some (γ,e)=>match b e with
   |some (.nx a)=>whL c b n a
   |some (.ct a)=>whL c b n a
   |some (.bk a)=>Z (.nx a)
   |some (.rt d a)=>Z (.rt d a)
   |some (.rn d a)=>Z (.rn d a)
   |none=>U
  |none=>U
def QI{st:Stmt}(n:Nat)(h:PS X st (RJ (k? G c) (ki G b))):PS X st (ki G (whL c b n)):=PS.b4 h λE P H Y=>by
 obtain⟨F,N,B,o,R,e,k,k2⟩:=Y;refine#v[λm P H=>∃i r,vS B r/\b0 G F P i r H/\whL c b m i=Z o,#v[n,N,B,vS.refl _,R,e],?_];rintro m σi T ⟨i,r,A,W,a⟩;cases m with
 |zero=>cases a
 |succ m=>
  unfold whL at a;rcases wc (f:=c) (ρ:=i)with x|⟨t,w,x⟩
  .simp only[x]at a;cases a
  .refine#v[F,i,r,t,w,W,x,λQ S z M=>?_];cases t with
   |false=>simp only[x]at a;cases a;exact KF (k _ _ _ (A.t z) M)
   |true=>
    simp only[x]at a;refine KG #v[λl y=>∃i r,vS B r/\b0 G F l i r y/\whL c b m i=Z o,λl y q=>#v[m,dM m,q],?_];have I:=k.A4 (A.t z);cases u:b w with
    |none=>simp only[u]at a;cases a
    |some q=>
     refine#v[F,w,Q,q,M,u,?_,λs=>O];cases q with
     |nx j=>simp only[u]at a;exact λl p y J C=>#v[j,p,A.t (z.t J),C,a]
     |ct j=>simp only[u]at a;exact λl p y J C=>#v[j,p,A.t (z.t J),C,a]
     |bk j=>simp only[u]at a;cases a;exact I
     |rt d j=>simp only[u]at a;cases a;exact I
     |rn d j=>simp only[u]at a;cases a;exact I
end
def Sl.d3:Sl->Sl
 |.I d=>.I d
 |.ls a=>.pm a
 |.pm a=>.pm a
 |_=>.un
def Hu(k:Nat)(d3:List Nat)(ρ:bh):bh:=eZ k .un++d3.map λj=>((ρ[j]?).getD .un).d3
def zx:List Nat->bh->bh->Option bh
 |[],_,a=>Z a
 |j::d3,t::b,a=>match yp a j with
  |some _=>match t with
   |.pm c=>zx d3 b (putAt a j c)
   |_=>U
  |none=>zx d3 b a
 |_::_,[],_=>U
def Eg(k:Nat)(d3:List Nat)(g:FG)(ft:FT)(f:FE):bp->bh->Option (bp×bh)
 |[],c=>Z ([],c)
 |d::r,c=>match g d (Hu k d3 c)with
  |none=>U
  |some h=>match ft h with
   |some (γ,b)=>match f b with
    |some (x,i)=>match zx d3 (i.drop k) c with
     |some a=>match Eg k d3 g ft f r a with
      |some (j,e)=>Z (x::j,e)
      |none=>U
     |none=>U
    |none=>U
   |some (δ,b)=>match zx d3 (b.drop k) c with
    |some a=>Eg k d3 g ft f r a
    |none=>U
   |none=>U
def vy(k:Nat)(d3:List Nat)(s:FA)(g:FG)(ft:FT)(fe:FE):FA:=λc=>match s c with
 |some (b,a)=>if b.length<=1000 then Eg k d3 g ft fe b a else U
 |none=>U
def wG:FT:=λa=>Z (γ,a)
theorem Cf:∀{d3:List Nat} {A f b:bh},zx d3 A f=Z b->b.length=f.length/\
  (∀(j:Nat) (c:Sl),b[j]?=Z c->∃s,f[j]?=Z s/\((c=s/\(s.L≠U->j∉d3))\/∃(m:Nat) (i a:bp),d3[m]?=Z j/\A[m]?=Z (Sl.pm i)/\s.L=Z a/\c=s.putL i))
 |[],A,f,b,h=>by cases h;exact#v[O,λj c e=>#v[c,e,.inl #v[O,λn z=>by cases z]]]
 |F::d3,[],f,b,h=>by cases h
 |F::d3,t::A,f,b,h=>by
  unfold zx at h;cases l:yp f F with
  |none=>
   simp only[l]at h;obtain⟨B,C⟩:=Cf h;refine#v[B,λj c e=>?_];obtain⟨s,r,q⟩:=C j c e;refine#v[s,r,?_];rcases q with ⟨rfl,q⟩|⟨m,i,a,u,w,q3,x⟩
   .refine .inl #v[O,λz y=>?_];rcases aJ.1 y with y|y
    .subst y;unfold yp at l;rw[r]at l;exact z l
    .exact q z y
   .exact .inr #v[m+1,i,a,u,w,q3,x]
  |some p=>
   simp only[l]at h;cases t with
   |pm i=>
    simp only at h;obtain⟨H,r,G⟩:=Ar l;unfold putAt at h;rw[r]at h;simp only at h;obtain⟨B,C⟩:=Cf h;refine#v[by rw[B,gB],λj c e=>?_];obtain⟨s,o,q⟩:=C j c e;by_cases E:F=j
    .subst E;rw[cE,aj O]at o;split at o
     .cases o;refine#v[H,r,.inr ?_];rcases q with ⟨rfl,q⟩|⟨m,d,a,u,w,q3,x⟩
      .exact#v[0,i,p,O,O,G,O]
      .refine#v[m+1,d,p,u,w,G,?_];rw[x];cases H<;>rfl
     .cases o
    .rw[cE,ak E]at o;refine#v[s,o,?_];rcases q with ⟨rfl,q⟩|⟨m,d,a,u,w,q3,x⟩
     .refine .inl #v[O,λz y=>?_];rcases aJ.1 y with y|y
      .exact E y.symm
      .exact q z y
     .exact .inr #v[m+1,d,a,u,w,q3,x]
   |_=>cases h
def Ju(d3:List Nat)(b:St)(ρ:bh):List Addr:=d3.filterMap λj=>match yp ρ j,(b[j]?).join with
 |some _,Z (.ref a)=>Z a
 |_,_=>U
set_option h true
def Dt:a∈Ju d3 i h ↔ ∃j∈d3,(∃b,yp h j=Z b)/\(i[j]?).join=Z (.ref a):=by
 unfold Ju;rw[iq];constructor
 .rintro⟨j,f,e⟩;refine#v[j,f,?_];split at e
  .rename_i b l c d;cases e;exact#v[#v[b,c],d]
  .cases e
 .rintro⟨j,f,⟨b,c⟩,d⟩;refine#v[j,f,?_];rw[c,d]
section
variable{X:Cx}{G:Bg}{F:Fr}{σ:St}{ρ:bh}{H0 H:Hp}
set_option h false
def Io(h:(Hu k d3 ρ)[i]?=Z s):s=.un\/∃m j,i=k+m/\d3[m]?=Z j/\s=((ρ[j]?).getD .un).d3:=by
 unfold Hu at h;by_cases a:i<k
 .rw[gb (by simpa using a),jD,aj a]at h;cases h;exact .inl O
 .rw[f9 (by simpa using qz a),c6,bq]at h;cases e:d3[i - k]? with
  |none=>rw[e]at h;cases h
  |some j=>rw[e]at h;cases h;exact .inr #v[i - k,j,by omega,e,O]
def Fb(h:d3[m]?=Z j):((zc k d3 σ)[k+m]?).join=(σ[j]?).join:=by unfold zc;rw[f9 (by simp),c6,show k+m - k=m by omega,bq,h];rfl
theorem b0.d3(R:b0 G F σ ρ H0 H)(k:Nat)(d3:List Nat)(nd:d3.Nodup):b0 G #v[H0,H,Ju d3 σ ρ] (zc k d3 σ) (Hu k d3 ρ) H0 H where
 sub:=R.sub
 g0:=vS.refl _
 keep:=λb o e n=>e
 fr:=λb o e=>.inl e
 am:=λa ha=>by obtain⟨j,q,⟨ds,f⟩,p⟩:=Dt.1 ha;obtain⟨s,y,A⟩:=Ar f;obtain⟨I,xs,h1,h2,_⟩:=(R.sl j s y).a3 A;rw[p]at h1;cases h1;exact#v[_,h2]
 len:=by unfold zc Hu;rw[aA,aA,c6,c6,af,af]
 sl:=λi s e=>by
  rcases Io e with rfl|⟨m,j,rfl,f,rfl⟩
  .trivial
  .rw[Fb f];cases p:ρ[j]? with
   |none=>trivial
   |some s=>
    have ok:=R.sl j s p;have mem:∀{a:Addr} {ds:bp},s.L=Z ds->(σ[j]?).join=Z (.ref a)->a∈Ju d3 σ ρ:=λh1 h2=>Dt.2 #v[j,cf f,#v[_,by unfold yp;rw[p];exact h1],h2];cases s with
    |un=>trivial
    |I d=>exact ok
    |ls ds=>obtain⟨a,xs,h1,h2,h3,h4,h5⟩:=ok;exact#v[a,xs,h1,h2,h3,mem O h1,h5]
    |pm ds=>obtain⟨a,xs,h1,h2,h3,h4,h5⟩:=ok;exact#v[a,xs,h1,h2,h3,mem O h1,h5]
    |dk ks ds=>trivial
    |ob c ns ds=>trivial
 ap:=λi J s t a hii e x so to v w=>by
  rcases Io e with rfl|⟨m,j,rfl,f,rfl⟩
  .cases so
  rcases Io x with rfl|⟨M,u,rfl,l,rfl⟩
  .cases to
  rw[Fb f]at v;rw[Fb l]at w;have fh:∀{j:Nat},(((ρ[j]?).getD Sl.un).d3).fh=γ->∃s,ρ[j]?=Z s/\s.fh=γ:=λ{j} h=>by
   cases z:ρ[j]? with
   |none=>rw[z]at h;cases h
   |some s=>rw[z]at h;refine#v[s,O,?_];cases s<;>first|rfl|cases h
  obtain⟨s,z,E⟩:=fh so;obtain⟨B,C,r⟩:=fh to;by_cases q:j=u
  .subst q;have:=(List.getElem?_inj (cj.1 f).1 nd).1 (f.t l.symm);exact hii (by rw[this])
  .exact R.ap j u s B a q z C E r v w
theorem b0.uncap(R:b0 G F σ ρ H0 H){k:Nat}{d3:List Nat}{f:St}{r ρ':bh}{H1 l:Hp}(c:b0 G #v[H0,H,Ju d3 σ ρ] f r H1 l)(hd:f.drop k=(zc k d3 σ).drop k)(hu:zx d3 (r.drop k) ρ=Z ρ'):b0 G F σ ρ' H1 l:=by
 obtain⟨hl,S⟩:=Cf hu;have E:∀{m j:Nat},d3[m]?=Z j->(f[k+m]?).join=(σ[j]?).join:=λ{m j} e=>by
  have q:(f.drop k)[m]?=((zc k d3 σ).drop k)[m]?:=by rw[hd]
  rw[eL,eL]at q;rw[q];exact Fb e
 have nA:∀{j:Nat} {s:Sl} {a:Addr},ρ[j]?=Z s->s.fh=γ->(σ[j]?).join=Z (.ref a)->(s.L≠U->j∉d3)->a∉Ju d3 σ ρ:=λ{j s a} e so z hn ha=>by
  obtain⟨i,hi,⟨ds,d⟩,M⟩:=Dt.1 ha;obtain⟨t,p,C⟩:=Ar d;by_cases hij:i=j
  .subst hij;rw[e]at p;cases p;exact hn (by rw[C];simp) hi
  .exact R.ap i j t s a hij p e (Sl.ub C) so M z
 have hA:∀a∈Ju d3 σ ρ,F.B a=U\/a∈F.A:=λa ha=>by obtain⟨i,hi,⟨ds,d⟩,M⟩:=Dt.1 ha;obtain⟨t,p,C⟩:=Ar d;obtain⟨Q,u,h1,h2,h3,h4⟩:=(R.sl i t p).at (Sl.ub C);rw[M]at h1;cases h1;exact h4
 have own':∀{j:Nat} {h:Sl},ρ'[j]?=Z h->h.fh=γ->∃s,ρ[j]?=Z s/\s.fh=γ:=λ{j h} e so=>by
  obtain⟨s,d,q⟩:=S j h e;rcases q with ⟨rfl,q⟩|⟨m,ds,I,q1,q2,q3,q4⟩
  .exact#v[h,d,so]
  .exact#v[s,d,Sl.ub q3]
 exact {
  sub:=c.sub
  g0:=R.g0.t c.g0
  keep:=λb o e n=>by
   refine c.keep b o (R.keep b o e n) λha=>?_;rcases hA b ha with q|q
   .rw[q]at e;cases e
   .exact n q
  fr:=λb o e=>by
   rcases c.fr b o e with q|q
   .exact R.fr b o q
   .exact .inr (R.fm q)
  am:=λa ha=>by
   obtain⟨o,q⟩:=R.am a ha;by_cases z:a∈Ju d3 σ ρ
   .exact c.am a z
   .exact#v[o,c.keep a o q z]
  len:=by rw[hl];exact R.len
  sl:=λj h e=>by
   obtain⟨s,d,q⟩:=S j h e;rcases q with ⟨rfl,q⟩|⟨m,ds,I,q1,q2,q3,q4⟩
   .refine(R.sl j h d).f5 c.g0 (λa u z so y=>c.keep a u y (nA d so z q)) λa u z so y T=>?_;cases w:H1 a with
    |none=>rfl
    |some o=>
     rcases c.fr a o w with x|x
     .have N:H0 a=Z o:=x;rw[N]at T;cases T
     .have N:H a=U:=x;rw[N]at y;cases y
   .rw[eL]at q2;obtain⟨a,xs,h1,h2,h3,h4,h5⟩:=c.sl _ _ q2;rw[E q1]at h1;have ok:=R.sl j s d;subst q4;cases s with
    |ls J=>obtain⟨Q,P,g1,g2,g3,g4,g5⟩:=ok;rw[h1]at g1;cases g1;exact#v[a,xs,h1,h2,h3,g4,h5]
    |pm J=>obtain⟨Q,P,g1,g2,g3,g4,g5⟩:=ok;rw[h1]at g1;cases g1;exact#v[a,xs,h1,h2,h3,g4,h5]
    |_=>cases q3
  ap:=λi j s t a hij W Y so to v v'=>by
   obtain⟨s0,z,zo⟩:=own' W so;obtain⟨t0,y,yo⟩:=own' Y to;exact R.ap i j s0 t0 a hij z y zo yo v v' }
def Du{k:Nat}(h:ri σ ρ p)(f:zx d3 t ρ=Z a):ri σ a p:=λi c e so=>by
 obtain⟨s,b,q⟩:=(Cf f).2 i c e;rcases q with ⟨rfl,q⟩|⟨m,j,d,l,o,q3,r⟩
 .exact h i c b so
 .exact h i s b (Sl.ub q3)
inductive CI(G:Bg) (F:Fr) (σ:St) (H1:Hp) (p:Addr) (k:Nat) (d3:List Nat) (g:FG) (ft:FT) (fe:FE) (ds es:bp) (ρ':bh) (i m:Nat) (acc:bF) (H2:Hp):Prop
 |mk (ρi:bh) (Hi:Hp) (dn et:bp):m=ds.length - i->i<=ds.length->vS H1 Hi->b0 G F σ ρi Hi H2->H2 p=Z (.a3 acc)->Hi p=U->ri σ ρi p->a6 G Hi dn acc->dn.length<=i->Eg k d3 g ft fe (ds.drop i) ρi=Z (et,ρ')->es=dn++et->CI G F σ H1 p k d3 g ft fe ds es ρ' i m acc H2
set_option h true
def KJ{d3:List Nat}(nd:d3.Nodup):∀σ H Q,tH G (vy k d3 s g ft fe) σ H Q->GV (M? G s) (Z' G k g) (k? G ft) (tF G fe) k d3 σ H Q:=λσ H Q hh=>by
 obtain⟨F,ρ,H0,es,ρ',R,e,kk⟩:=hh;unfold vy at e;rcases wc (f:=s) (ρ:=ρ)with e1|⟨d,ρ1,e1⟩<;>simp only[e1]at e
 .cases e
 .split at e
  .rename_i hlen;refine#v[F,ρ,H0,d,ρ1,R,e1,λJ H1 H1' s1 P wk p T=>?_];refine#v[CI G F σ H1 p k d3 g ft fe d es ρ',
    #v[_,ρ1,H1,[],es,O,bT _,vS.refl _,P.ff T _,vE,P.ef T,P.apart T,wj,aH _,e,O],?_]
   rintro i m acc H2 ⟨c,Hi,dn,et,rfl,hi,si,Ri,C,W,apt,rs,hdn,a,rfl⟩;by_cases hlt:i<d.length
   .have ed:=ic hlt;rw[ed]at a;unfold Eg at a;obtain⟨go,yl⟩:=(wk i Hi H2 si Ri.sub).1 d[i] (aP hlt);refine .inr #v[go,λx H3 y=>?_];obtain⟨I,t1,t2,t3,t4,t5⟩:=yl x H3 y;have R2:=Ri.f5 t3 t1 t2 t4;have Y:=t3 _ _ C;have hpj:I p=U:=by
     cases w:I p with
     |none=>rfl
     |some o=>
      rcases t4 p o w with z|z
      .rw[W]at z;cases z
      .rw[C]at z;cases z
    have RC:=R2.d3 k d3 nd;have npA:p∉Ju d3 σ c:=λz=>by obtain⟨j,_,⟨ds',q1⟩,q2⟩:=Dt.1 z;obtain⟨t,q3,q4⟩:=Ar q1;exact apt j t q3 (Sl.ub q4) q2
    cases e2:g d[i] (Hu k d3 c)with
    |none=>simp only[e2]at a;cases a
    |some E=>
     simp only[e2]at a;refine#v[_,_,I,d[i],E,RC,t5,e2,λσ4 B R4=>#v[B,?_]];rcases wc (f:=ft) (ρ:=E)with S|⟨b,l,S⟩
     .simp only[S]at a;cases a
     .refine#v[_,E,I,b,l,R4,S,λH5 H5' s5 R5=>?_];have keepP:∀{σ':St} {ρ'':bh} {Ha N:Hp},b0 G #v[I,H3,Ju d3 σ c] σ' ρ'' Ha N->N p=Z (.a3 acc)/\Ha p=U:=λRz=>by
       refine#v[Rz.keep p _ Y npA,?_];refine Option.eq_none_iff_forall_ne_some.2 λo M=>?_;rcases Rz.fr p o M with z|z
       .have z':I p=Z o:=z;rw[hpj]at z';cases z'
       .have z':H3 p=U:=z;rw[Y]at z';cases z'
      cases b with
      |false=>
       simp only[S]at a;refine KF ?_;cases h:zx d3 (l.drop k) c with
       |none=>simp only[h]at a;cases a
       |some r=>simp only[h]at a;obtain⟨w1,M⟩:=keepP R5;exact#v[d.length - (i+1),by omega,r,H5,dn,et,O,hlt,si.t (t1.t s5),R2.uncap R5 B h,w1,M,Du (k:=k) apt h,a6.mono (t1.t s5) _ _ rs,by omega,a,O]
      |true=>
       simp only[S]at a;refine KG ?_;rcases wc (f:=fe) (ρ:=l)with e5|⟨x5,ρ5,e5⟩
       .simp only[e5]at a;cases a
       .simp only[e5]at a;refine#v[_,l,H5,x5,ρ5,R5,e5,λv H6 H6' s6 R6 rv=>?_];obtain⟨w1,M⟩:=keepP R6;cases h:zx d3 (ρ5.drop k) c with
        |none=>simp only[h]at a;cases a
        |some r=>
         simp only[h]at a;cases e6:Eg k d3 g ft fe (d.drop (i+1)) r with
         |none=>simp only[e6]at a;cases a
         |some q=>
          obtain⟨rest',ρz⟩:=q;simp only[e6]at a;cases a;have A:=R2.uncap R6 B h;have lacc:=(vC rs).symm;refine#v[acc,w1,BP (by omega),d.length - (i+1),by omega,r,H6,dn++[x5],rest',O,hlt,si.t (t1.t (s5.t s6)),?_,vE,M,Du (k:=k) apt h,xp (a6.mono (t1.t (s5.t s6)) _ _ rs) (wB rv wj),by rw[aA,cR];omega,e6,by rw[cc];rfl];exact {
           sub:=λb o e=>by rw[vH (λz=>by rw[z,M]at e;cases e)];exact A.sub b o e
           g0:=A.g0
           keep:=λb o e n=>by rw[vH (λz=>by subst z;rw[P.fm T]at e;cases e)];exact A.keep b o e n
           fr:=A.fr
           am:=λb hb=>by
            by_cases z:b=p
            .subst z;exact#v[_,vE]
            .rw[vH z];exact A.am b hb
           len:=A.len
           sl:=λj t ej=>(A.sl j t ej).f5 (vS.refl _) (λb u z to q=>by rw[vH (λy=>Du (k:=k) apt h j t ej to (by rw[z,y]))];exact q) λb u _ _ _ q=>q
           ap:=A.ap }
   .have ez:d.drop i=[]:=o7 (by omega);rw[ez]at a;cases a;rw[bZ]at kk;exact .inl #v[(wk i Hi H2 si Ri.sub).2 (by omega),kk p acc Hi H2 (s1.t si) Ri C W (P.fm T) apt rs]
  .cases e
set_option h false
def SI{d3:List Nat}(c:d3.Nodup)(h:PE X e (GV (M? G s) (Z' G k g) (k? G b) (tF G a) k d3)):PE X e (tH G (vy k d3 s g b a)):=PE.b4 h (KJ c)
def SJ:PIf X [] (k? G wG):=λa s σ H Q I h=>by obtain⟨F,ρ,H0,b,c,R,e,k⟩:=h;cases e;exact V2 a s σ H Q I (k _ _ (vS.refl _) R)
end
def yq:D->Bool
 |.O=>γ|.X _=>γ|.int _=>γ|.str _=>γ|_=>δ
def vD:D->V
 |.O=>.O|.X b=>.X b|.int i=>.int i|.str x=>.str x|_=>.O
section
variable{X:Cx}{G:Bg}{H:Hp}
def zP{d:D}{v:V}(h:cb G H d v)(f:yq d=γ):v=vD d:=by cases d<;>first|(unfold cb at h;exact h)|cases f
def Fc{d:D}(f:yq d=γ):∀H,cb G H d (vD d):=λH=>by cases d<;>first|(unfold cb;rfl)|cases f
theorem Gf:∀{a:bp} {b:bF},a6 G H a b->a.all yq=γ->b=a.map vD
 |[],b,h,f=>by unfold a6 at h;exact h
 |d::a,b,h,f=>by obtain⟨v,r,rfl,c,e⟩:=h;rw[gH,aT]at f;rw[aU,zP c f.1,Gf e f.2]
def Mj{d:D}(f:yq d=γ):Ed (vD d)=γ:=by cases d<;>first|rfl|cases f
theorem JS:∀{a:bp},a.all yq=γ->(a.map vD).all Ed=γ
 |[],_=>rfl
 |d::a,f=>by rw[gH,aT]at f;rw[aU,gH,Mj f.1,JS f.2];rfl
def gi.or{f:ab->ab->Sem ab}{r b:R2}(h:gi X f r)(i:gi X f b):gi X f (λx y H Q=>r x y H Q\/b x y H Q):=λa s e H x y v u Q I c d q=>q.elim (h a s e H x y v u Q I c d) (i a s e H x y v u Q I c d)
def i1.or{r d:R2}{g c:D->D->Option D}(h:i1 G r g)(j:i1 G d c):i1 G (λx y H Q=>r x y H Q\/d x y H Q) (λx y=>match g x y with|some z=>Z z|none=>c x y):=λx y z b H v u Q e s f i k=>by
 cases a:g x y with
 |some w=>simp only[a]at e;cases e;exact .inl (h x y _ b H v u Q a s f i k)
 |none=>simp only[a]at e;exact .inr (j x y z b H v u Q e s f i k)
def dI(C:Int->Int->Bool)(g:Int->Int->D):D->D->Option D
 |.int a,.int b=>if C a b=γ then Z (g a b)else U
 |_,_=>U
set_option h true
def Ml{C:Int->Int->Bool}{d:Int->Int->Prop}{g:Int->Int->D}{f:Int->Int->V}(hC:∀a b,C a b=γ->d a b)(h:∀a b,yq (g a b)=γ/\vD (g a b)=f a b):i1 G (rI d f) (dI C g):=λx y z m H v u Q e s j l k=>by
 unfold dI at e;split at e
 .rename_i a b;split at e
  .rename_i i;cases e;exact#v[a,b,j,l,hC _ _ i,by rw[<-(h a b).2];exact k _ λc w=>Fc (h a b).1 c]
  .cases e
 .cases e
def EA{g:Int->Int->D}{d:Int->Int->V}(f:∀a b,yq (g a b)=γ/\vD (g a b)=d a b):i1 G (D? d) (dI (λw w=>γ) g):=λx y z j H v u Q e s h i k=>by
 unfold dI at e;split at e
 .rename_i a b;split at e
  .cases e;exact#v[a,b,h,i,by rw[<-(f a b).2];exact k _ λc w=>Fc (f a b).1 c]
  .cases e
 .cases e
set_option h false
def wH:=dI (λy y=>γ) λa b=>.int (a+b)
def Eh:=dI (λy y=>γ) λa b=>.int (a - b)
def EB(a:Int):Bool:=decide (-(2 ^ 64)<a)&&decide (a<2 ^ 64)
def yZ:=dI (λa b=>EB a||EB b) λa b=>.int (a * b)
def vX:=dI (λy b=>decide (0<b)) λa b=>.int (a % b)
def wW:=dI (λy b=>decide (0<b)&&decide (b<1073741824)) λa b=>.int (a / b)
def SK:=dI (λa b=>decide (0<=b)&&decide (b<=1000000)&&decide (a.natAbs<2 ^ 64)) λa b=>.int (a ^ b.toNat)
def NQ:=dI (λy y=>γ) λa b=>.X (decide (a<b))
def Gg:=dI (λy y=>γ) λa b=>.X (decide (b<a))
set_option r "zQ a b;dGeI b a" in def ϑ0:=dI (λy y=>γ) λa b=>.X (decide (ϑ1<=ϑ2))
def aag:i1 G (D? λi j=>.int (i+j)) wH:=EA λy y=>#v[O,O]
def aah:i1 G (D? λi j=>.int (i - j)) Eh:=EA λy y=>#v[O,O]
def aai:i1 G (rI VH λi j=>.int (i * j)) yZ:=Ml (λa b h=>by
 unfold EB at h;simp only[gE,aT,bE]at h;exact h) λy y=>#v[O,O]
def aaj:i1 G (rI (λy j=>0<j) λi j=>.int (i % j)) vX:=Ml (λa b h=>by simpa using h) λy y=>#v[O,O]
def aak:i1 G (rI Zm λi j=>.int (i / j)) wW:=Ml (λa b h=>by unfold Zm;simpa using h) λy y=>#v[O,O]
def aal:i1 G (rI CPow λi j=>.int (i ^ j.toNat)) SK:=Ml (λa b h=>by
 simp only[aT,bE]at h;exact#v[h.1.1,h.1.2,h.2]) λy y=>#v[O,O]
set_option r "W i j NQ;Y j i Gg" in def adϑ0:i1 G (D? λi j=>.X (decide (ϑ1<ϑ2))) ϑ3:=EA λy y=>#v[O,O]
set_option r "X i j zQ;Z j i dGeI" in def adϑ0:i1 G (D? λi j=>.X (decide (ϑ1<=ϑ2))) ϑ3:=EA λy y=>#v[O,O]
def Dy:D->D->Option D
 |.str a,.str b=>if a.length+b.length<=100000 then Z (.str (a++b))else U
 |_,_=>U
def Ip{n:Nat}(h:n<=100000):n<=aI:=bz h (by rw[bV];decide)
set_option h true
def WG:i1 G (λx y H Q=>∃i j,x=.str i/\y=.str j/\i.length+j.length<=aI/\Q (.str (i++j)) H) Dy:=λx y z h H v u Q e s d f k=>by
 unfold Dy at e;split at e
 .rename_i a b;split at e
  .rename_i c;cases e;exact#v[a,b,d,f,Ip c,k _ λw w=>Ac _]
  .cases e
 .cases e
set_option h false
def SL:D->D->Option D
 |.str a,.str b=>Z (.X (!decide (b.cps.toList<a.cps.toList)))
 |_,_=>U
set_option h true
def aam:i1 G (λx y H Q=>∃i j,x=.str i/\y=.str j/\Q (.X (!decide (j.cps.toList<i.cps.toList))) H) SL:=λx y z f H v u Q e s c d k=>by
 unfold SL at e;split at e
 .rename_i a b;cases e;exact#v[a,b,c,d,k _ λw w=>yh _]
 .cases e
set_option h false
def D.isN:D->Bool
 |.O=>γ
 |_=>δ
def zw:D->D->Option D
 |x,.O=>Z (.X x.isN)
 |_,_=>U
def yc:D->D->Option D
 |x,.O=>Z (.X (!x.isN))
 |_,_=>U
def OZ{d:D}{v:V}(h:cb G H d v):decide (v=.O)=d.isN:=by
 cases d<;>unfold cb at h
 .subst h;rfl
 .subst h;rfl
 .subst h;rfl
 .subst h;rfl
 .obtain⟨a,b,rfl,_⟩:=h;rfl
 .obtain⟨a,b,rfl,_⟩:=h;rfl
 .obtain⟨a,b,rfl,_⟩:=h;rfl
 .obtain⟨a,c,b,rfl,_⟩:=h;rfl
 .obtain⟨a,e,b,rfl,_⟩:=h;rfl
 .obtain⟨a,b,rfl,_⟩:=h;rfl
def aan:i1 G (λx y H Q=>y=.O/\Q (.X (decide (x=.O))) H) zw:=λx y z c H v u Q e s b a k=>by
 unfold zw at e;split at e
 .cases e;unfold cb at a;refine#v[a,?_];rw[OZ b];exact k _ λw w=>yh _
 .cases e
def WH:i1 G (λx y H Q=>y=.O/\Q (.X (!decide (x=.O))) H) yc:=λx y z c H v u Q e s b a k=>by
 unfold yc at e;split at e
 .cases e;unfold cb at a;refine#v[a,?_];rw[OZ b];exact k _ λw w=>yh _
 .cases e
def afp:D->D->Option D
 |.X a,.X b=>Z (.X (a != b))
 |_,_=>U
mutual
def i?:D->Option L3.Dq
 |.O=>Z .O
 |.X b=>Z (.X b)
 |.int i=>Z (.int i)
 |.str x=>Z (.str x)
 |.a7 a=>match xY a with
  |some l=>Z (.a7 l)
  |none=>U
 |.a3 a=>match xY a with
  |some l=>Z (.a3 l)
  |none=>U
 |.mn _=>U
 |.obj _ _ _=>U
 |.Y _ _=>U
 |.η _ _=>U
def xY:bp->Option (List L3.Dq)
 |[]=>Z []
 |d::a=>match i? d with
  |some x=>match xY a with
   |some l=>Z (x::l)
   |none=>U
  |none=>U
end
mutual
theorem HE:∀(d:D) (v:V) (x:L3.Dq),cb G H d v->i? d=Z x->L3.cb G.K H x v
 |.O,v,x,h,e=>by unfold i? at e;cases e;unfold cb at h;unfold L3.cb;exact h
 |.X b,v,x,h,e=>by unfold i? at e;cases e;unfold cb at h;unfold L3.cb;exact h
 |.int b,v,x,h,e=>by unfold i? at e;cases e;unfold cb at h;unfold L3.cb;exact h
 |.str b,v,x,h,e=>by unfold i? at e;cases e;unfold cb at h;unfold L3.cb;exact h
 |.a7 f,v,x,h,e=>by
  unfold i? at e;cases c:xY f with
  |none=>simp only[c]at e;cases e
  |some l=>simp only[c]at e;cases e;obtain⟨a,i,rfl,j,m⟩:=h;exact#v[a,i,O,j,Fd f i l m c]
 |.a3 f,v,x,h,e=>by
  unfold i? at e;cases c:xY f with
  |none=>simp only[c]at e;cases e
  |some l=>simp only[c]at e;cases e;obtain⟨a,i,rfl,j,m⟩:=h;exact#v[a,i,O,fb.of j,Fd f i l m c]
 |.mn _,v,x,h,e=>by unfold i? at e;cases e
 |.obj _ _ _,v,x,h,e=>by unfold i? at e;cases e
 |.Y _ _,v,x,h,e=>by unfold i? at e;cases e
 |.η _ _,v,x,h,e=>by unfold i? at e;cases e
theorem Fd:∀(a:bp) (b:bF) (l:List L3.Dq),a6 G H a b->xY a=Z l->L3.a6 G.K H l b
 |[],b,l,h,e=>by unfold xY at e;cases e;unfold a6 at h;unfold L3.a6;exact h
 |d::a,b,l,h,e=>by
  unfold xY at e;cases c:i? d with
  |none=>simp only[c]at e;cases e
  |some x=>
   simp only[c]at e;cases f:xY a with
   |none=>simp only[f]at e;cases e
   |some m=>simp only[f]at e;cases e;obtain⟨v,r,rfl,i,j⟩:=h;exact#v[v,r,O,HE d v x i c,Fd a r m j f]
end
def Gh(neg:Bool):D->D->Option D:=λx y=>match yq x&&yq y&&RO (vD x) (vD y)with
 |true=>Z (.X (if neg then !decide (vD x=vD y)else decide (vD x=vD y)))
 |false=>U
def KL(neg:Bool):D->D->Option D:=λx y=>match i? x,i? y with
 |some a,Z b=>if Sk a b&&decide (fc a<=20)&&decide (fc b<=20)then Z (.X (if neg then !pk a b else pk a b))else U
 |_,_=>U
def b?(neg:Bool):D->D->Option D:=λx y=>match Gh neg x y with
 |some z=>Z z
 |none=>KL neg x y
set_option r "o Eq δ;p Ne γ" in def aaϑ0:i1 G rϑ1 (Gh ϑ2):=λx y z d H v u Q e s b c k=>by
 unfold Gh at e;cases a:yq x&&yq y&&RO (vD x) (vD y)with
 |false=>simp only[a]at e;cases e
 |true=>simp only[a]at e;cases e;simp only[aT]at a;rw[zP b a.1.1,zP c a.1.2];exact#v[a.2,k _ λw w=>yh _]
set_option h true
def SM{neg:Bool}:i1 G (NJ G.K neg) (KL neg):=λx y z j H v u Q e s h i k=>by
 unfold KL at e;cases c:i? x with
 |none=>simp only[c]at e;cases e
 |some a=>
  cases f:i? y with
  |none=>simp only[c,f]at e;cases e
  |some b=>
   simp only[c,f]at e;split at e
   .rename_i d;cases e;simp only[aT,bE]at d;exact#v[a,b,HE x v a (cb.mono s _ _ h) c,HE y u b (cb.mono s _ _ i) f,d.1.1,d.1.2,d.2,k _ λw w=>yh _]
   .cases e
set_option h false
set_option r "q Eq Eq δ i 2;r NotEq Ne γ j 3" in def aaϑ0(a:X.A.units+64<cLine)(hK:X.K=G.K:=by rfl):gi X (bC .ϑ1) (λx y H Q=>rϑ2 x y H Q\/NJ G.K ϑ3 x y H Q):=by rw[<-hK];exact gi.or adϑ4 (Zϑ5 a)
set_option r "0 Eq δ o;1 Ne γ p" in def adϑ0:i1 G (λx y H Q=>rϑ1 x y H Q\/NJ G.K ϑ2 x y H Q) (b? ϑ2):=i1.or aaϑ3 SM
def SN:D->Option bp
 |.a7 a=>Z a
 |.a3 a=>Z a
 |.mn a=>Z a
 |_=>U
def O0{d:D}{i:bp}{v:V}(h:cb G H d v)(e:SN d=Z i):∃p b,v=.ref p/\(fb G.K H p b\/e8 G.K H p b)/\a6 G H i b:=by
 cases d with
 |a7 l=>cases e;unfold cb at h;obtain⟨a,b,rfl,c,f⟩:=h;exact#v[a,b,O,.inr c,f]
 |a3 l=>cases e;unfold cb at h;obtain⟨a,b,rfl,c,f⟩:=h;exact#v[a,b,O,.inl (fb.of c),f]
 |mn l=>cases e;unfold cb at h;obtain⟨a,b,rfl,c,f⟩:=h;exact#v[a,b,O,.inl c,f]
 |_=>cases e
def j2(neg:Bool):D->D->Option D:=λx y=>match SN y with
 |some a=>if yq x&&a.all yq then Z (.X (if neg then !inV (vD x) (a.map vD)else inV (vD x) (a.map vD)))else U
 |none=>U
def O1{K:av}{H b:Hp}{p:Addr}{a:bF}(s:vS H b)(h:fb K H p a\/e8 K H p a):fb K b p a\/e8 K b p a:=h.imp s.seq (e8.mono s)
set_option h true
def Yn{neg:Bool}:i1 G (rIn G.K neg) (j2 neg):=λx y z j H v u Q e s d h k=>by
 unfold j2 at e;cases b:SN y with
 |none=>simp only[b]at e;cases e
 |some l=>
  simp only[b]at e;split at e
  .rename_i a;cases e;simp only[aT]at a;obtain⟨p,i,rfl,f,c⟩:=O0 h b;refine#v[p,i,O,O1 s f,?_,?_,?_]
   .rw[zP d a.1];exact Mj a.1
   .rw[Gf c a.2];exact JS a.2
   .rw[zP d a.1,Gf c a.2];exact k _ λw w=>yh _
  .cases e
set_option h false
set_option r "aas In δ Qt;QJ NotIn γ Kw" in def ϑ0(hK:X.K=G.K:=by rfl):gi X (bC .ϑ1) (rIn G.K ϑ2):=by rw[<-hK];exact ϑ3
def b1(x y:D):Option D:=match y with
 |.int i=>match x with
  |.a7 a=>Bx a i
  |.a3 a=>Bx a i
  |.mn a=>Bx a i
  |.str x=>if x.length<=100000 then (Bx x.cps.toList i).map λc=>.str #v[#[c]]else U
  |_=>U
 |_=>U
set_option h true
def ad2:i1 G (rIx G.K) b1:=λx y z B H v u Q e s p A k=>by
 cases y with
 |int i=>
  subst A;cases x with
  |a7 d=>obtain⟨a,o,rfl,f,h⟩:=p;obtain⟨w,l,m⟩:=Ik h (show Bx d i=Z z from e);exact .inr (.inl #v[a,o,i,w,O,O,e8.mono s f,l,k _ λb j=>cb.mono j _ _ m])
  |a3 d=>obtain⟨a,o,rfl,f,h⟩:=p;obtain⟨w,l,m⟩:=Ik h (show Bx d i=Z z from e);exact .inl #v[a,o,i,w,O,O,s.seq (fb.of f),l,k _ λb j=>cb.mono j _ _ m]
  |mn d=>obtain⟨a,o,rfl,f,h⟩:=p;obtain⟨w,l,m⟩:=Ik h (show Bx d i=Z z from e);exact .inl #v[a,o,i,w,O,O,s.seq f,l,k _ λb j=>cb.mono j _ _ m]
  |str t=>
   subst p;unfold b1 at e;simp only at e;split at e
   .rename_i r;cases q:Bx t.cps.toList i with
    |none=>rw[q]at e;cases e
    |some c=>rw[q]at e;cases e;exact .inr (.inr #v[t,i,c,O,O,Ip r,q,k _ λn n=>Ac _])
   .cases e
  |_=>cases e
 |_=>cases e
set_option h false
def ix_X(hK:autoParam (X.K=G.K) zA0._auto_1):τ X (rIx G.K):=by rw[<-hK];exact ZJ
def JT(G:Bg)(r:bF->Hp->VK->Prop)(g:D->Option D):Prop:=∀x z b H v (Q:VK),g x=Z z->vS b H->cb G b x v->(∀w,(∀a,vS b a->cb G a z w)->Q w H)->r [v] H Q
def Yo{e:Expr}{r:bF->Hp->VK->Prop}{g:D->Option D}{f:FE}(p:JT G r g)(h:PE X e (tCB r (q? G (ax f vO)))):PE X e (tF G (c1 g f)):=PE.b4 h λB H Q o=>by obtain⟨F,y,i,d,b,R,e,k⟩:=o;obtain⟨x,l,m⟩:=DY e;refine#v[F,y,i,[x],b,R,by unfold ax;rw[l];rfl,λA j a s c rs=>?_];obtain⟨v,z,rfl,u,t⟩:=rs;subst t;exact p x d j a v Q m c.sub u λw q=>k _ _ _ s c (q _ (vS.refl _))
def xD.or{f:ab}{r b:bF->Hp->VK->Prop}(h:xD X f r)(j:xD X f b):xD X f (λx H Q=>r x H Q\/b x H Q):=λa s i H e d Q I c q=>q.elim (h a s i H e d Q I c) (j a s i H e d Q I c)
def wY:D->Option D
 |.a7 a=>Z (.int a.length)
 |.a3 a=>Z (.int a.length)
 |.mn a=>Z (.int a.length)
 |.str x=>if x.length<=100000 then Z (.int x.length)else U
 |.Y b a=>Z (.int b.length)
 |_=>U
def QK:xD X (.builtin "len") (λc H Q=>∃a kvs,c=[V.ref a]/\Rd H a (.dK kvs)/\Q (.int kvs.length) H):=by intro b s l H c j Q I r h;obtain⟨a,kvs,rfl,e,q⟩:=h;obtain⟨u,rfl,f⟩:=kb r;cases f;exact adA I e λt i d=>#v[.int kvs.length,H,d,#v[t,O],q]
def Yp(K:av):bF->Hp->VK->Prop:=λb H Q=>(∃p c,b=[.ref p]/\(fb K H p c\/e8 K H p c)/\Q (.int c.length) H)\/((∃z,b=[.str z]/\z.length<=aI/\Q (.int z.length) H)\/(∃a kvs,b=[V.ref a]/\Rd H a (.dK kvs)/\Q (.int kvs.length) H))
def QL(hK:autoParam (X.K=G.K) zA0._auto_1):xD X (.builtin "len") (Yp G.K):=by rw[<-hK];exact xD.or Kz (xD.or KA QK)
set_option h true
def yK:JT G (Yp G.K) wY:=λx z j H v Q e s f k=>by
 cases x with
 |a7 h=>cases e;obtain⟨a,d,rfl,b,c⟩:=f;refine .inl #v[a,d,O,.inr (e8.mono s b),?_];rw[<-vC c];exact k _ λy y=>xN _
 |a3 h=>cases e;obtain⟨a,d,rfl,b,c⟩:=f;refine .inl #v[a,d,O,.inl (s.seq (fb.of b)),?_];rw[<-vC c];exact k _ λy y=>xN _
 |mn h=>cases e;obtain⟨a,d,rfl,b,c⟩:=f;refine .inl #v[a,d,O,.inl (s.seq b),?_];rw[<-vC c];exact k _ λy y=>xN _
 |str t=>
  unfold wY at e;simp only at e;split at e
  .rename_i i;cases e;exact .inr (.inl #v[t,by rw[f],Ip i,k _ λy y=>xN _])
  .cases e
 |Y m h=>cases e;obtain⟨a,o,d,rfl,b,c,l⟩:=f;refine .inr (.inr #v[a,_,O,.inr #v[o,s _ _ b],?_]);rw[iw,<- c,gS];exact k _ λy y=>xN _
 |_=>cases e
set_option h false
def WI:D->Option D
 |.int i=>Z (.int i)
 |.X b=>Z (.int (if b then 1 else 0))
 |_=>U
def aat:JT G (λc H Q=>(∃i,c=[.int i]/\Q (.int i) H)\/∃k,c=[.X k]/\Q (.int (if k then 1 else 0)) H) WI:=λx z d H v Q e s a k=>by
 cases x with
 |int i=>cases e;unfold cb at a;subst a;exact .inl #v[i,O,k _ λy y=>xN _]
 |X b=>cases e;unfold cb at a;subst a;exact .inr #v[b,O,k _ λy y=>xN _]
 |_=>cases e
def Jv:bp->Option (List Bool)
 |[]=>Z []
 |.X b::r=>(Jv r).map (b::·)
 |_=>U
theorem Iq:∀{d:bp} {a:bF} {bs:List Bool},a6 G H d a->Jv d=Z bs->a=bs.map V.X
 |[],a,bs,h,e=>by cases e;unfold a6 at h;exact h
 |.X b::r,a,bs,h,e=>by
  obtain⟨v,q,rfl,f,i⟩:=h;unfold Jv at e;cases c:Jv r with
  |none=>rw[c]at e;cases e
  |some l=>rw[c]at e;cases e;unfold cb at f;subst f;rw[Iq i c];rfl
 |.O::r,a,bs,h,e=>by cases e
 |.int _::r,a,bs,h,e=>by cases e
 |.str _::r,a,bs,h,e=>by cases e
 |.a7 _::r,a,bs,h,e=>by cases e
 |.a3 _::r,a,bs,h,e=>by cases e
 |.mn _::r,a,bs,h,e=>by cases e
 |.obj _ _ _::r,a,bs,h,e=>by cases e
 |.Y _ _::r,a,bs,h,e=>by cases e
 |.η _ _::r,a,bs,h,e=>by cases e
def zR:D->Option D
 |.a3 a=>(Jv a).map λbs=>.X (bs.all id)
 |_=>U
def aau:JT G (λd H Q=>∃(p:Addr) (bs:List Bool),d=[.ref p]/\fb G.K H p (bs.map V.X)/\Q (.X (bs.all id)) H) zR:=λx z j H v Q e s i k=>by
 cases x with
 |a3 f=>
  unfold zR at e;simp only at e;cases b:Jv f with
  |none=>rw[b]at e;cases e
  |some bs=>rw[b]at e;cases e;obtain⟨a,d,rfl,c,h⟩:=i;rw[Iq h b]at c;exact#v[a,bs,O,s.seq (fb.of c),k _ λy y=>yh _]
 |_=>cases e
def QM(a:X.l0=γ)(hK:autoParam (X.K=G.K) zA0._auto_1):xD X (.builtin "all") (λb H Q=>∃(p:Addr) (bs:List Bool),b=[.ref p]/\fb G.K H p (bs.map V.X)/\Q (.X (bs.all id)) H):=by rw[<-hK];exact Si a
inductive Ty where
 |b (n:String)|c (k:Nat)
set_option r "val ab ype;v V y" in def Ty.ϑ0(G:Bg):Ty->ϑ1
 |.b n=>.tϑ2 n
 |.c k=>.ref (G.ca k)
def tyD:D->Ty
 |.O=>.b "NoneType" |.X _=>.b "bool" |.int _=>.b "int" |.str _=>.b "str" |.a7 _=>.b "tuple" |.a3 _=>.b "list" |.mn _=>.b "list" |.Y _ _=>.b "dict" |.η _ _=>.b "dict" |.obj c _ _=>.c c
structure Jw(K:av)(C:Addr):Prop where
 cl:I' K C
 ha:c4 K (.ref C) "__class__" = Z (Z (.builtin "object.__class__"))
 hn:r6 K (.builtin "object.__class__") "__get__" = Z (Z (.builtin "getset_descriptor.__get__"))
 htk:W.takesIn K (.builtin "object.__class__")=Z γ
 hm:W.mroIn K C (.type "object")=Z γ
def SO{pins:cN}{σ:St}{s:ae}{A:aQ}{E:ab->ae->Prop}{Q:ab->ae->Prop}{c:ab}{b:Bool}{d:D}{v:V}{u:ab}(I:bt X pins σ H s)(hK:X.K=G.K)(hd:cb G H d v)(f:dd v u)(j:∀k ns ds,d=.obj k ns ds->Jw X.K (G.ca k))
  (e:cJ X.K ((tyD d).val G) c=Z b) (h:∀tk,Q (.bool b) { s with toks:=tk }):ao (model X.prog X.w) A (call (.builtin "isinstance") [u,c]) Q E s:=by
 cases d with
 |O=>unfold cb at hd;subst hd;exact Aq I f .O e h
 |X x=>unfold cb at hd;subst hd;exact Aq I f (.X x) e h
 |int x=>unfold cb at hd;subst hd;exact Aq I f (.int x) e h
 |str x=>unfold cb at hd;subst hd;exact Aq I f (.str x) e h
 |a7 ds=>obtain⟨a,xs,rfl,h1,h2⟩:=hd;cases f;rw[<-hK]at h1;obtain⟨i,_,p,_⟩:=I.tuple h1;obtain⟨o,q1,q2,_⟩:=p;exact cP nG I.la #v[o,q1,q2] e (λz=>nomatch z) h
 |a3 ds=>obtain⟨a,xs,rfl,h1,h2⟩:=hd;exact Aq I f (.a3 h1) e h
 |mn ds=>obtain⟨a,xs,rfl,h1,h2⟩:=hd;cases f;rw[<-hK]at h1;obtain⟨i,_,p,_⟩:=I.list h1;obtain⟨o,n,q1,q2,_⟩:=p;exact cP jk I.la #v[o,q1,q2] e (λz=>nomatch z) h
 |Y ks ds=>obtain⟨a,o,xs,rfl,h1,h2,h3⟩:=hd;cases f;obtain⟨q0,_,_,vs,_,ob,es,ep,q1,q2,_⟩:=(show eo X.prog X.w H s.heap a (.mi o (.dK (ks.zip xs))) from I.ew a _ h1);exact cP iH I.la #v[ob,q1,q2.1] e (λz=>nomatch z) h
 |η ks ds=>obtain⟨a,xs,rfl,⟨o,qs,h1,_,h3,_⟩,_⟩:=hd;cases f;exact cP iH I.la #v[o,(show eo X.prog X.w H s.heap a (.ext (isO a o)) from I.ew a _ h1).1,h3.ex.1] e (λz=>nomatch z) h
 |obj k ns ds=>have ci:=j k ns ds O;obtain⟨a,dx,xs,rfl,h1,h2,h3⟩:=hd;exact Aq I f (.k0 h1 ci.cl ci.ha ci.hn ci.htk ci.hm) e h
def wI(t:Ty->Option Bool):D->Option D:=λd=>(t (tyD d)).map .X
def JU(c:Ty){t:Ty->Option Bool}(m:∀y b,t y=Z b->cJ X.K (y.val G) (c.val G)=Z b)(l:∀k b,t (.c k)=Z b->Jw X.K (G.ca k))(hK:autoParam (X.K=G.K) zA0._auto_1):
  xD X (.builtin "isinstance") (λi H Q=>∃d x b,i=[x,c.v G]/\cb G H d x/\t (tyD d)=Z b/\Q (.X b) H):=by
 intro f s E H i C Q I r h;obtain⟨d,x,b,rfl,hd,e,q⟩:=h;obtain⟨u,p,rfl,o,a⟩:=vals2 r;have j:p=c.val G:=by cases c<;>exact a
 subst j;exact SO I hK hd o (λk A w z=>by subst z;exact l k b e) (m _ _ e) λB=>#v[.X b,H,I.rl _,O,q]
def O2{e:Expr}{c:Ty}{t:Ty->Option Bool}{f:FE}(h:PE X e (tCB (λu H Q=>∃d x b,u=[x,c.v G]/\cb G H d x/\t (tyD d)=Z b/\Q (.X b) H) (E1 (tF G f) (E1 (tC (c.v G)) Jp)))):PE X e (tF G (c1 (wI t) f)):=PE.b4 h λz H Q q=>by
 obtain⟨F,w,m,d,j,R,e,k⟩:=q;obtain⟨x,p,a⟩:=DY e;unfold wI at a;cases i:t (tyD x)with
 |none=>rw[i]at a;cases a
 |some b=>rw[i]at a;cases a;exact#v[F,w,m,x,j,R,p,λv y o s l r=>#v[x,v,b,O,cb.mono l.sub _ _ r,i,k _ _ _ s l (yh b)]]
def xi(f g:FE):FA:=λe=>match f e with
 |some (.a3 c,a)=>match g a with
  |some (.a3 d,b)=>if c.length+d.length<=1000 then Z (c++d,b)else U
  |_=>U
 |_=>U
set_option h true
def WJ{a b:Expr}{f g:FE}{pos:Pos}(I:PE X a (tF G f))(J:PE X b (tF G g)):PE X (.BinOp a .Add b pos) (tH G (xi f g)):=PE.b4 (OI ZM I J) λσ H Q M=>by
 obtain⟨F,T,q,d,W,R,e,k⟩:=M;unfold xi at e;split at e
 .rename_i xs c A;split at e
  .rename_i ys Y B;split at e
   .rename_i N;cases e;refine#v[F,T,q,_,c,R,A,λv t w s y r=>#v[F,c,t,_,_,y,B,λu H2 x o R2 S=>?_]];have P:=cb.mono o _ _ r;obtain⟨a1,i,rfl,C,l⟩:=P;obtain⟨z,j,rfl,E,m⟩:=S;refine#v[a1,z,i,j,O,O,R2.sub _ _ C,R2.sub _ _ E,by rw[<-vC l,<- vC m];exact yn N,λp h=>?_];exact k p _ _ _ (s.t o) (R2.ff h _) vE (R2.ef h) (R2.fm h) (R2.apart h) (xp l m)
   .cases e
  .cases e
 .cases e
set_option h false
def yj(f:FE):FA:=λc=>match f c with
 |some (d,a)=>match SN d with
  |some b=>Z (b,a)
  |none=>U
 |none=>U
def SQ{e:Expr}{f:FE}(h:PE X e (tCB (λm H Q=>∃p c,m=[.ref p]/\(fb G.K H p c\/e8 G.K H p c)/\∀l,H l=U->Q (.ref l) (eg H l (.a3 c))) (q? G (ax f vO)))):PE X e (tH G (yj f)):=PE.b4 h λJ H Q x=>by
 obtain⟨F,o,q,E,A,R,e,k⟩:=x;unfold yj at e;rcases wc (f:=f) (ρ:=o)with i|⟨d,B,i⟩<;>simp only[i]at e
 .cases e
 .cases j:SN d with
  |none=>simp only[j]at e;cases e
  |some t=>simp only[j]at e;cases e;refine#v[F,o,q,[d],_,R,by unfold ax;rw[i];rfl,λc C r s a rs=>?_];obtain⟨v,I,rfl,z,y⟩:=rs;subst y;obtain⟨p,m,rfl,u,w⟩:=O0 z j;exact#v[p,m,O,O1 a.sub u,λl b=>k l _ _ _ s (a.ff b _) vE (a.ef b) (a.fm b) (a.apart b) w]
def NR(hK:autoParam (X.K=G.K) zA0._auto_1):xD X (.type "list") (λb H Q=>∃p a,b=[.ref p]/\(fb G.K H p a\/e8 G.K H p a)/\∀l,H l=U->Q (.ref l) (eg H l (.a3 a))):=by rw[<-hK];exact KB
def zd(f:FE):FE:=λc=>match f c with
 |some (.a3 b,a)=>Z (.a7 b,a)
 |some (.a7 b,a)=>Z (.a7 b,a)
 |_=>U
set_option h true
def SR{e:Expr}{f:FE}(h:PE X e (tCB (λr H Q=>∃p b,r=[.ref p]/\((fb G.K H p b/\∀l,H l=U->Q (.ref l) (eg H l (.a7 b)))\/(e8 G.K H p b/\Q (.ref p) H))) (q? G (ax f vO)))):PE X e (tF G (zd f)):=PE.b4 h λI H Q A=>by
 obtain⟨F,y,w,E,C,R,e,k⟩:=A;unfold zd at e;split at e
 .rename_i r u i;cases e;refine#v[F,y,w,[_],_,R,by unfold ax;rw[i];rfl,λb z d s a rs=>?_];obtain⟨v,B,rfl,c,o⟩:=rs;subst o;obtain⟨p,t,rfl,j,x⟩:=c;refine#v[p,t,O,.inl #v[fb.of (a.sub _ _ j),λl m=>?_]];exact k _ _ _ (s.t (vK (a.ef m) _)) (a.rh m _) (A9 (e8.of vE) (a6.mono (vK (a.ef m) _) _ _ x))
 .rename_i r u i;cases e;refine#v[F,y,w,[_],_,R,by unfold ax;rw[i];rfl,λb z d s a rs=>?_];obtain⟨v,B,rfl,c,o⟩:=rs;subst o;have q:=c;obtain⟨p,t,rfl,j,x⟩:=c;exact#v[p,t,O,.inr #v[e8.mono a.sub j,k _ _ _ s a q]]
 .cases e
set_option h false
def QN(hK:autoParam (X.K=G.K) zA0._auto_1):xD X (.type "tuple") (λb H Q=>∃p a,b=[.ref p]/\((fb G.K H p a/\∀l,H l=U->Q (.ref l) (eg H l (.a7 a)))\/(e8 G.K H p a/\Q (.ref p) H))):=by rw[<-hK];exact Jr
def fg(xs:bp)(lo a:Option Int):bp:=(xs.drop (HT.e? xs.length 0 lo)).take (HT.e? xs.length xs.length a - HT.e? xs.length 0 lo)
def Fe{a:Hp}{b:bp}{d:bF}{lo c:Option Int}(r:a6 G a b d):a6 G a (fg b lo c) (Kt d lo c):=by unfold fg Kt;rw[<-vC r];exact Ga _ (F9 _ r)
def P'(f:FE)(lo hi:Option Int):FA:=λc=>match f c with
 |some (.a3 b,a)=>Z (fg b lo hi,a)
 |some (.mn b,a)=>Z (fg b lo hi,a)
 |_=>U
def tO(o:Option Int):TO:=λy H Q=>Q o H
set_option h true
def QO{e:Expr}{f:FE}{lo o:Option Int}(h:PE X e (tSl (Qs G.K) (tF G f) (tO lo) (tO o))):PE X e (tH G (P' f lo o)):=PE.b4 h λC H Q A=>by
 obtain⟨F,y,t,z,w,R,e,k⟩:=A;have n3:∀{a:Addr} {j:bF} {i:bp} {d b:Hp},vS t d->b0 G F C w d b->fb G.K d a j->a6 G d i j->z=fg i lo o->Qs G.K (.ref a) lo o b Q:=λ{a j i d b} s c l m e=>by subst e;exact#v[a,j,O,c.sub.seq l,λp q=>k p _ _ _ s (c.ff q _) vE (c.ef q) (c.fm q) (c.apart q) (Fe m)]
 unfold P' at e;split at e
 .rename_i j x u;cases e;refine#v[F,y,t,_,_,R,u,λv d b s c r=>?_];obtain⟨a,B,rfl,l,m⟩:=r;exact n3 s c (fb.of l) m O
 .rename_i j x u;cases e;refine#v[F,y,t,_,_,R,u,λv d b s c r=>?_];obtain⟨a,B,rfl,l,m⟩:=r;exact n3 s c l m O
 .cases e
set_option h false
def SU{n:Int}{j pos}:PO X (Z (.Constant (.int n) j pos)) (tO (Z n)):=λa s b H Q I h=>OP RE a s b H Q I #v[n,O,h]
def ad3:PO X U (tO U):=OO
def sl_X(hK:autoParam (X.K=G.K) zA0._auto_1):SlR X (Qs G.K):=by rw[<-hK];exact VU
end
def Sl.bor:Sl->Sl
 |.un=>.un
 |.I d=>.I d
 |.ls a=>.I (.a3 a)
 |.pm a=>.I (.a3 a)
 |.dk _ _=>.un
 |.ob c b a=>.I (.obj c b a)
section
variable{X:Cx}{G:Bg}
theorem b0.bor(R:b0 G F σ ρ H0 H):b0 G #v[H,H,[]] σ (ρ.map Sl.bor) H H where
 sub:=vS.refl _
 g0:=vS.refl _
 keep:=λb o e y=>e
 fr:=λb o e=>.inl e
 am:=λa h=>by cases h
 len:=by rw[af];exact R.len
 sl:=λi s e=>by
  rw[bq]at e;cases f:ρ[i]? with
  |none=>rw[f]at e;cases e
  |some t=>
   rw[f]at e;cases e;have ok:=R.sl i t f;cases t with
   |un=>trivial
   |I d=>obtain⟨v,h1,h2⟩:=ok;exact#v[v,h1,cb.mono R.sub _ _ h2]
   |ls ds=>obtain⟨a,xs,h1,h2,h3,h4,h5⟩:=ok;exact#v[_,h1,DX h2 (a6.mono R.sub _ _ h5)]
   |pm ds=>obtain⟨a,xs,h1,h2,h3,h4,h5⟩:=ok;exact#v[_,h1,DX h2 (a6.mono R.sub _ _ h5)]
   |dk ks ds=>trivial
   |ob c ns ds=>obtain⟨a,dx,xs,h1,h2,h3,h4,h5,h6⟩:=ok;exact#v[_,h1,by unfold cb;exact#v[a,dx,xs,O,h2,h5,a6.mono R.sub _ _ h6]]
 ap:=λi j s t a y e y so=>by
  rw[bq]at e;cases f:ρ[i]? with
  |none=>rw[f]at e;cases e
  |some t=>rw[f]at e;cases e;cases t<;>cases so
def b0.unbor(R:b0 G F h ρ d H)(c:b0 G #v[H,H,[]] i f j a):b0 G F h ρ d a:=
 R.f5 (λb o e=>c.keep b o e (by simp)) (vS.refl _) (λb o e=>c.keep b o (R.sub _ _ e) (by simp)) λb o e=>.inl e
def KM(f:FE):FE:=λa=>match f (a.map Sl.bor)with
 |some (d,_)=>if yq d=γ then Z (d,a)else U
 |none=>U
def GY(f:FT):FT:=λa=>match f (a.map Sl.bor)with
 |some (d,_)=>Z (d,a)
 |none=>U
set_option h true
def aav(h:PE X e (tF G f)):PE X e (tF G (KM f)):=PE.b4 h λt H Q m=>by
 obtain⟨F,i,p,d,o,R,e,k⟩:=m;unfold KM at e;rcases wc (f:=f) (ρ:=i.map Sl.bor)with a|⟨x,b,a⟩<;>simp only[a]at e
 .cases e
 .split at e
  .rename_i c;cases e;refine#v[_,_,H,d,b,R.bor,a,λv q j s l r=>?_];rw[zP r c];exact k _ _ _ (vS.refl _) (R.unbor l) (Fc c _)
  .cases e
set_option h false
def WK(h:PT X e (k? G f)):PT X e (k? G (GY f)):=PT.b4 h λq H Q l=>by
 obtain⟨F,c,o,d,m,R,e,k⟩:=l;unfold GY at e;rcases wc (f:=f) (ρ:=c.map Sl.bor)with a|⟨x,b,a⟩<;>simp only[a]at e
 .cases e
 .cases e;exact#v[_,_,H,d,b,R.bor,a,λp i s j=>k _ _ (vS.refl _) (R.unbor j)]
def yL(g h:D->D->Option D)(d e f:FE):FE:=λi=>match d i with
 |some (x,b)=>match e b with
  |some (y,a)=>match g x y with
   |some (.X γ)=>match f a with
    |some (z,c)=>match h y z with
     |some w=>Z (w,c)
     |none=>U
    |none=>U
   |some (.X δ)=>Z (.X δ,a)
   |_=>U
  |none=>U
 |none=>U
set_option h true
def Mm(ho:i1 G r g)(I:i1 G r' Y):∀M H Q,tF G (yL g Y S T W) M H Q->Nt r r' (tF G S) (tF G T) (tF G W) M H Q:=λM H Q hh=>by
 obtain⟨F,m,H0,d,ρ',R,e,k⟩:=hh;unfold yL at e;rcases wc (f:=S) (ρ:=m)with p|⟨x,b,p⟩<;>simp only[p]at e
 .cases e
 rcases wc (f:=T) (ρ:=b)with A|⟨y,c,A⟩<;>simp only[A]at e
 .cases e
 refine#v[F,m,H0,x,b,R,p,λv H1 H1' s1 R1 r1=>#v[F,b,H1,y,c,R1,A,λu h i o R2 J=>?_]];split at e
 .rename_i B;refine ho x y _ h i v u _ B R2.sub (cb.mono o _ _ r1) J λw l=>?_;have a:=l h (vS.refl _);refine#v[γ,a,KG ?_];rcases wc (f:=W) (ρ:=c)with C|⟨z,ρ3,C⟩<;>simp only[C]at e
  .cases e
  cases E:Y y z with
  |none=>simp only[E]at e;cases e
  |some q=>simp only[E]at e;cases e;refine#v[F,c,h,z,_,R2,C,λt N j s3 P r3=>?_];exact I y z _ N j u t Q E P.sub (cb.mono s3 _ _ J) r3 λw l=>k w N j (s1.t (o.t s3)) P (l _ (vS.refl _))
 .rename_i B;cases e;refine ho x y _ h i v u _ B R2.sub (cb.mono o _ _ r1) J λw l=>?_;have a:=l h (vS.refl _);exact#v[δ,a,KF (k _ _ _ (s1.t o) R2 (yh δ))]
 .cases e
set_option h false
def SV(w:gi X (bC h) r)(f:gi X (bC d) x)(u:i1 G r g)(e:i1 G x m)(o:PE X a (tF G i))(p:PE X b (tF G j))(q:PE X c (tF G l))
  (t:autoParam (lastMarks [h,d] [b,c]=δ) zA4._auto_1):PE X (.Compare a [h,d] [b,c] pos) (tF G (yL g m i j l)):=PE.b4 (RR w f o p q t) (Mm u e)
def QP(C:gi X (bC l) r)(i:gi X (bC f) E)(B:i1 G r g)(h:i1 G E u)(w:PE X a (tF G p))(x:PE X b (tF G q))(y:PE X c (tF G t))
  (A:autoParam (lastMarks [l,f] [b,c]=δ) zA4._auto_1):PT X (.Compare a [l,f] [b,c] pos) (k? G (cT (yL g u p q t))):=PT.b4 (RT C i w x y A) λm H Q z=>by
 obtain⟨F,I,o,d,j,R,e,k⟩:=OV m H Q z;exact Mm B h m H _ #v[F,I,o,d,j,R,e,k]
end
def GZ(P:aL)(w:aC)(K:av)(b:Str->Option ab)(a5:Heap)(k:Nat)(x:Str)(c:aE)(d:Sp):Prop:=
 ∃(f:Addr) (a:cp),b x=Z (.ref f)/\eD K (.ref f)=γ/\j1 K a c []/\zA P w K b a5 zE k f a c d
def KN(G:Bg)(P:aL)(w:aC)(d:Str->Option ab)(a5:Heap)(k:Nat)(x:Str)(c:Nat)(e:aE)(dvs:bF)(g:bp->Option (aE×bp)):Prop:=
 ∃(f:Addr) (b:cp) (a:List ab),Mk G.K (G.ca c) f/\d x=Z (.ref (G.ca c))/\j1 G.K b e a/\cm dvs a/\zA P w G.K d a5 zE k f b e (spI G c g)
def Cg(G:Bg)(P:aL)(w:aC)(d:Str->Option ab)(a5:Heap)(k:Nat)(m:Str)(c:Nat)(h:bp->Option D):Prop:=
 ∃(f:Addr) (a:cp) (b:aE),I' G.K (G.ca c)/\Meth G.K (G.ca c) m f/\j1 G.K a b []/\zA P w G.K d a5 zE k f a b (eb G h)
section
variable{X:Cx}{G:Bg}{k:Nat}{x m:Str}{p pos apos:Pos}{e o:Expr}{es:List Expr}{a:FA}{ps:aE}
def G0{c:Type}(g:bp->c):(λb=>g (b++[]))=g:=funext λb=>by rw[bZ]
set_option r "aaw eb F vq Wv;WL pw H wm SC" in def ϑ0(D:GZ X.prog X.w X.K X.mg X.a5 k x ps (ϑ1 G g))(t:xX k X.A)(j:PA X (e::es) (q? G a))(r:Gl X x:=by rfl)(b:(x==("__debug__" : Str))=δ:=by decide)(l:aF (e::es) X.a4=(δ,eval e X.a4)::aF es X.a4:=by rfl)(hpl:(bO pos (aF es X.a4)).any (·.1)=δ:=by rfl):
  PE X (.Call (.Name x p) (e::es) [] pos) (tϑ2 G (ϑ3 g a)):=by
 obtain⟨f,u,c,d,h,i⟩:=D;have q:=ϑ4 (λy=>wj) (OM (p:=p) i t r c d h .nil LY j b l hpl);rw[G0]at q;exact q
def SW(D:GZ X.prog X.w X.K X.mg X.a5 k x ps (pw G g))(l:xX k X.A)(j:autoParam (Gl X x) zA0._auto_1)(b:autoParam ((x==("__debug__" : Str))=δ) zA1._auto_1):PE X (.Call (.Name x p) [] [] pos) (tH G (wm g vO)):=by obtain⟨f,q,c,d,h,i⟩:=D;exact QD (RX i l j c d h .nil LY b)
def WM(M:KN G X.prog X.w X.mg X.a5 k x c ps dvs g)(hd:∀H,a6 G H dds dvs)(y:xX (k+1) X.A)(r:PA X (e::es) (q? G a))(hK:autoParam (X.K=G.K) zA0._auto_1)(u:autoParam (Gl X x) zA0._auto_1)(b:autoParam ((x==("__debug__" : Str))=δ) zA1._auto_1)
  (t:autoParam (aF (e::es) X.a4=(δ,eval e X.a4)::aF es X.a4) zA0._auto_1) (hpl:autoParam ((bO pos (aF es X.a4)).any (·.1)=δ) zA0._auto_1):
  PE X (.Call (.Name x p) (e::es) [] pos) (tF G (wg c (λd=>g (d++dds)) a)):=by
 obtain⟨f,z,d,h,l,i,q,j⟩:=M;rw[<-hK]at h i j;exact Wx hd (VP h j y u l i q LY r b t hpl)
def Yq(M:∀c h,g c=Z h->Cg G X.prog X.w X.mg X.a5 k m c h)(q:xX k X.A)(hK:X.K=G.K):∀C b,MT G g C b->MOk X C m b [] E0:=λC b h=>by obtain⟨c,h,e,rfl,rfl⟩:=h;obtain⟨f,l,ps,d,i,q3,j⟩:=M c h e;rw[<-hK]at d i q3 j;exact#v[k,f,l,ps,[],d,i,j,q,q3,.nil,LY]
def QQ(M:∀c h,g c=Z h->Cg G X.prog X.w X.mg X.a5 k m c h)(j:xX k X.A)(i:PE X o (tF G f))(d:PA X (e::es) (q? G a))(hK:autoParam (X.K=G.K) zA0._auto_1)
  (hst:autoParam (aF (e::es) X.a4=(δ,eval e X.a4)::aF es X.a4) zA0._auto_1) (hpl:autoParam ((bO pos (aF es X.a4)).any (·.1)=δ) zA0._auto_1)
  (l:autoParam (eval (.Call (.Attribute o m apos) (e::es) [] pos) X.a4=(do
   let b<-eval o X.a4
   standAt apos.atName
   let (f,first)<-holding [b] (getMethod b m pl)
   callWith pos f first (bO pos (aF (e::es) X.a4)) (backToKw pos (dQ [] X.a4)))) zA0._auto_1):
  PE X (.Call (.Attribute o m apos) (e::es) [] pos) (tF G (vR g m f a)):=Ww (SE (MT G g) (Yq M j hK) i d hst hpl l)
def NS(M:∀c h,g c=Z h->Cg G X.prog X.w X.mg X.a5 k m c h)(i:xX k X.A)(d:PE X o (tF G f))(hK:autoParam (X.K=G.K) zA0._auto_1)
  (j:autoParam (eval (.Call (.Attribute o m apos) [] [] pos) X.a4=(do
   let b<-eval o X.a4
   standAt apos.atName
   let (f,first)<-holding [b] (getMethod b m pl)
   callWith pos f first (bO pos (aF [] X.a4)) (backToKw pos (dQ [] X.a4)))) zA0._auto_1):
  PE X (.Call (.Attribute o m apos) [] [] pos) (tF G (vR g m f vO)):=SF (QF (MT G g) (Yq M i hK) d j)
end
section
variable{P:aL}{w:aC}{K:av}{mg:Str->Option ab}{a5:Heap}{x qual:Str}{st:Stmt}{f T:Addr}{fd:cp}{N ps:aE}{k:Nat}{G:Bg}
abbrev Ir(P:aL)(w:aC)(K:av)(mg:Str->Option ab)(a5:Heap)(N:aE)(qual:Str)(st:Stmt)(f:Addr)(cdv:ab)(A:aQ)(b3:List Env)(s:ae)(H:Hp)(E:XK):Cx:=(LN zE P w K mg a5 N qual (vY st) f cdv A b3 s H E).nox
set_option r "SX dr np eb R q e n;ad5 qi e pw S r i p" in theorem ϑ0(a:g=ϑ1 ϑ2 n b)(c:ps.length=ϑ2)(hN:N.length=n)(F:V' K x qual st f fd)(S:yA N ps (vY st))(body:∀(cdv:ab) (A:aQ) (b3:List Env) (s:ae) (H:Hp) (E:XK),xX k (A.deeper (envOfC qual (vY st) s.heap.objs.size f cdv))->mw (Ir P w K mg a5 N qual st f cdv A b3 s H E) (wJ st) (ki G b)):
  zA P w K mg a5 zE (k+1) f fd ps (ϑ3 G g):=by
 subst a c hN;exact F.ok S (adϑ4 Wϑ5) λcdv A b3 s H ϑ6 Q E d h=>#v[_,body cdv A b3 s H E d,Wϑ7 (by have:=bD cO S.pre;rw[cA]at this;omega) h]
def Yr(d:∀a q,g a=Z q->a.length=i):∀b H Q E,spI G c g b H Q E->b.length=i+1:=λb H Q E h=>by obtain⟨p,l,t,j,a,o,m,rfl,_,_,_,r,e,_⟩:=h;rw[aS,<- vC r,d _ _ e]
theorem ad6{ps:aE}(a:g=rr c i n b)(d:ps.length=i)(hN:N.length=n)(F:V' K x qual st f fd)(S:yA N (p::ps) (vY st))(body:∀(cdv:ab) (A:aQ) (b3:List Env) (s:ae) (H:Hp) (E:XK),xX k (A.deeper (envOfC qual (vY st) s.heap.objs.size f cdv))->mw (Ir P w K mg a5 N qual st f cdv A b3 s H E) (wJ st) (ki G b)):
  zA P w K mg a5 zE (k+1) f fd (p::ps) (spI G c g):=by
 subst a d hN;exact F.ok S (Yr λj q h=>(Ih h).1) λcdv A b3 s H l Q E e h=>#v[_,body cdv A b3 s H E e,OY (by have:=bD cO S.pre;rw[cA,aS]at this;omega) h]
theorem aax{ps:aE}(a:g=rr c i n b)(d:ps.length=i)(hN:N.length=n)(F:QB K x qual st f fd T)(S:yA N (p::ps) (vY st))(body:∀(cdv:ab) (A:aQ) (b3:List Env) (s:ae) (H:Hp) (E:XK),xX k (A.deeper (envOfC qual (vY st) s.heap.objs.size f cdv))->mw (Ir P w K mg a5 N qual st f cdv A b3 s H E) (wJ st) (ki G b)):
  zA P w K mg a5 zE (k+1) f fd (p::ps) (spI G c g):=by
 subst a d hN;exact F.ok S (Yr λj q h=>(Ih h).1) λcdv A b3 s H l Q E e h=>#v[_,body cdv A b3 s H E e,OY (by have:=bD cO S.pre;rw[cA,aS]at this;omega) h]
end
section
variable{X:Cx}{G:Bg}
def Ba(G:Bg)(a:Str->Option ab)(x:Str)(d:D):Prop:=∃(v:V) (u:ab),a x=Z u/\dd v u/\∀H,cb G H d v
def SY(h:Ba G X.mg x d)(e:autoParam (Gl X x) zA0._auto_1)(hd:autoParam ((x==("__debug__" : Str))=δ) zA1._auto_1):PE X (.Name x pos) (tF G (cC d)):=by obtain⟨v,u,a,b,c⟩:=h;exact V8 (HB e a b hd) c
def QR:FS:=λy=>U
def w5(T:String):Ty->Option Bool
 |.b n=>if n="NoneType" then Z δ else if n="bool" then Z (T=="bool" ||T=="int")else if n="int" then Z (T=="int")else if n="str" then Z (T=="str")else if n="tuple" then Z (T=="tuple")else if n="list" then Z (T=="list")else if n="dict" then Z (T=="dict")else U
 |.c _=>U
def SZ:∀k b,w5 T (.c k)=Z b->Jw X.K (G.ca k):=λk b h=>by cases h
def NT:List String:=["NoneType", "bool", "int", "str", "tuple", "list", "dict"]
def Iu{T:String}(h:(NT.all λn=>decide (cJ X.K ((Ty.b n).val G) (.type T)=w5 T (.b n)))=γ):∀y b,w5 T y=Z b->cJ X.K (y.val G) (.type T)=Z b:=λy b e=>by
 cases y with
 |c k=>cases e
 |b n=>
  by_cases a:n∈NT
  .rw[bj (aK.1 h n a)];exact e
  .simp only[NT,aJ,bU,or_false,not_or]at a;simp[w5,a]at e
set_option r "S0 list;WN str" in def ϑ0:∀y b,w5 "ϑ1" y=Z b->cJ X.K (y.val G) (.type "ϑ1")=Z b:=Iu (by kernel_rfl)
end
end L4
namespace L3
open PySem PySem.Spec PyProof.Rows L2
def WO{X:Cx}{spos:Pos}{d3:List Nat}
  (M:X.l0=γ) (hN:X.N.Nodup) (T:X.N[i]?=Z y) (hyl:Loc X.a4.scope y) (P:PI X r iter wi)
  (body:∀(l:List (Str×Addr)) (C:Addr) (p:List Addr) (s:ae) (H:Hp),PG (xF X c scope l C p s H) r g/\PIf (xF X c scope l C p s H) ifs tt/\PE (xF X c scope l C p s H) elt te)
  (hkind:autoParam (scope.kind=.function) zA0._auto_1) (hcell:autoParam ((scope.names.all λy=>y.2 != .cell)=γ) zA0._auto_1)
  (hloc:autoParam ((scope.names.all λy=>y.2 != .local||scope.names.lookup y.1==Z .local)=γ) zA0._auto_1)
  (hfree:autoParam ((scope.names.all λy=>y.2 != .free||(X.a4.kindOf y.1==Z .cell||X.a4.kindOf y.1==Z .free))=γ) zA0._auto_1)
  (f:autoParam (c.length=k+d3.length) zA0._auto_1) (hcap:autoParam ((c.drop k).map Z=d3.map λj=>X.N[j]?) zA0._auto_1)
  (hcf:autoParam (((c.drop k).all λx=>scope.names.lookup x==Z .free)=γ) zA0._auto_1)
  (S:autoParam (∀x,i7 iter X.a4 x=pure x) zA3._auto_1)
  (hsw:autoParam (dR (.ListComp elt [#v[r,iter,ifs,0]] scope pos) (Z (.Name y Y)) spos.line X.a4=pure γ) zA0._auto_1)
  (hfy:autoParam (X.fn y=γ\/X.a4.scope.names.lookup y=Z .local) zA2._auto_1):
  PS X (.Assign [.Name y Y] (.ListComp elt [#v[r,iter,ifs,0]] scope pos) spos) (EY (GV wi g tt te k d3) (A2 i)):=by
 intro B s σ H D I h;rw[exec_Assign_Name_used _ _ _ _ hsw];refine ah (rE (ah ?_));refine ah (cy (JP M P body hkind hcell hloc hfree f hcap hcf S I h λa C m u s4 F Q A4 fpC qn=>?_) (λn s' R=>aq (aq R)) λn n e=>e);obtain⟨oC,esC,nC,gC,dC,rC⟩:=id Q;have J:=A4.L' (λb d=>br.1 d▸fpC) (λb d=>br.1 d▸#v[oC,gC,λv z=>by rw[dC]at z;cases z]);refine e0 (OF hN T hyl hfy _ s4 σ F (.ref a) (.ref a) (λt E=>D.nx t E) J O qn) λn s6 zz=>?_;obtain⟨w,G,A,q6⟩:=zz;obtain⟨W,p2,_⟩:=A.Dv (C,oC) (bB _ (bB _ (AC (by simp) gC)));exact#v[m,#v[oC,esC,nC,W,dC,rC],λh' q=>#v[w,G,A.ma.iE (λb o d e=>(q.2 b d).t e) p2 fpC.2.1 fpC.2.2.2.1 fpC.2.2.2.2.1 fpC.2.2.2.2.2,q6]]
end L3
namespace L4
open PySem PySem.Spec PyProof.Rows L2 L3
section
variable{X:Cx}{G:Bg}
def Iv{st:Stmt}(h:PS X st (EY d g))(w:∀b H Q,a b H Q->d b H Q):PS X st (EY a g):=PS.b4 h λE b H c=>w _ _ _ c
def QS{st:Stmt}{d3:List Nat}(c:d3.Nodup)(h:PS X st (EY (GV (M? G s) (Z' G k g) (k? G b) (tF G a) k d3) (A2 i))):PS X st (ki G (ya i (vy k d3 s g b a))):=Ma (Iv h (KJ c))
def S4{st:Stmt}{d3:List Nat}(c:d3.Nodup)(h:PS X st (EY (GV (M? G s) (Z' G k g) (k? G b) (tF G a) k d3) (A2 i))):PS X st (ki G (vI i (cL (vy k d3 s g b a)))):=OX (Iv (Iv h (KJ c)) tN_F)
end
section
variable{f g h:FS}{c:FT}{e e' e2:FE}{a a':FA}{ρ ρ' ρ1 ρ2 ρ3:bh}{d x y z:D}{o:B'}{ds xs ys:bp}
def vt(h:f ρ=Z (.nx ρ')):a0 f g ρ=g ρ':=by unfold a0;rw[h]
def vZ(h:f ρ=Z (.rt d ρ')):a0 f g ρ=Z (.rt d ρ'):=by unfold a0;rw[h]
set_option r "t γ f;U δ g" in def wϑ0(h:c ρ=Z (ϑ1,ρ')):en c f g ρ=ϑ2 ρ':=by unfold en;rw[h]
set_option r "wN e d vI I;WQ a ds ya ls" in def ϑ0(h:ϑ1 ρ=Z (ϑ2,ρ')):ϑ3 i ϑ1 ρ=Z (.nx (ρ'.set i (.ϑ4 ϑ2))):=by unfold ϑ3;rw[h]
set_option r "vP e d vw t;xB a ds wQ n" in def ϑ0(h:ϑ1 ρ=Z (ϑ2,ρ')):ϑ3 ϑ1 ρ=Z (.rϑ4 ϑ2 ρ'):=by unfold ϑ3;rw[h]
def xH(h:e ρ=Z (d,ρ')):v8 e ρ=Z (.nx ρ'):=by unfold v8;rw[h]
def vp{g:D->D->Option D}(b:e ρ=Z (x,ρ1))(i:e' ρ1=Z (y,ρ2))(j:g x y=Z z):c2 g e e' ρ=Z (z,ρ2):=by unfold c2;rw[b];simp only[i,j]
def we{g:D->Option D}(b:e ρ=Z (x,ρ1))(i:g x=Z z):c1 g e ρ=Z (z,ρ1):=by unfold c1;rw[b];simp only[i]
def NU(b:e (ρ.map Sl.bor)=Z (d,ρ1))(i:yq d=γ):KM e ρ=Z (d,ρ):=by unfold KM;rw[b];simp only[i,if_true]
def O3(i:c (ρ.map Sl.bor)=Z (b,ρ1)):GY c ρ=Z (b,ρ):=by unfold GY;rw[i]
def v7(i:e ρ=Z (.X b,ρ1)):cT e ρ=Z (b,ρ1):=by unfold cT;rw[i]
def yC(i:c ρ=Z (b,ρ1)):w9 c ρ=Z (!b,ρ1):=by unfold w9;rw[i]
def yM(j:c ρ=Z (δ,ρ1))(l:i ρ1=Z (b,ρ2)):xC c i ρ=Z (b,ρ2):=by unfold xC;rw[j];exact l
def vn(b:e ρ=Z (d,ρ1))(i:a ρ1=Z (ds,ρ2)):ax e a ρ=Z (d::ds,ρ2):=by unfold ax;rw[b];simp only[i]
def vm{b:Type}{g:bp->Option b}{r:b}(i:a ρ=Z (ds,ρ1))(j:g ds=Z r):Gc g a ρ=Z (r,ρ1):=by unfold Gc;rw[i];simp only[j]
def wb(b:a ρ=Z (ds,ρ1)):cL a ρ=Z (.a3 ds,ρ1):=by unfold cL;rw[b]
def KO(b:a ρ=Z (ds,ρ1))(i:ds.length<=1000):vJ a ρ=Z (ds,ρ1):=by unfold vJ;rw[b];simp only[i,if_true]
def xO(b:a ρ=Z (ds,ρ1))(i:ds.length<=1000):vM a ρ=Z (.a7 ds,ρ1):=by unfold vM;rw[b];simp only[i,if_true]
def xn(b:e ρ=Z (.a3 xs,ρ1))(i:e' ρ1=Z (.a3 ys,ρ2))(j:xs.length+ys.length<=1000):xi e e' ρ=Z (xs++ys,ρ2):=by unfold xi;rw[b];simp only[i,j,if_true]
def zB(l:yp ρ i=Z j)(m:e ρ=Z (d,ρ1))(p:yp ρ1 i=Z b)(q:b.length<1000):Ae i e ρ=Z (.O,putAt ρ1 i (b++[d])):=by unfold Ae;rw[l];simp only[m,p,q,if_true]
def S5(l:yp ρ i=Z j)(m:a ρ=Z (ds,ρ1))(p:yp ρ1 i=Z b)(q:b.length+ds.length<=1000):Ii i a ρ=Z (.O,putAt ρ1 i (b++ds)):=by unfold Ii;rw[l];simp only[m,p,q,if_true]
def yO{s:FA}{g:FG}(b:s ρ=Z (ds,ρ1)):yb s g f ρ=f3 g f ds ρ1:=by unfold yb;rw[b]
def O4{k:Nat}{d3:List Nat}{s:FA}{g:FG}{i:FT}{b:FE}(j:s ρ=Z (ds,ρ1))(l:ds.length<=1000):vy k d3 s g i b ρ=Eg k d3 g i b ds ρ1:=by unfold vy;rw[j];simp only[l,if_true]
set_option r "z4 n xs qi;vF t d dr" in def ϑ0(i:ds.length=j)(h:b (L4.y0 n ds)=Z (.rϑ1 ϑ2 ρ)):ϑ3 j n b ds=Z ϑ2:=by unfold ϑ3;rw[aj i,h]
end
def yD(h:EB a=γ\/EB b=γ):yZ (.int a) (.int b)=Z (.int (a * b)):=by unfold yZ dI;simp only;rw[aj (by simpa using h)]
def Ci(h:0<b):vX (.int a) (.int b)=Z (.int (a % b)):=by unfold vX dI;simp only;rw[aj (by simpa using h)]
def r?(h:0<b)(c:b<1073741824):wW (.int a) (.int b)=Z (.int (a / b)):=by unfold wW dI;simp only;rw[aj (by simp[h,c])]
def DA(h:0<=a)(b:a<2147483647):EB a=γ:=by unfold EB;simp only[aT,bE];omega
def BS:D->Option d?
 |.int i=>Z (.inl i)
 |.str x=>Z (.inr x)
 |_=>U
def xj:List d?->bp->d?->Option D
 |k::b,d::a,j=>if k=j then Z d else xj b a j
 |_,_,_=>U
def WR(e:List d?)(b:bp)(k:d?)(d:D):bp:=fz (λc a=>if c=k then d else a) e b
def KP(b:List d?)(k:d?):Bool:=b.any λa=>decide (a=k)
section
variable{X:Cx}{G:Bg}{H:Hp}
def Cj(h:cb G H d v)(e:BS d=Z k):v=kV k:=by
 cases d<;>first|cases e|skip
 all_goals (unfold cb at h;exact h)
theorem DB:∀{ks:List d?} {b:bp} {a:bF} (j:d?),a6 G H b a->ks.length=a.length->match xj ks b j with
  |some d=>∃v,za (ks.zip a) j=Z v/\cb G H d v
  |none=>za (ks.zip a) j=U
 |[],b,a,j,r,l=>by cases b<;>rfl
 |k::ks,b,[],j,r,l=>by cases l
 |k::ks,[],x::a,j,r,l=>by unfold a6 at r;cases r
 |k::ks,d::b,x::a,j,r,l=>by
  obtain⟨v,q,e,h,i⟩:=r;cases e;unfold xj;by_cases c:k=j
  .rw[aj c];exact#v[x,E5 c,h]
  .rw[ak c];have m:=DB j i (by simpa using l);have f:za ((k::ks).zip (x::a)) j=za (ks.zip a) j:=E6 c;rw[f];exact m
theorem KQ:∀{a:List d?} {b:bF},a.length=b.length->((a.zip b).any λkv=>decide (kv.1=k))=KP a k
 |[],b,_=>by cases b<;>rfl
 |c::a,[],l=>by cases l
 |c::a,x::b,l=>by unfold KP;rw[fM,gL,gL,KQ (by simpa using l)];rfl
theorem O5:∀{a:List d?} {b:bF},a.length=b.length->(a.zip b).map (λkv=>if kv.1=k then (kv.1,v)else kv)=a.zip (fz (λd x=>if d=k then v else x) a b)
 |[],b,_=>by cases b<;>rfl
 |d::a,[],l=>by cases l
 |d::a,x::b,l=>by
  rw[fM,aU,O5 (by simpa using l),iX,fM];congr 1;by_cases c:d=k
  .rw[aj c,aj c]
  .rw[ak c,ak c]
theorem Mo(hd:cb G H d v):∀{c:List d?} {b:bp} {a:bF},a6 G H b a->c.length=a.length->a6 G H (WR c b k d) (fz (λf x=>if f=k then v else x) c a)
 |[],b,a,r,l=>by unfold WR;cases b<;>cases a<;>exact wj
 |f::c,b,[],r,l=>by cases l
 |f::c,[],x::a,r,l=>by unfold a6 at r;cases r
 |f::c,m::b,x::a,r,l=>by
  obtain⟨w,q,e,i,j⟩:=r;cases e;unfold WR;rw[iX,iX];refine wB ?_ (Mo hd j (by simpa using l));by_cases h:f=k
  .rw[aj h,aj h];exact hd
  .rw[ak h,ak h];exact i
def _root_.L2.pa.kf(e:H a=Z (.mi o (.dK kvs))):pa H a (kV k) (za kvs k):=.inl #v[kvs,k,.inr #v[o,e],O,O]
def Ei:D->D->Option D:=λx y=>match x,BS y with
 |.Y b a,Z k=>xj b a k
 |_,_=>U
def WS(hu:X.A.units+1<cLine)(S:PE X a (tF G f))(T:PE X b (tF G J))(Y:ZQ b:=by exact λs s=>O):PE X (.Subscript a b pos) (tF G (c2 Ei f J)):=PE.b4 (VX hu S T Y) λσ H Q W=>by
 obtain⟨F,ρ,r,d,o,R,e,k⟩:=W;obtain⟨x,y,h,E,I,c⟩:=E8 e;refine#v[F,ρ,r,x,h,R,E,λv t z s1 C r1=>#v[F,h,t,y,o,C,I,λu B i q R2 r2=>?_]];have m:=cb.mono q _ _ r1;cases x with
 |Y ks ds=>
  unfold Ei at c;cases l:BS y with
  |none=>simp only[l]at c;cases c
  |some j=>simp only[l]at c;obtain⟨p,ob,xs,rfl,M,N,P⟩:=m;have lv:=DB j P N;rw[c]at lv;obtain⟨w,w1,w2⟩:=lv;refine#v[p,w,O,?_,k w B i (s1.t q) R2 w2];rw[Cj r2 l,<- w1];exact pa.kf (R2.sub _ _ M)
 |_=>unfold Ei at c;cases c
def Dh:D->D->Option D:=λx y=>match x,BS y with
 |.Y b a,Z k=>Z ((xj b a k).getD .O)
 |_,_=>U
def S6(hu:X.A.units+1<cLine)(ha:PE X a (tF G f))(hb:PE X b (tF G Y))(m:M1 X a "get" apos b cpos):PE X (.Call (.Attribute a "get" apos) [b] [] cpos) (tF G (c2 Dh f Y)):=PE.b4 (Sf hu ha hb m) λσ H Q hh=>by
 obtain⟨F,ρ,M,d,r,R,e,k⟩:=hh;obtain⟨x,y,i,T,W,c⟩:=E8 e;cases x with
 |Y I S=>
  refine#v[F,ρ,M,_,i,R,T,λv N P J B r1=>?_];have q:=r1;obtain⟨p,ob,xs,rfl,E,h2,h3⟩:=q;refine#v[p,O,.inl #v[_,.inr #v[_,B.sub _ _ E]],F,i,N,y,r,B,W,λu t h l R2 r2=>?_];unfold Dh at c;cases o:BS y with
  |none=>simp only[o]at c;cases c
  |some j=>
   simp only[o]at c;cases c;have lv:=DB j (a6.mono l _ _ h3) h2;refine#v[za (I.zip xs) j,?_,?_]
   .rw[Cj r2 o];exact pa.kf (R2.sub _ _ (l _ _ E))
   .cases C:xj I S j with
    |none=>rw[C]at lv k;rw[lv];exact k _ t h (J.t l) R2 Ad
    |some z=>rw[C]at lv k;obtain⟨w,w1,w2⟩:=lv;rw[w1];exact k _ t h (J.t l) R2 w2
 |_=>unfold Dh at c;cases c
def Iw(i:Nat):FS:=λa=>Z (.nx (a.set i (.dk [] [])))
def S7{st:Stmt}(h:PS X st (EY NH (A2 i))):PS X st (ki G (Iw i)):=PS.b4 h λE u H l=>by obtain⟨F,r,m,o,R,e,k,q⟩:=l;cases e;intro p b;have c:=R.ff b (.dK []);refine k _ _ _ (vS.refl _) (c.set #v[p,[],O,vE,R.ef b,R.fm b,O,wj] λy a d j t y f to=>?_);cases d;exact R.apart b j t f to
def zC(i:Nat)(fk fv:FE):FS:=λf=>match fv f with
 |some (d,b)=>match b[i]? with
  |some (.dk _ _)=>match fk b with
   |some (y,c)=>match BS y with
    |some k=>match c[i]? with
     |some (.dk a e)=>if a.length<1000 then if e.length=a.length then Z (.nx (c.set i (if KP a k=γ then .dk a (WR a e k d)else .dk (a++[k]) (e++[d]))))else U else U
     |_=>U
    |none=>U
   |none=>U
  |_=>U
 |none=>U
set_option h true
def S8{st:Stmt}(h:PS X st (Yi (Et i) (tF G Q) (tF G S))):PS X st (ki G (zC i Q S)):=PS.b4 h λE σ H hh=>by
 obtain⟨F,q,Y,o,R,e,k,k2⟩:=hh;unfold zC at e;rcases wc (f:=S) (ρ:=q)with t|⟨d,c,t⟩<;>simp only[t]at e
 .cases e
 split at e
 .rename_i ks0 ds0 ei;rcases wc (f:=Q) (ρ:=c)with w|⟨y,C,w⟩<;>simp only[w]at e
  .cases e
  cases z:BS y with
  |none=>simp only[z]at e;cases e
  |some j=>
   simp only[z]at e;split at e
   .rename_i A ds l;split at e
    .rename_i hl;split at e
     .rename_i hl2;cases e;refine#v[F,q,Y,d,c,R,t,λv H1 H1' s1 I r1=>?_];obtain⟨m,xs0,a1,_⟩:=I.sl i _ ei;refine#v[_,zN a1,F,c,H1,y,C,I,w,λu H2 r W R2 r2=>?_];obtain⟨a,B,J,b2,M,N,b,P⟩:=R2.sl i _ l;rw[a1]at J;cases J;refine#v[m,eg r m (.dK (g? (A.zip B) j v)),O,?_,?_]
      .rw[Cj r2 z];exact Sa.k b2 (by rw[iw];exact gn (Nat.min_le_left _ _) (BP (by omega)))
      .have T:=cb.mono W _ _ r1;refine k _ _ _ (s1.t W) (R2.mut l O a1 (λH' hH=>?_) ?_)
       .by_cases p:KP A j=γ
        .rw[aj p];refine#v[m,fz (λk' x=>if k'=j then v else x) A B,O,?_,M,N,by rw[lQ,b,gS],Mo T P b];rw[hH];unfold g?;rw[KQ b,aj p,O5 b]
        .rw[ak p];refine#v[m,B++[v],O,?_,M,N,by rw[aA,aA,b];rfl,xp P (wB T wj)];rw[hH];unfold g?;rw[KQ b,ak p,mT b];rfl
       .split<;>rfl
     .cases e
    .cases e
   .cases e
 .cases e
set_option h false
def Hv:D->Option D
 |.a3 a=>(Jv a).map λbs=>.X (bs.any id)
 |_=>U
def QT(x:X.l0=γ)(hK:autoParam (X.K=G.K) zA0._auto_1):xD X (.builtin "any") (λw H Q=>∃(p:Addr) (bs:List Bool),w=[.ref p]/\fb G.K H p (bs.map V.X)/\Q (.X (bs.any id)) H):=by
 rw[<-hK];intro m s T H w S Q I r h;obtain⟨p,bs,rfl,C,q⟩:=h;obtain⟨u,rfl,j⟩:=kb r;cases j;obtain⟨f,t,pl,N⟩:=I.list C;have hlt:p<s.heap.objs.size:=by obtain⟨o,B,_⟩:=pl.isList;exact a9 B
 have z:=by have:=t.length;rw[af]at this;exact this
 refine call_any_walk (ir pl.isList #v[s.heap.objs.size,_,_,_,_,_,λi=>(bs[i]?).getD δ,O,jo (show X.A.in1.handled=U from I.ok.hd x) _ p (bg hlt) f.toArray,#v[#v[_,bw _ O,O,O],?_],?_,λM R y=>?_])
 .exact pl.isList.at λo e=>aR _ e
 .intro i v P J F E hQ';have c:=by simpa using E
  have a:=(cj.1 c).1;have d:(bs.map V.X)[i]?=Z (.X (bs[i]'(by omega))):=by simp[show i<bs.length by omega]
  obtain⟨u,l,j⟩:=t.get d;rw[c]at l;cases l;cases j;refine dJ ?_;have e:(bs[i]?).getD δ=bs[i]'(by omega):=by simp[show i<bs.length by omega]
  rw[<-e];exact hQ'
 .refine#v[.X (bs.any id),H,?_,?_,q]
  .exact I.fu λb o e=>y b o (by simp;exact bg (a9 e)) (aR _ e)
  .show Value.bool _=Value.bool _;congr 1;rw[bf,<- z];rw[d5];simp only[fP,bx,id];constructor
   .rintro⟨i,a,h⟩;exact#v[bs[i],gv a,by simpa [a]using h]
   .rintro⟨b,d,h⟩;obtain⟨i,a,rfl⟩:=lC.1 d;exact#v[i,a,by simpa [a]using h]
def aay:JT G (λd H Q=>∃(p:Addr) (bs:List Bool),d=[.ref p]/\fb G.K H p (bs.map V.X)/\Q (.X (bs.any id)) H) Hv:=λx z j H v Q e s i k=>by
 cases x with
 |a3 f=>
  unfold Hv at e;simp only at e;cases b:Jv f with
  |none=>rw[b]at e;cases e
  |some bs=>rw[b]at e;cases e;obtain⟨a,d,rfl,c,h⟩:=i;rw[Iq h b]at c;exact#v[a,bs,O,s.seq (fb.of c),k _ λy y=>yh _]
 |_=>cases e
def iS(f:FE):FA:=λb=>match f b with
 |some (.str x,a)=>Z (x.cps.toList.map λc=>D.str #v[#[c]],a)
 |_=>U
set_option h true
def WT(h:PI X M e (iStr (tF G f))):PI X M e (M? G (iS f)):=PI.b4 h λσ H R E=>by
 obtain⟨F,N,p,Y,P,R,e,k⟩:=E;unfold iS at e;split at e
 .rename_i x Q B;cases e;refine#v[F,N,p,_,_,R,B,λv S q s A r=>?_];refine#v[x,r,k _ _ _ s A λi u w t J=>#v[λd j=>?_,λI=>?_]]
  .rw[bq]at j;cases m:x.cps.toList[i]? with
   |none=>rw[m]at j;cases j
   |some c=>
    rw[m]at j;cases j;have a:=by simpa using m
    refine#v[(oK.1 a).1,λz T y=>?_];obtain⟨C,W,l,rfl⟩:=y;rw[a]at l;cases l;subst C;exact#v[u,vS.refl _,J,vS.refl _,λb o e=>.inl e,Ac _]
  .show i=x.cps.size;rw[I,af];simp
 .cases e
set_option h false
def Fg(f g:FE):FE:=λe=>match f e with
 |some (.a7 (x::c),a)=>match g a with
  |some (.a7 d,b)=>if c.length+d.length<=900 then Z (.a7 (x::c++d),b)else U
  |_=>U
 |_=>U
set_option h true
def WU(T:PE X a (tF G f))(W:PE X b (tF G g))(hK:autoParam (X.K=G.K) zA0._auto_1):PE X (.BinOp a .Add b pos) (tF G (Fg f g)):=PE.b4 (OI OQ T W) λσ H Q Y=>by
 rw[hK];obtain⟨F,ρ,y,d,ρ',R,e,k⟩:=Y;unfold Fg at e;split at e
 .rename_i x xs c J;split at e
  .rename_i ys ρ2 M;split at e
   .rename_i hl;cases e;refine#v[F,ρ,y,_,c,R,J,λv A B s E r=>#v[F,c,A,_,_,E,M,λu H2 C l R2 r2=>?_]];have w:=cb.mono l _ _ r;have r0:=w;obtain⟨a1,m,rfl,P,q⟩:=w;obtain⟨I,o,rfl,S,t⟩:=r2;have h:=vC q;have j:=vC t;rw[aS]at h;refine#v[a1,I,m,o,O,O,e8.mono R2.sub P,e8.mono R2.sub S,(λz=>by rw[z]at h;cases h),by rw[<-h,<- j];exact yn (by omega),λz=>?_,λn p i=>?_]
    .have N:=by rw[z]at j;exact fK.1 j
     subst N;rw[bZ]at k;exact k _ _ _ (s.t l) R2 r0
    .exact k _ _ _ ((s.t l).t (vK (R2.ef i) _)) (R2.rh i _) (A9 (e8.of vE) (a6.mono (vK (R2.ef i) _) _ _ (xp q t)))
   .cases e
  .cases e
 .cases e
end
set_option h false
section
variable{X:Cx}{G:Bg}
abbrev FO:=bh->Option (Option Int×bh)
inductive ItFO(G:Bg) (f:FO) (σ:St) (H:Hp) (Q:(Option Int->Hp->Prop)):Prop
 |i (F ρ H0 d ρ') (h0:b0 G F σ ρ H0 H) (h1:f ρ=Z (d,ρ')) (h2:∀H0' H',vS H0 H0'->b0 G F σ ρ' H0' H'->Q d H'):ItFO G f σ H Q
def tFO(G:Bg)(f:FO):TO:=λa H Q=>ItFO G f a H Q
def tz:FO:=λa=>Z (U,a)
def mr(f:FE):FO:=λb=>match f b with
 |some (.int i,a)=>Z (Z i,a)
 |_=>U
def PO.b4(h:PO X e t)(w:∀b H Q,d b H Q->t b H Q):PO X e d:=λa s b H Q I c=>h a s b H Q I (w _ _ _ c)
def aaz:PO X U (tFO G tz):=PO.b4 OO λh H Q a=>by obtain⟨F,f,c,d,b,R,e,k⟩:=a;cases e;exact k _ _ (vS.refl _) R
set_option h true
def aaA(h:PE X e (tF G f)):PO X (Z e) (tFO G (mr f)):=PO.b4 (OP h) λt H Q l=>by
 obtain⟨F,m,a,d,o,R,e,k⟩:=l;unfold mr at e;split at e
 .rename_i i p j;cases e;refine#v[F,m,a,_,_,R,j,λv q b s c r=>?_];unfold cb at r;exact#v[i,r,k _ _ s c]
 .cases e
set_option h false
def Fh(f:FE)(lo hi:FO):FA:=λi=>match f i with
 |some (d,c)=>match d with
  |.a3 e=>match lo c with
   |some (l,a)=>match hi a with
    |some (h,b)=>Z (fg e l h,b)
    |none=>U
   |none=>U
  |.mn e=>match lo c with
   |some (l,a)=>match hi a with
    |some (h,b)=>Z (fg e l h,b)
    |none=>U
   |none=>U
  |_=>U
 |none=>U
def NV{lo:FO}(h:PE X e (tSl (Qs G.K) (tF G f) (tFO G lo) (tFO G w))):PE X e (tH G (Fh f lo w)):=PE.b4 h λσ H Q hh=>by
 obtain⟨F,q,M,Y,E,R,e,k⟩:=hh;unfold Fh at e;rcases wc (f:=f) (ρ:=q)with y|⟨d,c,y⟩<;>simp only[y]at e
 .cases e
 have n3:∀(i:bp),(∀{m:Hp} {v:V},cb G m d v->∃a j,v=.ref a/\fb G.K m a j/\a6 G m i j)->(match lo c with
   |some (l,b)=>match w b with
    |some (h,t)=>Z (fg i l h,t)
    |none=>U
   |none=>U)=Z (Y,E)->tSl (Qs G.K) (tF G f) (tFO G lo) (tFO G w) σ H Q:=λi rd e=>by
  rcases wc (f:=lo) (ρ:=c)with z|⟨l,b,z⟩<;>simp only[z]at e
  .cases e
  rcases wc (f:=w) (ρ:=b)with A|⟨u,t,A⟩<;>simp only[A]at e
  .cases e
  cases e;refine#v[F,q,M,d,c,R,y,λv m N s1 W r1=>#v[F,c,m,l,b,W,z,λP S I R2=>#v[F,b,P,u,_,R2,A,λH3 T J o=>?_]]];obtain⟨a,j,rfl,B,C⟩:=rd (cb.mono (I.t J) _ _ r1);exact#v[a,j,O,o.sub.seq B,λp x=>k p _ _ _ (s1.t (I.t J)) (o.ff x _) vE (o.ef x) (o.fm x) (o.apart x) (Fe C)]
 cases d with
 |a3 i=>exact n3 i (λr=>by unfold cb at r;obtain⟨a,j,rfl,B,C⟩:=r;exact#v[a,j,O,fb.of B,C]) e
 |mn i=>exact n3 i (λr=>by unfold cb at r;exact r) e
 |_=>cases e
def Iy:D->D->Option D
 |.str x,.int n=>if 0<=n/\n<=1000/\x.length<=100 then Z (.str (fC x n))else U
 |_,_=>U
end
section
variable{X:Cx}{G:Bg}
def DC(f e h:FE):FE:=λj=>match f j with
 |some (.Y i d,a)=>match e a with
  |some (y,b)=>match h b with
   |some (x,c)=>match BS y with
    |some k=>Z ((xj i d k).getD x,c)
    |none=>U
   |none=>U
  |none=>U
 |_=>U
set_option h true
def S9(hu:X.A.units+1<cLine)(ha:PE X a (tF G f))(hb:PE X b (tF G P))(hc:PE X c (tF G S))(m:M2 X a "get" apos b c cpos):PE X (.Call (.Attribute a "get" apos) [b,c] [] cpos) (tF G (DC f P S)):=PE.b4 (Sg hu ha hb hc m) λσ H Q hh=>by
 obtain⟨F,I,H0,d,ρ',R,e,k⟩:=hh;unfold DC at e;split at e
 .rename_i o ds h e1;rcases wc (f:=P) (ρ:=h)with B|⟨y,i,B⟩<;>simp only[B]at e
  .cases e
  rcases wc (f:=S) (ρ:=i)with C|⟨x,ρ3,C⟩<;>simp only[C]at e
  .cases e
  cases E:BS y with
  |none=>simp only[E]at e;cases e
  |some j=>
   simp only[E]at e;cases e;refine#v[F,I,H0,_,h,R,e1,λv H1 H1' Y M W=>?_];unfold cb at W;obtain⟨p,ob,xs,rfl,T,h2,h3⟩:=W;refine#v[p,O,.inl #v[_,.inr #v[_,M.sub _ _ T]],F,h,H1,y,i,M,B,λu H2 H2' q R2 r2=>#v[F,i,H2,x,_,R2,C,λz J l r t r3=>?_]];have lv:=DB (ks:=o) j (a6.mono (q.t r) _ _ h3) h2;refine#v[za (o.zip xs) j,?_,?_]
   .rw[Cj r2 E];exact pa.kf (t.sub _ _ (r _ _ (q _ _ T)))
   .cases N:xj o ds j with
    |none=>rw[N]at lv k;rw[lv];exact k _ J l (Y.t (q.t r)) t r3
    |some w=>rw[N]at lv k;obtain⟨w',w1,w2⟩:=lv;rw[w1];exact k _ J l (Y.t (q.t r)) t w2
 .cases e
set_option h false
def NW(G:Bg)(c:Nat)(t:Ty->Option Bool):Prop:=(∀y b,t y=Z b->cJ G.K (y.val G) (.ref (G.ca c))=Z b)/\∀j b,t (.c j)=Z b->Jw G.K (G.ca j)
def NX(h:NW G c t)(hK:autoParam (X.K=G.K) zA0._auto_1):xD X (.builtin "isinstance") (λa H Q=>∃d x b,a=[x,(Ty.c c).v G]/\cb G H d x/\t (tyD d)=Z b/\Q (.X b) H):=
 JU (X:=X) (.c c) (by rw[hK];exact h.1) (by rw[hK];exact h.2) hK
end
def T?(acc:List d?)(k:d?):List d?:=if acc.any (λz=>decide (z=k))then acc else acc++[k]
def A1(a:List d?):List d?:=a.foldl T? []
def WV(acc:List d?)(k j:d?):(T? acc k).any (λz=>decide (z=j))=(acc.any (λz=>decide (z=j))||decide (j=k)):=by
 unfold T?;by_cases h:acc.any (λz=>decide (z=k))=γ
 .rw[aj h];by_cases e:j=k
  .subst e;rw[h];simp
  .simp[e]
 .rw[ak h,List.any_append];by_cases e:j=k
  .subst e;simp
  .have a:¬k=j:=λz=>e z.symm;simp[a,e]
def O6(acc:List d?)(k:d?):(T? acc k).length=if acc.any (λz=>decide (z=k))=γ then acc.length else acc.length+1:=by unfold T?;split<;>simp
def JV(a:List d?)(i:Nat)(h:i<a.length):A1 (a.take (i+1))=T? (A1 (a.take i)) a[i]:=by unfold A1;rw[gu,aP h,qe];rfl
def Ta(a:List d?):(A1 a).length<=a.length:=by
 have n3:∀(l:List d?) (acc:List d?),(l.foldl T? acc).length<=acc.length+l.length:=by
  intro l
  induction l with
  |nil=>intro acc;simp
  |cons k l b=>
   intro acc;rw[jf,aS];have c:=b (T? acc k);have d:(T? acc k).length<=acc.length+1:=by rw[O6];split<;>omega
   omega
 have:=n3 a [];simpa [A1]using this
def ω{h:Heap}(hS:h.SetOf (vU prog w) a S n)(e:∀k,S k=b k)(c:n=d):h.SetOf (vU prog w) a b d:=by obtain rfl:S=b:=funext e;subst c;exact hS
section
variable{prog:aL}{w:aC}{A:aQ}{R:hE->ae->Prop}{I:Addr}{fp wr:List Addr}{GG:Array gY->Array gY->Prop}{n:Nat}{PP:Nat->ab->Prop}{SS:Nat->ae->Prop}
def Tc(W:WalksS prog w A.in1 I fp wr GG n PP SS)(S:Addr)(hSf:S∉fp)(a:List d?)(F:a.length=n)
  (hval:∀i v (h:i<a.length),PP i v->(vU prog w).is a[i] v=γ/\v.scannable=γ) (E:n+1<scanBound):∀(k i:Nat) (s:ae),n - i=k->i<=n->SS i s->
   s.heap.SetOf (vU prog w) S (λj=>(A1 (a.take i)).any (λz=>decide (z=j))) (A1 (a.take i)).length->
   (∀c,Moved (S::wr) GG s c->c.heap.SetOf (vU prog w) S (λj=>(A1 a).any (λz=>decide (z=j))) (A1 a).length->R (.ok (.ret .none)) c)->
   cH (model prog w) A (.builtin "set.update.loop" #v[[.ref S,.ref I],[]]) R s:=by
 have hSw:=λz=>hSf ((W).sub _ z);have up:∀b∈wr,b∈S::wr:=λb z=>bb _ z;intro k
 induction k with
 |zero=>
  intro i s x u hst hS hR;obtain rfl:i=n:=by omega
  refine d6 ie ?_;rw[eJ dY _];show ao _ A.in1 (pyNext (.ref I)>>=_) _ _ s;refine ah (W.done s _ _ hst λc d=>?_);rw[gh (by omega)]at hS;refine aq (hR c (d.mono up) ?_);obtain⟨o,m,l,t,p,more⟩:=hS;exact#v[o,m,l,t,d.heap S _ hSw p,more]
 |succ k B=>
  intro i s x u hst hS hR;have hlt:i<n:=by omega
  have hlk:i<a.length:=by omega
  refine d6 ie ?_;rw[eJ dY _];show ao _ A.in1 (pyNext (.ref I)>>=_) _ _ s;refine ah (W.item i s _ _ hlt hst λv c hP hst' d=>?_);obtain⟨kv,C⟩:=hval i v hlk hP;have hS':c.heap.SetOf (vU prog w) S (λj=>(A1 (a.take i)).any (λz=>decide (z=j))) (A1 (a.take i)).length:=by obtain⟨o,m,l,t,p,more⟩:=hS;exact#v[o,m,l,t,d.heap S _ hSw p,more]
  refine ah (cF ?_);unfold setAdd;refine cF ?_;refine ah ((vU prog w).pyHash kv ?_);have room:(A1 (a.take i)).length+1<scanBound:=by have:=Ta (a.take i);rw[cA]at this;omega
  refine wpAny_setAddHashed_of kv C hS' room λr hsb hS2=>?_;have hSi:r.SetOf (vU prog w) S (λj=>(A1 (a.take (i+1))).any (λz=>decide (z=j))) (A1 (a.take (i+1))).length:=
   ω hS2 (λj=>by rw[JV a i hlk,WV]) (by rw[JV a i hlk,O6])
  refine aq #v[gM dY _,B (i+1) _ (by omega) hlt (W.frame _ c _ _ hst' (dw _) λb z o e=>?_) hSi λq f hS''=>?_]
  .rw[hsb.2 b (λy:b=S=>hSf (by rw[<-y];exact z))];exact e
  .refine hR q (kc W.gtrans ((d.mono up).then_heap (dw _) λb o z e=>?_) f) hS'';rw[hsb.2 b (λy:b=S=>z (by rw[y];exact ba))];exact e
end
def WW(l:Addr)(us:Array ab)(m:Nat)(b:Addr)(o:Obj)(ws:Array ab)(f:Nat)(e:o.cls=.type "tuple")(hd:o.data=.seq ws f)(E:¬(!us.isEmpty&&iR (us.size+ws.size))=γ)(i:us.size<=aI)(j:us.size+ws.size<=aI+1):
  Meets (fD.«list.extend» #v[[.ref l,.ref b],[]]) (λn R s=>s.heap.get? l=Z { cls:=.type "list", data:=.seq us m }/\s.heap.get? b=Z o/\R (.ok (.ret Value.none)) { s with heap:=s.heap.update l (eC λx=>x++ws),toks:=s.toks }):=by
 obtain⟨c,q,data,sl⟩:=o;cases e;cases hd;refine .of_wp λprog w A R s h=>?_;obtain⟨z,g,d,tk,os⟩:=s;obtain⟨a,hb,h⟩:=h;have r:=AutoSeq1.sub_tuple_tuple;have t:=AutoSeq1.sub_list_list;have u:=AutoSeq1.sub_tuple_list;have y:=AutoSeq1.sub_list_tuple;have p:(us++ws).size<=aI+1:=Array.size_append (xs:=us) (ys:=ws)▸j
 wp_walk using (mU a O (hz:=i) (_hz':=p)),oU a,oU hb
 exact#v[_,O,h]
section
variable{X:Cx}{G:Bg}
inductive JW(K:av) (x:V) (vs:bF) (H:Hp) (Q:VK):Prop
 |i (l b xs zs) (h0:x=.ref l) (h1:vs=[.ref b]) (h2:H l=Z (.a3 xs)) (h3:e8 K H b zs) (h4:xs.length+zs.length<=aI) (h5:Q .O (eg H l (.a3 (xs++zs)))):JW K x vs H Q
def Mp(K:av):V->bF->Hp->VK->Prop:=λx a H Q=>JW K x a H Q
def NY:MtM X "list.extend" (Mp X.K):=by
 intro i s R H x M v J Q I C B h;obtain⟨l,b,N,P,rfl,rfl,hH,hB,F,q⟩:=h;cases C;obtain⟨u,rfl,A⟩:=B.one;cases A;obtain⟨z,c,n,r,E,e⟩:=I.Me hH;obtain⟨a,j,⟨o,m,p,y,hd⟩,w⟩:=I.tuple hB;have t:=j.length;have d:c.toArray.size+a.toArray.size<=aI:=by rw[bf,bf];omega
 have hlong:¬(!c.toArray.isEmpty&&iR (c.toArray.size+a.toArray.size))=γ:=by rw[LR d,mX];exact bG
 refine fV jM #v[_,e,O] pJ (px _ _)
  (WW l c.toArray n b o a.toArray y p hd hlong (by rw[bf];omega) (by omega)) #v[e,m,?_]
 refine#v[.O,_,I.lset (its':=c++a) hH e (by simp) (r.append j) ?_,O,q];rw[aA];omega
def Ej(i:Nat)(f:FE):FE:=λd=>match yp d i with
 |some _=>match f d with
  |some (.a7 c,a)=>match yp a i with
   |some b=>if b.length+c.length<=1000 then Z (.O,putAt a i (b++c))else U
   |none=>U
  |_=>U
 |none=>U
set_option h true
def NZ(h:PE X e (tBM G.K "list" (Mp G.K) (Et i) (E1 (tF G f) Jp))):PE X e (tF G (Ej i f)):=PE.b4 h λσ H Q A=>by
 obtain⟨F,c,w,d,P,R,e,k⟩:=A;unfold Ej at e;cases j:yp c i with
 |none=>simp only[j]at e;cases e
 |some z=>
  simp only[j]at e;rcases wc (f:=f) (ρ:=c)with l|⟨x,b,l⟩<;>simp only[l]at e
  .cases e
  .cases x with
   |a7 Y=>
    cases m:yp b i with
    |none=>simp only[m]at e;cases e
    |some W=>
     simp only[m]at e;split at e
     .rename_i B;cases e;obtain⟨a,M,r,E,s3,_⟩:=zO R j;refine#v[.ref a,r,.inl #v[O,M,fb.of E],F,c,w,_,b,R,l,λv S y s q rs=>?_];unfold cb at rs;obtain⟨p,N,rfl,C,rs⟩:=rs;obtain⟨T,o,t,I,u,J⟩:=zO q m;rw[r]at t;cases t;refine#v[a,p,o,N,O,O,I,e8.mono q.sub C,?_,k _ _ _ s (J _ _ (xp u rs)) Ad];rw[<-vC u,<- vC rs];exact yn B
     .cases e
   |_=>cases e
end
set_option h false
section
variable{X:Cx}{G:Bg}{H:Hp}
def aaB{h:cN}{E:St}{s:ae}{d:D}{v:V}{u:ab}(I:bt X h E H s)(hK:X.K=G.K)(hd:cb G H d v)(c:dd v u)(B:∀k r e,d=.obj k r e->Jw X.K (G.ca k)):
  ∃HH:Heap->Prop,W.KitX X.K u ((tyD d).val G) HH/\HH s.heap/\u≠.builtin "__main__.__loader__#opaque" := by
 cases d with
 |O=>unfold cb at hd;subst hd;cases (show u=Value.none from c);exact#v[_,sd,True.intro,λz=>nomatch z]
 |X x=>unfold cb at hd;subst hd;cases (show u=Value.bool x from c);exact#v[_,se,True.intro,λz=>nomatch z]
 |int x=>unfold cb at hd;subst hd;obtain⟨t,q⟩:=(show ∃t,u=Value.int x t from c);cases q;exact#v[_,W.kitx_int,True.intro,λz=>nomatch z]
 |str x=>unfold cb at hd;subst hd;obtain⟨t,q⟩:=(show ∃t,u=Value.str x t from c);cases q;exact#v[_,W.kitx_str,True.intro,λz=>nomatch z]
 |a7 e=>obtain⟨a,f,rfl,b,l⟩:=hd;cases c;rw[<-hK]at b;obtain⟨p,_,⟨o,i,j,_⟩,_⟩:=I.tuple b;exact#v[_,nG,#v[o,i,j],λz=>nomatch z]
 |a3 e=>obtain⟨a,f,rfl,b,l⟩:=hd;cases c;obtain⟨_,_,n,_,q⟩:=(show eo X.prog X.w H s.heap a (.a3 f) from I.ew a _ b);exact#v[_,jk,#v[_,q,O],λz=>nomatch z]
 |mn e=>obtain⟨a,f,rfl,b,l⟩:=hd;cases c;rw[<-hK]at b;obtain⟨p,_,⟨o,n,i,j,_⟩,_⟩:=I.list b;exact#v[_,jk,#v[o,i,j],λz=>nomatch z]
 |Y y e=>obtain⟨a,C,f,rfl,b,l,m⟩:=hd;cases c;obtain⟨_,_,_,R,_,o,N,M,i,j,_⟩:=(show eo X.prog X.w H s.heap a (.mi C (.dK (y.zip f))) from I.ew a _ b);exact#v[_,iH,#v[o,i,j.1],λz=>nomatch z]
 |η y e=>obtain⟨a,f,rfl,⟨o,Q,b,_,m,_⟩,_⟩:=hd;cases c;exact#v[_,iH,#v[o,(show eo X.prog X.w H s.heap a (.ext (isO a o)) from I.ew a _ b).1,m.ex.1],λz=>nomatch z]
 |obj k r e=>have ci:=B k r e O;obtain⟨a,F,f,rfl,b,l,m⟩:=hd;cases c;obtain⟨mA,A,_⟩:=EZ I.ew b;obtain⟨P,J,_⟩:=A.look;exact#v[_,W.kitx_own (ci.cl.get _) ci.cl.hd ci.ha ci.hn ci.htk ci.hm,J,λz=>nomatch z]
def QU(G:Bg)(cs:List Ty):bF:=cs.map (Ty.v G)
def Td(G:Bg)(cs:List Ty):List ab:=cs.map (Ty.val G)
def Te(cs:List Ty){a:List ab}(r:cm (QU G cs) a):a=Td G cs:=by
 induction cs generalizing a with
 |nil=>cases r;rfl
 |cons c cs b=>
  cases r with
  |cons r d=>
   obtain rfl:_=c.val G:=by cases c<;>exact r
   exact bD _ (b d)
def O7(G:Bg)(cs:List Ty)(t:Ty->Option Bool):Prop:=(∀y b,t y=Z b->W.kitAny G.K (y.val G) (Td G cs)=Z b)/\∀j b,t (.c j)=Z b->Jw G.K (G.ca j)
def IA{cs:List Ty}{t:Ty->Option Bool}(f:O7 G cs t)(hK:autoParam (X.K=G.K) zA0._auto_1):xD X (.builtin "isinstance") (λj H Q=>∃d x b tp,j=[x,.ref tp]/\H tp=Z (.a7 (QU G cs))/\cb G H d x/\t (tyD d)=Z b/\Q (.X b) H):=by
 intro i s Y H j S Q I r h;obtain⟨d,x,b,tp,rfl,m,hd,e,q⟩:=h;obtain⟨u,T,rfl,C,a⟩:=vals2 r;cases a;obtain⟨HH,AT,z,p⟩:=aaB I hK hd C λk N M y=>by subst y;rw[hK];exact f.2 k b e
 obtain⟨_,o,E,⟨⟨c,J,F,P⟩,A,B,n,q3⟩,_⟩:=(show eo X.prog X.w H s.heap tp (.a7 (QU G cs)) from I.ew tp _ m);cases B;cases q3;have l:=Te cs E;subst l;exact W.kia_tup AT I.la z A (by rw[hK];exact f.1 _ _ e) p λR=>#v[.X b,H,I.rl _,O,q]
def tCls(G:Bg):List Ty->TA
 |[]=>Jp
 |c::r=>E1 (tC (c.v G)) (tCls G r)
theorem O8:∀(cs:List Ty) (a:St) (H:Hp) (Q:bF->Hp->Prop),Q (QU G cs) H->tCls G cs a H Q
 |[],_,_,_,h=>h
 |c::r,a,H,Q,h=>O8 r a H (λd b=>Q (c.v G::d) b) h
def Mq{e:Expr}{cs:List Ty}{t:Ty->Option Bool}{f:FE}(h:PE X e (tCB (λy H Q=>∃d x b tp,y=[x,.ref tp]/\H tp=Z (.a7 (QU G cs))/\cb G H d x/\t (tyD d)=Z b/\Q (.X b) H) (E1 (tF G f) (E1 (tTup (tCls G cs)) Jp))))(w:autoParam (cs.length<=1000) zA1._auto_1):PE X e (tF G (c1 (wI t) f)):=PE.b4 h λB H Q u=>by
 obtain⟨F,z,m,d,l,R,e,k⟩:=u;obtain⟨x,q,a⟩:=DY e;unfold wI at a;cases i:t (tyD x)with
 |none=>rw[i]at a;cases a
 |some b=>
  rw[i]at a;cases a;refine#v[F,z,m,x,l,R,q,λv A o s c r=>O8 cs _ _ _ #v[?_,λp j=>?_]]
  .unfold QU;rw[af];exact yn w
  .exact#v[x,v,b,p,O,vE,cb.mono (c.sub.t (vK j _)) _ _ r,i,k _ _ _ (s.t (vK (c.ef j) _)) (c.rh j _) (yh b)]
end
abbrev one(j:Nat)(led pl:Bool):bS:=#v[7,#[j],#[],0,led,0,pl]
section
variable{prog:aL}{w:aC}{A:aQ}{E:ab->ae->Prop}{s:ae}
abbrev TK(prog:aL)(w:aC):=IsTupleKey (vU prog w)
def cls_val(n:Nat)(h:mY v=γ):i8 n v=pure δ:=by
 cases v with
 |ref a=>simp[mY]at h
 |_=>first|rfl|simp[i8]|(unfold i8;rfl)
def O9(e:TK prog w s.heap j a)(h:Q δ s):ao (model prog w) A (i8 8 (.ref a)) Q E s:=by
 have hT:=e.typeIs;obtain⟨o,items,n,i,_,hd,f⟩:=e;unfold i8;refine ah (gR hT ?_);show ao _ _ (pure γ>>=_) _ _ s;refine ah (aq ?_);simp only[Bool.not_true,gp,if_false];refine ah (mZ i hd ?_);refine ah ?_;show ao _ _ (forIn items _ _) _ _ s;rw[<-pW];refine jW _ (λet r d=>r.1=U/\d=s/\∀v∈et,mY v=γ) _ ?_ ?_ _ _ #v[O,O,f.byValue]
 .rintro v et r d ⟨b,rfl,hall⟩;rw[cls_val _ (hall v ba)];refine ah (aq ?_);simp only[gp,if_false];exact aq #v[O,O,λu c=>hall u (bb _ c)]
 .rintro⟨l,m⟩ d ⟨b,rfl,_⟩;simp only at b;subst b;exact aq h
end
section
variable{prog:aL}{w:aC}{A:aQ}{E:ab->ae->Prop}{s:ae}
def N0{a:Heap}(b:a.get? S=Z o)(hd:o.data=.set es ep t):(a.update S (kq es' t')).get? S=Z { o with data:=.set es' (ep+1) t' }:=by have:=gm (kq es' t') b (by rw[putSet_of es' t' hd];rfl);rw[putSet_of es' t' hd]at this;exact this
end
section
variable{prog:aL}{w:aC}{A:aQ}{R:hE->ae->Prop}{I:Addr}{fp wr:List Addr}{GG:Array gY->Array gY->Prop}{PP:Nat->ab->Prop}{SS:Nat->ae->Prop}
def TK.fu{c:Heap}(t:TK prog w h f a)(e:∀o,h.get? a=Z o->c.get? a=Z o):TK prog w c f a:=by obtain⟨o,b,n,d,m⟩:=t;exact#v[o,b,n,e o d,m]
def Set2(h:Heap)(S:Addr)(n:Nat):Prop:=∃o a b t,h.get? S=Z o/\o.ExactSet/\o.data=.set a b t/\a.size<scanBound/\t.fits a.size=γ/\a.size=n
end
set_option r "vj set;mu frozenset" in def ϑ0:isSubtype (.type "tuple") (.type "ϑ1")=pure δ:=by rw[j8];kernel_rfl
section
variable{prog:aL}{w:aC}{A:aQ}{E:ab->ae->Prop}{s:ae}{Q:ab->ae->Prop}
abbrev AF(led:Bool):Obj:={ cls:=.type "set", dict:=U,data:=.set #[] 0 (.fresh 0 0 led) }
abbrev inK(a:List d?):d?->Bool:=λj=>(A1 a).any (λz=>decide (z=j))
structure SrcK(prog:aL)(w:aC)(h:Heap)(a:Addr)(items:Array ab)(ks:List d?):Prop where
 len:ks.length=items.size
 key:∀i v (hi:i<ks.length),items[i]?=Z v->(vU prog w).is ks[i] v=γ/\v.scannable=γ
 bnd:items.size+1<scanBound
def WX(s:ae)(PS:Heap->Prop)(E:ab->ae->Prop):hE->ae->Prop:=
 wants (λr s2=>r=.none/\∃h2 a,s2={ s with heap:=h2,toks:=a }/\PS h2/\∀b o,b<s.heap.objs.size->s.heap.get? b=Z o->h2.get? b=Z o) E
def Mu(K:SrcK prog w s.heap a items ks)(hlt:a<s.heap.objs.size)
  (W:Walks prog w A.in1 (s.heap.objs.size+1) [s.heap.objs.size+1,a] [s.heap.objs.size+1] items.size (λi v=>items[i]?=Z v) SS) (st:SS 0 ((s.heap.push (AF led)).push itO))
  (hR:∀h2 c,h2.SetOf (vU prog w) s.heap.objs.size (inK ks) (A1 ks).length->(∀b o,b<s.heap.objs.size->s.heap.get? b=Z o->h2.get? b=Z o)->R (.ok (.ret .none)) { s with heap:=h2,toks:=c }) (tk:Nat):
  cH (model prog w) A (.builtin "set.update.loop" #v[[.ref s.heap.objs.size,.ref (s.heap.objs.size+1)],[]]) R { s with heap:=(s.heap.push (AF led)).push itO,toks:=tk }:=by
 have notin:s.heap.objs.size∉[s.heap.objs.size+1,a]:=by
  intro z;rcases aJ.1 z with z|z
  .exact ar z (bg (dM _))
  .exact ar (br.1 z) (gQ hlt)
 have f:((s.heap.push (AF led)).push itO).get? s.heap.objs.size=Z (AF led):=aR _ (bw _ O);refine Tc W.toS s.heap.objs.size notin ks K.len (λi v hi p=>K.key i v hi p) K.bnd (items.size - 0) 0 _ (by omega) (bT _) st ?_ λs2 mv d=>?_
 .exact#v[_,#[],0,_,f,#v[O,O,O],O,λe m=>by simp at m,λk=>by simp[A1],by unfold scanBound;decide,by rfl,O]
 .obtain⟨h2,g2,d2,c,q⟩:=s2;have j:g2=s.gens:=mv.gens;have h:d2=s.drawn:=mv.drawn;have l:q=s.os:=mv.os;subst j h l;refine hR h2 c d λb o hb e=>mv.heap b o (λz=>?_) (aR _ (aR _ e));rcases aJ.1 z with z|z
  .exact ar z (bg hb)
  .exact ar (br.1 z) (bg (eO hb))
theorem N3(a:ab)(h:Q₁ (.ref s.heap.objs.size) { s with heap:=s.heap.push (AF (!w.params.followText "set-order")) }):
  cH (model prog w) A (.call (.builtin "set.__new__") #v[[.type "set", a],[]]) (wants Q₁ E) s:=by
 refine qK ?_;show ao _ A.in1 (do checkBuiltinCall "set.__new__" #v[[.type "set", a],[]];again (.builtin "set.__new__" #v[[.type "set", a],[]])) _ _ s;refine ah (wpAny_of_eq (F.newCall_set_1 a) (aq #v[gM qL _,d6 F.entry_set_new ?_]));rw[eJ qL _];unfold fD.«set.__new__» tT;have hsub:=sub_set_self;obtain⟨b,g,d,tk,os⟩:=s;dsimp only
 wp_walk
 refine mM (aq ?_);dsimp only;simp only[newObj];refine ah (wpAny_alloc (aq ?_));exact aq h
theorem Fi{PS:Heap->Prop}(t:s.heap.get? a=Z o)(z:o.cls=.type T)
  (N:isSubtype (.type T) (.type "set")=pure δ) (P:isSubtype (.type T) (.type "frozenset")=pure δ) (S:(Value.type T==Value.type "dict")=δ)
  (itr:∀(A:aQ) (Q:ab->ae->Prop) (E:ab->ae->Prop) (d:ae),d.heap.get? a=Z o->Q (.ref d.heap.objs.size) { d with heap:=d.heap.push itO }->ao (model prog w) A (pyIter (.ref a)) Q E d)
  (fil:∀tk (R:hE->ae->Prop),(∀h2 i,PS h2->(∀b o,b<s.heap.objs.size->s.heap.get? b=Z o->h2.get? b=Z o)->R (.ok (.ret .none)) { s with heap:=h2,toks:=i })->
   cH (model prog w) A.in1.in1 (.builtin "set.update.loop" #v[[.ref s.heap.objs.size,.ref (s.heap.objs.size+1)],[]]) R { s with heap:=(s.heap.push (AF (!w.params.followText "set-order"))).push itO,toks:=tk })
  (h:∀h2 i,PS h2->(∀b o,b<s.heap.objs.size->s.heap.get? b=Z o->h2.get? b=Z o)->Q (.ref s.heap.objs.size) { s with heap:=h2,toks:=i }):
  ao (model prog w) A (call (.type "set") [.ref a]) Q E s:=by
 have hlt:a<s.heap.objs.size:=a9 t;obtain⟨c,M,hmro⟩:=fU.mro;have made:=fU.made;have subs:=fU.sub;refine kj (qK ?_);show ao _ _ (callAny (.type "set") _) _ _ _;refine aq #v[Code.quiet_builtin _ (by decide +kernel),d6 F.entry_type_call ?_];rw[Around.under_plain (weight_type_call_type "set" [.ref a] []) O];have H:=fU.notType;have I:=fU.canCreate;have J:=F.typeCall_set_1 (.ref a)
 repeat (any_goals (first|assumption|wp_step))
 let led:Bool:=!w.params.followText "set-order";refine iF (N3 (.ref a) (E:=E) (Q₁:=λv d=>v=.ref s.heap.objs.size/\d={ s with heap:=s.heap.push (AF led) }) #v[O,O]) λr d hr=>?_;cases r with
 |error e=>exact hr
 |ok fl=>
  cases fl with
  |ret v=>
   obtain⟨rfl,rfl⟩:=hr;have u:(s.heap.push (AF led)).get? s.heap.objs.size=Z (AF led):=bw _ O;have p:ny { s with heap:=s.heap.push (AF led) } (.ref s.heap.objs.size) "set" := #v[_,u,O];have C:=fU.init.lookup;have G:=fU.init.bind (.ref s.heap.objs.size)
   repeat (any_goals (first|assumption|wp_step))
   refine iF (pz (R:=WX s PS E) fU.init.plain F.entry_set_init (check_set_init_1 p ?_)) λB s2 f=>?_
   .obtain⟨oc,od,oda,osl⟩:=o;cases z;have x:(s.heap.push (AF led)).get? a=Z { cls:=.type T,dict:=od,data:=oda,slots:=osl }:=aR _ t;unfold fD.«set.__init__» noKeywords tQ;generalize gP:pyIter=PP
    wp_walk
    subst gP;refine itr _ _ _ _ x ?_;refine ah (qZ ?_);have y:(s.heap.push (AF led)).objs.size=s.heap.objs.size+1:=c9 _ _;show cH _ _ (.builtin "set.update.loop" #v[[.ref s.heap.objs.size,.ref (s.heap.push (AF led)).objs.size],[]]) _ _;rw[y];refine fil _ _ λh2 i j m=>?_;show ao _ _ _ _ _ _;refine aq ?_;show ao _ _ (ret Value.none) _ _ _;exact aq #v[O,h2,i,O,j,m]
   .cases B with
    |error e=>exact f
    |ok l=>
     cases l with
     |ret r=>
      obtain⟨rfl,h2,i,rfl,j,m⟩:=f
      repeat (any_goals (first|assumption|wp_step))
      exact h _ _ j m
     |_=>exact f.elim
  |_=>exact hr.elim
end
section
variable{X:Cx}{G:Bg}{H:Hp}{pins:cN}{σ:St}{s:ae}
def Tf(h:(vU P w).is k v=γ):v.scannable=γ:=by rcases wX h with ⟨i,t,_,rfl⟩|⟨x,t,_,rfl⟩<;>rfl
def Tg{b:List d?}(r:cm (b.map kV) c)(o:b.length+1<scanBound):SrcK X.prog X.w s.heap a c.toArray b:=by
 have l:=by have:=r.length;rw[af]at this;exact this
 refine#v[by rw[bf];exact l,λi v j f=>?_,by rw[bf];omega];have e:(b.map kV)[i]?=Z (kV b[i]):=by rw[bq,aP j];rfl
 obtain⟨u,d,m⟩:=r.get e;have h:=by rw[jH]at f;rw[f]at d;exact cX d
 subst h;have:=E7 (P:=X.prog) (w:=X.w) m;exact#v[this,Tf this]
def aea{c:List d?}(I:bt X pins σ H s)(h:e8 X.K H a (c.map kV)):TK X.prog X.w s.heap c a:=by
 obtain⟨b,r,p,_⟩:=I.tuple h;obtain⟨o,i,f,n,hd⟩:=p;refine#v[o,_,n,i,f,hd,?_];have n3:∀(c:List d?) (b:List ab),cm (c.map kV) b->PySem.ItemsAre (vU X.prog X.w) c b:=λc=>by
  induction c with
  |nil=>intro b r;cases r;exact .nil
  |cons k c j=>intro b r;cases r with|cons d e=>exact .cons (E7 d) (j _ e)
 exact n3 c b r
def SrcO(K:av)(H:Hp)(a:Addr)(n:Nat):Prop:=∃b,(fb K H a (b.map kV)\/e8 K H a (b.map kV))/\b.length+1<scanBound/\n=(A1 b).length
def SetV(X:Cx)(S:av->Hp->Addr->Nat->Prop):Prop:=∀{pins:cN} {σ:St} {H:Hp} {s:ae} {A:aQ} {E:ab->ae->Prop} {Q:ab->ae->Prop} {a:Addr} {n:Nat},bt X pins σ H s->A.handled=U->A.units+8<cLine->S X.K H a n->
 (∀h2 c,Set2 h2 s.heap.objs.size n->(∀b o,b<s.heap.objs.size->s.heap.get? b=Z o->h2.get? b=Z o)->Q (.ref s.heap.objs.size) { s with heap:=h2,toks:=c })->ao (model X.prog X.w) A (call (.type "set") [.ref a]) Q E s
def aeb:SetV X (SrcO):=by
 intro pins σ H s A E Q a n I J T i h;have u:A.in1.in1.in1.handled=U:=by simp[J]
 have q:∀{f:Heap} {j:List d?},f.SetOf (vU X.prog X.w) s.heap.objs.size (inK j) (A1 j).length->Set2 f s.heap.objs.size (A1 j).length:=λS=>by obtain⟨o,C,B,t,b,hex,hd,_,_,N,F,M⟩:=S;exact#v[o,C,B,t,b,hex,hd,N,F,M]
 have y:∀{o:Obj} {led:Bool},o.isFreed=δ->((s.heap.push (AF led)).push o).get? (s.heap.objs.size+1)=Z o:=λ{o led} z=>by rw[show s.heap.objs.size+1=(s.heap.push (AF led)).objs.size from(c9 _ _).symm];exact bw _ z
 obtain⟨j,i|i,x,rfl⟩:=i
 .obtain⟨d,r,p,_⟩:=I.list i;obtain⟨o,b,c,n,hd⟩:=p.isList;have hne:=bg (eO (a9 b));refine Fi b c m6 lE (by decide)
   (λA Q E P e k=>ir #v[o,e,c,n,hd] k) (λm R hR=>Mu (Tg r x) (a9 b) (jo u _ a hne d.toArray) #v[#v[_,y O,O,O],#v[o,aR _ (aR _ b),c,n,hd]] (λf l S=>hR f l (q S)) m) h
 .obtain⟨d,r,p,_⟩:=I.tuple i;obtain⟨o,b,c,n,hd⟩:=p;have hne:=bg (eO (a9 b));refine Fi b c vj mu (by decide)
   (λA Q E P e k=>pT #v[o,e,c,n,hd] k) (λm R hR=>Mu (Tg r x) (a9 b) (Walks.tuple u _ a hne d.toArray) #v[#v[_,y O,O,O],#v[o,aR _ (aR _ b),c,n,hd]] (λf l S=>hR f l (q S)) m) h
def Pb(S:av->Hp->Addr->Nat->Prop)(K:av)(c:TE):TE:=λσ H Q=>c σ H λx b=>∃a n,x=.ref a/\S K b a n/\Q (.int n) b
def QV{p2 p3:Pos}(hV:SetV X S)(N:X.A.units+64<cLine)(m:X.l0=γ)(g1:Gl X "len")(C:X.mg "len" = U)(g2:Gl X "set")(E:X.mg "set" = U)(p:PE X e M)
  (d:autoParam (aF [Expr.Call (.Name "set" p2) [e] [] p3] X.a4=[(δ,eval (.Call (.Name "set" p2) [e] [] p3) X.a4)]) zA0._auto_1) (f:autoParam (aF [e] X.a4=[(δ,eval e X.a4)]) zA0._auto_1):PE X (.Call (.Name "len" P) [.Call (.Name "set" p2) [e] [] p3] [] R) (Pb S X.K M):=by
 intro pins s σ H Q I h;refine dZ (Cb I g1 C q8 ?_ (by decide) (by decide));refine callWith_builtin1 ?_ d O;rw[d];refine eK ?_;refine dZ (Cb I g2 E sj ?_ (by decide) (by decide));refine callWith_type1 (e0 (xA p zz f p3 pins s σ H (λvs H1=>match vs with
  |[x]=>∃a n,x=.ref a/\S X.K H1 a n/\Q (.int n) H1
  |_=>False) I h) λus J #v[vs,H1,c,r1,q1]=>?_) f O
 match vs,r1,q1 with
 |[x],r1,q1=>
 obtain⟨a,n,l,w,q⟩:=q1;subst l;obtain⟨u,rfl,F⟩:=kb r1;cases F;refine hV c (c.ok.hd m) (by omega) w λh2 z j B=>?_;refine gq ?_;obtain⟨o,es,ep,t,r,hex,hd,y,hf,hn⟩:=j;have i:bt X pins σ H1 { J with heap:=h2,toks:=z }:=c.fu λb o e=>B b o (a9 e) e;refine call_len_set r hex hd hf (by unfold scanBound at y;omega) #v[.int n,H1,i.rl _,#v[_,by rw[hn]],q]
def G1:bp->Option (List d?)
 |[]=>Z []
 |d::a=>match BS d,G1 a with
  |some k,Z b=>Z (k::b)
  |_,_=>U
theorem JX:∀{a:bp} {f:bF} {c:List d?},a6 G H a f->G1 a=Z c->f=c.map kV
 |[],f,c,r,e=>by cases e;unfold a6 at r;exact r
 |d::a,f,c,r,e=>by
  unfold G1 at e;cases b:BS d with
  |none=>rw[b]at e;cases e
  |some k=>
   cases h:G1 a with
   |none=>rw[b,h]at e;cases e
   |some l=>rw[b,h]at e;cases e;obtain⟨v,m,rfl,i,j⟩:=r;rw[Cj i b,JX j h];rfl
def yk(b:bp):Option D:=match G1 b with
 |some a=>if a.length<=1000 then Z (.int (A1 a).length)else U
 |none=>U
def Fj(g:bp->Option D):D->Option D
 |.a3 a=>match yk a with
  |some r=>Z r
  |none=>g a
 |.a7 a=>yk a
 |.mn a=>yk a
 |_=>U
def WY(h:yk a=Z r):Fj g (.a3 a)=Z r:=by show (match yk a with|some r=>Z r|none=>g a)=Z r;rw[h]
set_option h true
def N4(hK:X.K=G.K)(hO:∀{H a n},SrcO X.K H a n->S X.K H a n)
  (E:∀{c d m b a i},g c=Z d->fb X.K b a i->a6 G m c i->vS m b->∃n:Nat,S X.K b a n/\d=.int n)
  (h:PE X e (Pb S X.K (tF G f))):PE X e (tF G (c1 (Fj g) f)):=PE.b4 h λσ H Q I=>by
 obtain⟨F,M,z,d,u,R,e,k⟩:=I;obtain⟨x,B,l⟩:=DY e;have key:∀{c:bp} {i:bF} {a:Addr} {m b:Hp},yk c=Z d->a6 G m c i->vS z m->b0 G F σ u m b->(fb X.K b a i\/e8 X.K b a i)->
   ∃A n,V.ref a=.ref A/\S X.K b A n/\Q (.int n) b:=λ{c i a m b} o rs s j t=>by
  unfold yk at o;cases y:G1 c with
  |none=>rw[y]at o;cases o
  |some J=>
   rw[y]at o;simp only at o;split at o
   .rename_i N;cases o;rw[JX rs y]at t;exact#v[a,_,O,hO #v[J,t,by unfold scanBound;omega,O],k _ _ _ s j (xN _)]
   .cases o
 refine#v[F,M,z,x,u,R,B,λv m b s j r=>?_];cases x with
 |a3 c=>
  obtain⟨a,i,rfl,p,q⟩:=r;have t:fb X.K b a i:=fb.of (j.sub _ _ p);replace l:(match yk c with|some r=>Z r|none=>g c)=Z d:=l;cases w:yk c with
  |some r=>rw[w]at l;cases l;exact key w q s j (.inl t)
  |none=>rw[w]at l;obtain⟨n,C,rfl⟩:=E l t q j.sub;exact#v[a,n,O,C,k _ _ _ s j (xN _)]
 |a7 c=>obtain⟨a,i,rfl,p,q⟩:=r;rw[<-hK]at p;exact key l q s j (.inr (e8.mono j.sub p))
 |mn c=>obtain⟨a,i,rfl,p,q⟩:=r;rw[<-hK]at p;exact key l q s j (.inl (j.sub.seq p))
 |_=>cases l
end
set_option h false
def Pc(h:(vU P w).is k v=γ):dd (kV k) v:=by
 rcases wX h with ⟨i,t,rfl,rfl⟩|⟨x,t,rfl,rfl⟩
 .exact#v[t,O]
 .exact#v[t,O]
def Itd(a:Addr)(o:Obj)(kvs:List (d?×V)):It:=
 #v[λi H=>i<kvs.length/\H a=Z (.mi o (.dK kvs)),λi H x b=>b=H/\∃k z,kvs[i]?=Z (k,z)/\x=kV k,λi H=>kvs.length<=i/\H a=Z (.mi o (.dK kvs))]
section
variable{X:Cx}{pins:cN}{σ:St}{H:Hp}{s:ae}
def G2(I:bt X pins σ H s)(e:H a=Z (.mi o (.dK kvs)))(hd:o.data=.dict i f):
  (a==dy)=δ/\s.heap.get? a=Z o/\∃b,KV kvs b/\s.heap.DictAt (vU X.prog X.w) a b f:=by
 obtain⟨c,_,y,b,r,p,j,h,d,l,q3,m⟩:=(show eo X.prog X.w H s.heap a (.mi o (.dK kvs)) from I.ew a _ e);rw[c]at d;cases d;rw[hd]at q3;cases q3;exact#v[y,c,b,r,o,i,c,l,hd,m]
def aaF{kvs:List (d?×V)}{a:List (d?×ab)}(r:KV kvs a){i:Nat}{k:d?}{x:ab}(e:a[i]?=Z (k,x)):∃z,kvs[i]?=Z (k,z):=by
 induction r generalizing i with
 |nil=>cases e
 |@cons p q l d h _ b=>
  cases i with
  |zero=>obtain⟨c,pv⟩:=p;cases e;exact#v[pv,by rw[show c=k from h.1];rfl]
  |succ i=>exact b e
end
def QW{K:av}(a it:Addr)(o:Obj)(kvs:List (d?×V)):Ra P w K tg (Itd a o kvs) [it] it (λi h=>∃es ep,o.data=.dict es ep/\h.IsKeyIter it a i kvs.length ep) where
 mem:=by simp
 obj:=λi h st b hb=>by
  have e:=by simpa using hb
  subst e;obtain⟨es,ep,hd,ob,e,c,d⟩:=st;exact#v[ob,e,λv z=>by rw[d]at z;cases z]
 keep:=λi h h' st k=>by obtain⟨es,ep,hd,x⟩:=st;exact#v[es,ep,hd,x.at λo e=>k it (by simp) o e]
 item:=by
  intro X hP hw hK A i pins s σ H E I hf st hg;subst hP hw hK;obtain⟨hi,p⟩:=hg;obtain⟨es,ep,hd,m⟩:=st;obtain⟨j,q,G,t,u,y⟩:=hf it (by simp);obtain⟨_,_,vs,r,da⟩:=G2 I p hd;have l:=r.length;have hne:a≠it:=λz=>by subst z;rw[p]at j;cases j
  have W:=Walks.dictKeys (knd:=vU X.prog X.w) (I.ok.hd A) it a hne vs ep;refine W.item i s _ _ (by omega) #v[by rw[<-l];exact m,da] λv h' tk M B R=>?_;obtain⟨k,x,N,J⟩:=M;obtain⟨z,Q⟩:=aaF r N;have C:bt X pins σ H { s with heap:=h',toks:=tk }:=I.iE (λb o hb e=>R b o (by simpa using hb) e) j q t u y;obtain⟨f,_⟩:=B;rw[<-l]at f;obtain⟨ob,e,c,d⟩:=id f;exact#v[v,O,OH e c d (by decide) #v[kV k,H,C,Pc J,#v[O,k,z,Q,O],#v[es,ep,hd,f],λb hb=>(hf b hb).1]]
 done:=by intro X hP hw hK A i pins s σ H E I hf st hg;subst hP hw hK;obtain⟨hi,p⟩:=hg;obtain⟨es,ep,hd,m⟩:=st;obtain⟨j,q,G,t,u,y⟩:=hf it (by simp);obtain⟨_,_,vs,r,da⟩:=G2 I p hd;have l:=r.length;exact wpAny_pyNext_dict_end (I.ok.hd A) (by rw[<-l];exact m) da (gj (by rw[<-l];exact hi)) λh' F=>#v[O,I.iE (λb o hb e=>F b o hb e) j q t u y]
 self:=λn n n n n st h=>by obtain⟨es,ep,hd,m⟩:=st;exact wpAny_pyIter_keyiter m h
section
variable{X:Cx}{G:Bg}{tg:Expr}
def iDic(c:TE):TI:=λd H R=>c d H λx b=>∃a o kvs,x=.ref a/\b a=Z (.mi o (.dK kvs))/\R (Itd a o kvs) b
def WZ(f:PE X l M):PI X tg l (iDic M):=by
 intro c s N H R I h;refine e0 (f c s N H _ I h) λv i zz=>?_;obtain⟨x,j,d,J,F⟩:=zz;obtain⟨a,o,kvs,e,E,q⟩:=F;subst e;cases J;obtain⟨u,_,y,Q,r,P,t,B,m,z,p,A⟩:=(show eo X.prog X.w j i.heap a (.mi o (.dK kvs)) from d.ew a _ E);rw[u]at m;cases m;have f:=r.length;refine wpAny_pyIter_dict y #v[o,t,u,z,p,A] ?_;refine#v[i.heap.objs.size,[i.heap.objs.size],_,_,j,O,d.fu λb o e=>aR _ e,QW a _ o kvs,#v[t,B,p,#v[_,bw _ O,O,by rw[f];rfl]],λb C=>?_,q];have e:=by simpa using C
 subst e;exact d.Q0 (aH _) (d.ew.fresh (aH _))
def keyV:d?->D
 |.inl i=>.int i
 |.inr x=>.str x
def W0(k:d?):cb G H (keyV k) (kV k):=by
 cases k with
 |inl i=>exact xN i
 |inr x=>exact Ac x
def iD(f:FE):FA:=λd=>match f d with
 |some (.Y b c,a)=>if b.length=c.length then Z (b.map keyV,a)else U
 |_=>U
set_option h true
def Ti(h:PI X tg e (iDic (tF G f))):PI X tg e (M? G (iD f)):=PI.b4 h λσ H R P=>by
 obtain⟨F,Y,B,ds,ρ',R,e,k⟩:=P;unfold iD at e;split at e
 .rename_i p J ρ1 M;split at e
  .rename_i x;cases e;refine#v[F,Y,B,_,_,R,M,λv H1 C s w r=>?_];obtain⟨a,o,W,rfl,q,T,r3⟩:=r;have A:(p.zip W).length=p.length:=by rw[iw,<- T,gS]
   refine#v[a,o,_,O,w.sub _ _ q,k _ _ _ s w λi E I t u=>#v[λd c=>?_,λS=>?_]]
   .rw[bq]at c;cases m:p[i]? with
    |none=>rw[m]at c;cases c
    |some j=>
     rw[m]at c;cases c;have Q:=(cj.1 m).1;refine#v[#v[by rw[A];exact Q,u _ _ (t _ _ q)],λz H3 y=>?_];obtain⟨N,k',z',l,rfl⟩:=y;subst N;have:=by rw[List.getElem?_zip_eq_some]at l;have:=l.1;rw[m]at this;exact(cX this).symm
     subst this;exact#v[E,vS.refl _,u,vS.refl _,λb o e=>.inl e,W0 _]
   .refine#v[by rw[A,S,af];exact aH _,u _ _ (t _ _ q)]
  .cases e
 .cases e
end
set_option h false
mutual
def A5(N c:Nat):D->Bool
 |.O=>γ
 |.X _=>γ
 |.int _=>γ
 |.str _=>γ
 |.a7 a=>Ag N c a
 |.a3 a=>Ag N c a
 |.mn a=>Ag N c a
 |.obj k _ a=>decide (k<N)&&decide (k≠c)&&Ag N c a
 |.Y _ a=>Ag N c a
 |.η _ a=>Ag N c a
def Ag(N c:Nat):bp->Bool
 |[]=>γ
 |d::a=>A5 N c d&&Ag N c a
end
def without(H:Hp)(a:Addr):Hp:=λb=>if b=a then U else H b
def IB{H:Hp}{a b:Addr}(h:b≠a):without H a b=H b:=by unfold without;rw[ak h]
def Fk{H:Hp}{a b:Addr}{o:HO}(h:without H a b=Z o):b≠a/\H b=Z o:=by
 unfold without at h;by_cases c:b=a
 .rw[aj c]at h;cases h
 .rw[ak c]at h;exact#v[c,h]
def yt{H:Hp}{a b:Addr}{u v:HO}(e:H a=Z u)(c:H b=Z v)(d:u≠v):without H a b=Z v:=by rw[IB (λz=>by subst z;rw[e]at c;exact d (cX c))];exact c
section
variable{G:Bg}{H:Hp}{a dx:Addr}{fs:List (Str×V)}{N c:Nat}
set_option r "G3 e8;Mw fb" in def ϑ0(b:H a=Z (.k0 (G.ca c) dx fs)){p:Addr}{d:bF}(h:ϑ1 G.K H p d):ϑ1 G.K (without H a) p d:=by
 rcases h with (h|⟨o,h⟩)|h
 .exact .inl (.inl (yt b h (λz=>nomatch z)))
 .exact .inl (.inr #v[o,yt b h (λz=>nomatch z)])
 .exact .inr h
mutual
theorem G4(inj:∀j k,j<N->k<N->G.ca j=G.ca k->j=k)(t:c<N)(i:H a=Z (.k0 (G.ca c) dx fs)):∀(d:D) (v:V),A5 N c d=γ->cb G H d v->cb G (without H a) d v
 |.O,v,_,h=>by unfold cb at h ⊢;exact h
 |.X _,v,_,h=>by unfold cb at h ⊢;exact h
 |.int _,v,_,h=>by unfold cb at h ⊢;exact h
 |.str _,v,_,h=>by unfold cb at h ⊢;exact h
 |.a7 l,v,n,h=>by obtain⟨p,f,e,m,r⟩:=h;exact#v[p,f,e,G3 i m,xZ inj t i l f n r]
 |.a3 l,v,n,h=>by obtain⟨p,f,e,m,r⟩:=h;exact#v[p,f,e,yt i m (λz=>nomatch z),xZ inj t i l f n r]
 |.mn l,v,n,h=>by obtain⟨p,f,e,m,r⟩:=h;exact#v[p,f,e,Mw i m,xZ inj t i l f n r]
 |.obj k J l,v,n,h=>by unfold A5 at n;simp only[aT,bE]at n;obtain⟨p,w,f,e,m,r,u⟩:=h;refine#v[p,w,f,e,yt i m (λz=>?_),r,xZ inj t i l f n.2 u];injection z with I;exact n.1.2 (inj k c n.1.1 t I.symm)
 |.Y E l,v,n,h=>by obtain⟨p,o,f,e,m,r,u⟩:=h;exact#v[p,o,f,e,yt i m (λz=>nomatch z),r,xZ inj t i l f n u]
 |.η E l,v,n,h=>by obtain⟨b,f,rfl,⟨o,F,m,r,u,x,y,A⟩,B⟩:=h;exact#v[b,f,O,#v[o,F,yt i m (λz=>nomatch z),r,u,x,λq C=>G3 i (y q C),A],xZ inj t i l f n B]
theorem xZ(inj:∀j k,j<N->k<N->G.ca j=G.ca k->j=k)(l:c<N)(i:H a=Z (.k0 (G.ca c) dx fs)):∀(b:bp) (f:bF),Ag N c b=γ->a6 G H b f->a6 G (without H a) b f
 |[],f,_,h=>by unfold a6 at h ⊢;exact h
 |d::b,f,n,h=>by unfold Ag at n;simp only[aT]at n;obtain⟨v,r,e,m,o⟩:=h;exact#v[v,r,e,G4 inj l i d v n.1 m,xZ inj l i b r n.2 o]
end
end
def EC:Sl->Sl
 |.I d=>.I d
 |_=>.un
def Ek(N:Nat)(f:FE):FE:=λa=>match a with
 |.ob c e b::r=>match f (.I (.obj c e b)::r.map EC)with
  |some (d,_)=>if (decide (c<N)&&A5 N c d)=γ then Z (d,a)else U
  |none=>U
 |_=>U
section
variable{X:Cx}{G:Bg}
def N5{s:Sl}:(EC s).fh=δ:=by cases s<;>rfl
set_option h true
def W1{e:Expr}{f:FE}{N:Nat}(inj:∀j k,j<N->k<N->G.ca j=G.ca k->j=k)(h:PE X e (tF G f)):PE X e (tF G (Ek N f)):=PE.b4 h λσ H Q C=>by
 obtain⟨F,ρ,H0,d,ρ',R,e,k⟩:=C;unfold Ek at e;split at e
 .rename_i c ns ds r;rcases wc (f:=f) (ρ:=.I (.obj c ns ds)::r.map EC)with u|⟨x,w,u⟩<;>simp only[u]at e
  .cases e
  split at e
  .rename_i hn;cases e;simp only[aT,bE]at hn;obtain⟨a,dx,xs,h1,h2,h3,h4,h5,h6⟩:=R.sl 0 _ O;have RL:b0 G #v[eg H0 a (.k0 (G.ca c) dx (ns.zip xs)),H,[]] σ (.I (.obj c ns ds)::r.map EC) (eg H0 a (.k0 (G.ca c) dx (ns.zip xs))) H:={
    sub:=λb o q=>by
     by_cases hb:b=a
     .subst hb;rw[vE]at q;cases q;exact h2
     .rw[vH hb]at q;exact R.sub _ _ q
    g0:=vS.refl _
    keep:=λb o q n=>q
    fr:=λb o q=>.inl q
    am:=λb q=>by cases q
    len:=by have:=R.len;simpa using this
    sl:=λi s q=>by
     cases i with
     |zero=>cases q;exact#v[.ref a,h1,by unfold cb;exact#v[a,dx,xs,O,vE,h5,a6.mono (vK h3 _) _ _ h6]]
     |succ i=>
      have l:(r.map EC)[i]?=Z s:=q;rw[bq]at l;cases q1:r[i]? with
      |none=>rw[q1]at l;cases l
      |some t=>
       rw[q1]at l;cases l;have ok:=R.sl (i+1) t q1;cases t with
       |I d=>obtain⟨v,g1,g2⟩:=ok;exact#v[v,g1,cb.mono (vK h3 _) _ _ g2]
       |_=>trivial
    ap:=λi j s t b n y n so=>by
     cases i with
     |zero=>cases y;cases so
     |succ i=>
      have l:(r.map EC)[i]?=Z s:=y;rw[bq]at l;cases q1:r[i]? with
      |none=>rw[q1]at l;cases l
      |some t=>rw[q1]at l;cases l;rw[N5]at so;cases so }
   refine#v[_,_,_,d,w,RL,u,λv H1 m s p E=>?_];have ha:=s _ _ vE;have A:vS H0 (without H1 a):=λb o q=>by
    have hb:b≠a:=λz=>by subst z;rw[h3]at q;cases q
    rw[IB hb];exact s b o (by rw[vH hb];exact q)
   refine k v (without H1 a) m A ?_ (G4 inj hn.1 ha d v hn.2 E);refine R.f5 (λb o q=>p.keep b o q (by simp)) A (λb o q=>p.sub _ _ (Fk q).2) λb o q=>?_;obtain⟨hb,q⟩:=Fk q;rcases p.fr b o q with z|z
   .have B:eg H0 a (.k0 (G.ca c) dx (ns.zip xs)) b=Z o:=z;rw[vH hb]at B;exact .inl B
   .exact .inr z
  .cases e
 .cases e
end
set_option h false
section
variable{X:Cx}{pins:cN}{σ:St}{H:Hp}{s:ae}{a:Addr}{A:aQ}{E:ab->ae->Prop}
theorem aaH(I:bt X pins σ H s)(e:H a=Z (.dK kvs))(J:dd (kV k) u)(M:dd z r)(N:kvs.length<aI)
  (l:∀v w f,za kvs k=Z v->bt X pins σ H f->dd v w->Q w f) (m:∀f,za kvs k=U->bt X pins σ (eg H a (.dK (g? kvs k z))) f->Q r f):
  ao (model X.prog X.w) A (call (.builtin "dict.setdefault") [.ref a,u,r]) Q E s:=by
 obtain⟨y,hd,i,rel,h⟩:=R9 I.ew e;have G:i.length<=aI:=by rw[<-rel.length];exact y
 have t:(g? kvs k z).length<=aI:=by have:=A3 kvs k z;omega
 have b:=rel.val k;refine iG o8 h.typeIs F.entry_dict_setdefault (F.args_dict_setdefault_3 _ _ _) (kt_meets_setdefault (vU X.prog X.w) a (E7 J) hd r) #v[i,h,G,λw C=>?_,λp j d B=>?_]
 .rw[C]at b;cases c:za kvs k with
  |none=>rw[c]at b;exact b.elim
  |some v=>rw[c]at b;exact l v w _ c (I.rl _) b
 .rw[p]at b;cases c:za kvs k with
  |some v=>rw[c]at b;exact b.elim
  |none=>have o:∃q,j.get? a=Z q:=let #v[q,_,_,x,_]:=d;#v[q,x];exact m _ c (HD I (by rw[e];exact True.intro) B o (NG t hd (rel.put k M) d))
def Tj(e ty tx:TE):TE:=λσ H Q=>e σ H λx c=>∃a,x=.ref a/\IsD c a/\ty σ c λy d=>tx σ d λz b=>∃kvs k,b a=Z (.dK kvs)/\y=kV k/\kvs.length<aI/\
 (∀v,za kvs k=Z v->Q v b)/\(za kvs k=U->Q z (eg b a (.dK (g? kvs k z))))
theorem Tn(T:PE X o td)(P:PE X e ty)(R:PE X f tx)(m:M2 X o "setdefault" apos e f cpos):PE X (.Call (.Attribute o "setdefault" apos) [e,f] [] cpos) (Tj td ty tx):=by
 intro pins s σ H Q I h;refine jQ m.a5 m.few m.line jR o8 F.type_dict_setdefault (e0 (T pins s σ H _ I h) λu s1 zz=>?_);obtain⟨x,p,j,rx,a,G,d,W⟩:=zz;subst G;obtain rfl:u=Value.ref a:=rx;obtain⟨t1,t2,_⟩:=KE j d;refine#v[t1,t2,?_];rw[m.Fs];refine ig O (ip (eK (e0 (P pins s1 σ p _ j W) λiv s2 #v[y,q,t,ry,Y]=>
  eK (e0 (R pins s2 σ q _ t Y) λfv s3 #v[z,r,B,l,kvs,k,C,J,S,M,N]=>gq ?_))))
 subst J;exact aaH B C ry l S (λv w s' c b i=>#v[v,r,b,i,M v c]) λs' c b=>#v[z,_,b,l,N c]
end
def Ck(a:List d?)(dss:List bp)(k:d?)(d:D):List d?×List bp:=
 if KP a k=γ then (a,fz (λc b=>if c=k then b++[d]else b) a dss)else (a++[k],dss++[[d]])
def Fl:KP c k=γ ↔ k∈c:=by unfold KP;rw[fP];exact#v[λ#v[x,a,b]=>bj b▸a,λh=>#v[k,h,aY O]]
def To{b:List d?}{a:bF}:b.length=a.length->za (b.zip a) k=Z v->∃j:Nat,b[j]?=Z k/\a[j]?=Z v:=by
 induction b generalizing a with
 |nil=>intro _ h;cases h
 |cons l b i=>
  intro c h;cases a with
  |nil=>cases c
  |cons v0 a=>
   unfold za at h;rw[fM,eX]at h;by_cases e:l=k
   .subst e;simp only[decide_true]at h;cases h;exact#v[0,O,O]
   .simp only[e,decide_false]at h;obtain⟨j,d,f⟩:=i (by simpa using c) h;exact#v[j+1,d,f]
def Tp{a:List d?}{b:bF}:a.length=b.length->za (a.zip b) k=U->k∉a:=by
 induction a generalizing b with
 |nil=>intro _ _ h;cases h
 |cons i a f=>
  intro c h d;cases b with
  |nil=>cases c
  |cons v0 b=>
   unfold za at h;rw[fM,eX]at h;by_cases e:i=k
   .subst e;simp only[decide_true]at h;cases h
   .simp only[e,decide_false]at h;rcases aJ.1 d with z|z
    .exact e z.symm
    .exact f (by simpa using c) h z
structure K3(G:Bg)(F:Fr)(H0 H:Hp)(a:Addr)(ks:List d?)(dss:List bp)(bs:List Addr):Prop where
 f?:H a=Z (.dK (ks.zip (bs.map V.ref)))
 n0:H0 a=U
 nB:F.B a=U
 len:ks.length=bs.length
 xr:bs.length=dss.length
 nd:bs.Nodup
 kd:ks.Nodup
 each:∀(i:Nat) (b:Addr) (ds:bp),bs[i]?=Z b->dss[i]?=Z ds->∃xs,H b=Z (.a3 xs)/\H0 b=U/\F.B b=U/\a6 G H0 ds xs
section
variable{G:Bg}{F:Fr}{σ:St}{ρ:bh}{H0 H H0' H':Hp}{a:Addr}{ks:List d?}{dss:List bp}{bs:List Addr}
def K3.f5(g:K3 G F H0 H a ks dss bs)(hs:vS H H')(h0:vS H0 H0')(hf:∀b o,H0' b=Z o->H0 b=Z o\/H b=U):K3 G F H0' H' a ks dss bs where
 f?:=hs _ _ g.f?
 n0:=by
  cases q:H0' a with
  |none=>rfl
  |some o=>
   rcases hf a o q with z|z
   .rw[g.n0]at z;cases z
   .rw[g.f?]at z;cases z
 nB:=g.nB
 len:=g.len
 xr:=g.xr
 nd:=g.nd
 kd:=g.kd
 each:=λi b ds c d=>by
  obtain⟨xs,q1,q2,q3,q4⟩:=g.each i b ds c d;refine#v[xs,hs _ _ q1,?_,q3,a6.mono h0 _ _ q4];cases q:H0' b with
  |none=>rfl
  |some o=>
   rcases hf b o q with z|z
   .rw[q2]at z;cases z
   .rw[q1]at z;cases z
def b0.still(R:b0 G F σ ρ H0 H)(no:∀s∈ρ,s.fh=δ):b0 G #v[H0,H,[]] σ ρ H0 H where
 sub:=R.sub
 g0:=vS.refl _
 keep:=λb o e y=>e
 fr:=λb o e=>.inl e
 am:=λa h=>by cases h
 len:=R.len
 sl:=λi s e=>by
  have ok:=R.sl i s e;have n:=no s (cf e);cases s with
  |un=>trivial
  |I d=>exact ok
  |_=>cases n
 ap:=λi j s t b y e y so=>by rw[no s (cf e)]at so;cases so
theorem b0.touch(R:b0 G F σ ρ H0 H)(no:∀s∈ρ,s.fh=δ)(c:∀b o,H b=Z o->(H0 b≠U\/F.B b≠U)->H' b=Z o)(ha:∀b o,H b=Z o->∃f,H' b=Z f):b0 G F σ ρ H0 H' where
 sub:=λb o e=>c b o (R.sub _ _ e) (.inl (by rw[e];exact λz=>nomatch z))
 g0:=R.g0
 keep:=λb o e n=>c b o (R.keep b o e n) (.inr (by rw[e];exact λz=>nomatch z))
 fr:=R.fr
 am:=λb hb=>by obtain⟨o,e⟩:=R.am b hb;exact ha b o e
 len:=R.len
 sl:=λi s e=>by
  have ok:=R.sl i s e;have n:=no s (cf e);cases s with
  |un=>trivial
  |I d=>exact ok
  |_=>cases n
 ap:=λi j s t b y e y so=>by rw[no s (cf e)]at so;cases so
set_option r "I bs Addr;J ks d?" in def aaϑ0{ϑ1:List ϑ2}(h:ϑ1.Nodup){i j:Nat}{b:ϑ2}(c:ϑ1[i]?=Z b)(d:ϑ1[j]?=Z b):i=j:=by obtain⟨l,e⟩:=cj.1 c;obtain⟨m,f⟩:=cj.1 d;exact(jU h).1 (e.t f.symm)
def K3.more(g:K3 G F H0 H a ks dss bs){j:Nat}{k:d?}{b:Addr}{d:D}{v:V}{A:bF}(h:ks[j]?=Z k)(p:bs[j]?=Z b)(l:H b=Z (.a3 A))(J:cb G H0 d v):
  K3 G F H0 (eg H b (.a3 (A++[v]))) a (Ck ks dss k d).1 (Ck ks dss k d).2 bs:=by
 have B:=Fl.2 (cf h);unfold Ck;rw[aj B];have I:a≠b:=λz=>by subst z;rw[g.f?]at l;cases l
 refine#v[by rw[vH I];exact g.f?,g.n0,g.nB,g.len,?_,g.nd,g.kd,λi c N o e=>?_]
 .rw[lQ,<- g.xr,<- g.len,gS,g.len]
 .rw[List.getElem?_zipWith]at e;cases f:ks[i]? with
  |none=>rw[f]at e;cases e
  |some C=>
   cases t:dss[i]? with
   |none=>rw[f,t]at e;cases e
   |some m=>
    rw[f,t]at e;cases e;obtain⟨M,u,w,x,y⟩:=g.each i c m o t;by_cases q:C=k
    .subst q;have r:=aaJ g.kd f h;subst r;rw[o]at p;cases p;rw[u]at l;cases l;rw[aj O];exact#v[_,vE,w,x,xp y (wB J wj)]
    .rw[ak q];have E:c≠b:=λz=>by subst z;have r:=aaI g.nd o p;subst r;rw[f]at h;cases h;exact q O
     exact#v[M,by rw[vH E];exact u,w,x,y]
theorem K3.fresh(g:K3 G F H0 H a ks dss bs)(t:k∉ks)(q:H p=U)(C:H0 p=U)(hB:F.B p=U)(M:cb G H0 d v):
  K3 G F H0 (eg (eg (eg H p (.a3 [])) a (.dK ((ks++[k]).zip ((bs++[p]).map V.ref)))) p (.a3 [v])) a (Ck ks dss k d).1 (Ck ks dss k d).2 (bs++[p]):=by
 have E:=λz=>t (Fl.1 z);unfold Ck;rw[ak E];have J:a≠p:=λz=>by subst z;rw[g.f?]at q;cases q
 have w:p∉bs:=λz=>by
  obtain⟨i,l,e⟩:=lS z;have b:bs[i]?=Z p:=by rw[aP l,e]
  obtain⟨j,f⟩:∃j,dss[i]?=Z j:=#v[dss[i]'(by rw[<-g.xr];exact l),aP _];obtain⟨A,h,_⟩:=g.each i p j b f;rw[q]at h;cases h
 refine#v[by rw[vH J,vE],g.n0,g.nB,by simp[g.len],by simp[g.xr],?_,?_,λi c j b f=>?_]
 .rw[cn];refine#v[g.nd,by simp,λx r y m=>?_];rw[br]at m;subst m;exact λz=>w (z▸r)
 .rw[cn];refine#v[g.kd,by simp,λx r y m=>?_];rw[br]at m;subst m;exact λz=>t (z▸r)
 .by_cases l:i<bs.length
  .rw[gb l]at b;rw[gb (by rw[<-g.xr];exact l)]at f;obtain⟨A,h,N,P,Q⟩:=g.each i c j b f;have u:c≠p:=λz=>w (z▸cf b);have I:c≠a:=λz=>by subst z;rw[g.f?]at h;cases h
   exact#v[A,by rw[vH u,vH I,vH u];exact h,N,P,Q]
  .have o:i=bs.length:=by have:=(cj.1 b).1;rw[aA,cR]at this;omega
   subst o;rw[f9 (aH _),rP]at b;rw[g.xr,f9 (aH _),rP]at f;cases b;cases f;exact#v[[v],vE,C,hB,wB M wj]
def Mx(G:Bg)(b:FE):TS:=X4 (tBM G.K "list" KC (Tj (Et 1) (tF G b) (tLst Jp)) (E1 (Et 2) Jp))
def Tq{P:E'}{l:V}(R:b0 G F σ ρ H0 H)(no:∀s∈ρ,s.fh=δ)(h1:σ[1]?=Z (Z (.ref a)))(T:σ[2]?=Z (Z l))(rd:cb G H0 d l)
  (g:K3 G F H0 H a ks dss bs) (hk:fk ρ=Z (x,ρ)) (ek:BS x=Z k) (l1:ks.length<1000) (l2:∀i∈dss,i.length<1000)
  (kont:∀C E J,vS H0 C->b0 G F σ ρ C E->K3 G F C E a (Ck ks dss k d).1 (Ck ks dss k d).2 J->P.nx σ E):Mx G fk P σ H:=by
 refine#v[.ref a,h1,a,O,.inl #v[_,.inl g.f?],_,_,_,x,ρ,b0.still R no,hk,λv A f s I r=>?_];have X:=λb o e=>I.keep b o e (by simp);have W:=I.fr;have R2:=R.f5 X s I.sub W;have t:=g.f5 X s W;have u:=cb.mono s _ _ rd;refine#v[bT _,λp h=>?_];have np:a≠p:=λz=>by subst z;rw[t.f?]at h;cases h
 have Q:b0 G F σ ρ A (eg f p (.a3 [])):=R2.ff h _;have g3:K3 G F A (eg f p (.a3 [])) a ks dss bs:=t.f5 (vK h _) (vS.refl _) λb o e=>.inl e;have lz:(ks.zip (bs.map V.ref)).length<aI:=by rw[iw,af,<- g.len,gS,bV];omega
 refine#v[_,k,g3.f?,Cj r ek,lz,λw B=>?_,λB=>?_]
 .obtain⟨j,e1,m⟩:=To (by rw[af];exact g.len) B;rw[bq]at m;cases q:bs[j]? with
  |none=>rw[q]at m;cases m
  |some b=>
   rw[q]at m;cases m;obtain⟨i,S⟩:∃i,dss[j]?=Z i:=#v[dss[j]'(by rw[<-g.xr];exact(cj.1 q).1),aP _];obtain⟨N,M,w2,w3,w4⟩:=g3.each j b i q S;have lx:N.length<aI:=by rw[<-vC w4,bV];have:=l2 i (cf S);omega
   refine#v[.inl #v[O,N,fb.of M],l,T,b,N,l,O,O,M,lx,?_];refine kont A _ bs s (b0.touch Q no (λc o e z=>?_) λc o e=>?_) (g3.more e1 q M u)
   .have nc:c≠b:=λy=>by
     subst y;rcases z with z|z
     .exact z w2
     .exact z w3
    rw[vH nc];exact e
   .by_cases y:c=b
    .subst y;exact#v[_,vE]
    .rw[vH y];exact#v[o,e]
 .have nk:=Tp (by rw[af];exact g.len) B;have h0p:=R2.ef h;have hBp:=R2.fm h;have ez:g? (ks.zip (bs.map V.ref)) k (.ref p)=(ks++[k]).zip ((bs++[p]).map V.ref):=by rw[R8 _ B,aV,mT (by rw[af];exact g.len)];rfl
  rw[ez];have Y:eg (eg f p (.a3 [])) a (.dK ((ks++[k]).zip ((bs++[p]).map V.ref))) p=Z (.a3 []):=by rw[vH (λz=>np z.symm),vE]
  refine#v[.inl #v[O,[],fb.of Y],l,T,p,[],l,O,O,Y,by rw[bV];decide,?_];refine kont A _ (bs++[p]) s (b0.touch Q no (λc o e z=>?_) λc o e=>?_) (t.fresh nk h h0p hBp u)
  .have n1:c≠p:=λy=>by
    subst y;rcases z with z|z
    .exact z h0p
    .exact z hBp
   have n2:c≠a:=λy=>by
    subst y;rcases z with z|z
    .exact z t.n0
    .exact z t.nB
   rw[cB,vH n1,vH n2];exact e
  .by_cases y:c=p
   .subst y;exact#v[_,vE]
   .rw[vH y];by_cases y2:c=a
    .subst y2;exact#v[_,vE]
    .rw[vH y2];exact#v[o,e]
end
def DD(b:D->Option D):bp->List d?->List bp->Option (List d?×List bp)
 |[],a,dss=>Z (a,dss)
 |d::r,a,dss=>match b d with
  |some x=>match BS x with
   |some k=>if (decide (a.length<1000)&&dss.all λc=>decide (c.length<1000))=γ then DD b r (Ck a dss k d).1 (Ck a dss k d).2 else U
   |none=>U
  |none=>U
def N6(b:D->Option D):FS:=λc=>match c with
 |[.I (.a3 L),.un,.un]=>match DD b L [] []with
  |some (a,dss)=>Z (.rt (.Y a (dss.map .a3)) [.I (.a3 L),.un,.un])
  |none=>U
 |_=>U
section
variable{X:Cx}{G:Bg}
theorem G5:∀(bs:List Addr) (dss:List bp),bs.length=dss.length->(∀(i:Nat) (b:Addr) (a:bp),bs[i]?=Z b->dss[i]?=Z a->∃c,d b=Z (.a3 c)/\a6 G d a c)->
  a6 G d (dss.map .a3) (bs.map V.ref)
 |[],[],_,_=>wj
 |[],_::_,h,_=>by cases h
 |_::_,[],h,_=>by cases h
 |b::bs,a::dss,h,k=>by obtain⟨c,j,l⟩:=k 0 b a O O;exact wB (DX j l) (G5 bs dss (by simpa using h) λi b a e f=>k (i+1) b a e f)
theorem W3(R:b0 G F σ [.I (.a3 L),.un,s2] H0 H)(g:K3 G F H0 H a ks dss bs)(o:Obj):
  ∃r,vS H0 r/\b0 G F σ [.I (.a3 L),.un,.un] r (eg H a (.mi o (.dK (ks.zip (bs.map V.ref)))))/\cb G r (.Y ks (dss.map .a3)) (.ref a):=by
 have w:∀{b:Addr},b∈bs->∃xs,H b=Z (.a3 xs)/\H0 b=U/\F.B b=U:=λ{b} hb=>by obtain⟨i,hi,e⟩:=lS hb;obtain⟨xs,h,m,q,_⟩:=g.each i b (dss[i]'(by rw[<-g.xr];exact hi)) (by rw[aP hi,e]) (aP _);exact#v[xs,h,m,q]
 have na:a∉bs:=λz=>by obtain⟨xs,h,_⟩:=w z;rw[g.f?]at h;cases h
 have p:vS H0 (λc=>if c=a then Z (.mi o (.dK (ks.zip (bs.map V.ref))))else if c∈bs then H c else H0 c):=λc u e=>by
  have f:c≠a:=λz=>by subst z;rw[g.n0]at e;cases e
  have l:c∉bs:=λz=>by obtain⟨_,_,m,_⟩:=w z;rw[m]at e;cases e
  show (if c=a then _ else if c∈bs then H c else H0 c)=_;rw[ak f,ak l];exact e
 refine#v[_,p,?_,?_]
 .exact {
   sub:=λc u e=>by
    have d:(if c=a then Z (HO.mi o (.dK (ks.zip (bs.map V.ref))))else if c∈bs then H c else H0 c)=Z u:=e;by_cases f:c=a
    .subst f;rw[aj O]at d;rw[vE];exact d
    .rw[ak f]at d;rw[vH f];by_cases l:c∈bs
     .rw[aj l]at d;exact d
     .rw[ak l]at d;exact R.sub _ _ d
   g0:=R.g0.t p
   keep:=λc u e n=>by rw[vH (λz=>by subst z;rw[g.nB]at e;cases e)];exact R.keep c u e n
   fr:=λc u e=>by
    have d:=e;by_cases f:c=a
    .subst f;exact .inr g.nB
    .rw[ak f]at d;by_cases l:c∈bs
     .obtain⟨_,_,_,q⟩:=w l;exact .inr q
     .rw[ak l]at d;exact R.fr _ _ d
   am:=λc A=>by
    by_cases f:c=a
    .subst f;exact#v[_,vE]
    .rw[vH f];exact R.am c A
   len:=R.len
   sl:=λi s e=>by
    match i,e with
    |0,e=>cases e;obtain⟨v,h,m⟩:=R.sl 0 _ O;exact#v[v,h,cb.mono p _ _ m]
    |1,e=>cases e;trivial
    |2,e=>cases e;trivial
    |i+3,e=>cases e
   ap:=λi j s t b _ e _ so=>by
    match i,e with
    |0,e=>cases e;cases so
    |1,e=>cases e;cases so
    |2,e=>cases e;cases so
    |i+3,e=>cases e }
 .unfold cb;refine#v[a,o,bs.map V.ref,O,by show (if a=a then _ else _)=_;rw[aj O],by rw[af];exact g.len,G5 bs dss g.xr λi b ds x y=>?_];obtain⟨xs,h,m,q,E⟩:=g.each i b ds x y;have hb:=cf x;refine#v[xs,?_,a6.mono p _ _ E];have C:b≠a:=λz=>na (by rw[<-z];exact hb);rw[ak C,aj hb];exact h
def Tr{L:bp}{b:Sl}(h:b.fh=δ):∀s∈[Sl.I (.a3 L),.un,b],s.fh=δ:=λs a=>by
 simp only[aJ,bU,or_false]at a;rcases a with rfl|rfl|rfl
 .rfl
 .rfl
 .exact h
inductive GI(G:Bg) (F:Fr) (Ha:Hp) (p:Addr) (L:bp) (vk:D->Option D) (KS:List d?) (DSS:List bp) (i:Nat) (σ':St) (H':Hp):Prop
 |mk (Hi:Hp) (ks:List d?) (dss:List bp) (bs:List Addr) (s2:Sl):vS Ha Hi->Sl.fh s2=δ->b0 G F σ' [.I (.a3 L),.un,s2] Hi H'->σ'[1]?=Z (Z (.ref p))->K3 G F Hi H' p ks dss bs->DD vk (L.drop i) ks dss=Z (KS,DSS)->GI G F Ha p L vk KS DSS i σ' H'
set_option h true
def QX(h1:PS X st1 (EY NH (A2 1)))(h2:PS X st2 (Zj (M? G (iL (cV 0))) (A2 2) (Mx G (c1 f (cV 2)))))
  (h3:PS X st3 (tRet (λC H Q=>Et 1 C H λx I=>Q x I\/∃a kvs,I a=Z (.dK kvs)/\∀o,Q x (eg I a (.mi o (.dK kvs)))))):mw X [st1,st2,st3] (ki G (N6 f)):=
 mw.b4 (HM h1 (HM h2 (Kq h3))) λE C H hh=>by
  obtain⟨F,ρ,H0,o,R,e,k,k2⟩:=hh;unfold N6 at e;split at e
  .rename_i L;cases P:DD f L [] []with
   |none=>simp only[P]at e;cases e
   |some p=>
    obtain⟨KS,DSS⟩:=p;simp only[P]at e;cases e;intro p hp;have R1:=(R.ff hp (.dK [])).set (i:=1) (v:=.ref p) (s:=.un) trivial (λz=>by cases z);have t:C.length=3:=R.len;have g1:K3 G F H0 (eg H p (.dK [])) p [] [] []:=#v[vE,R.ef hp,R.fm hp,O,O,m7,m7,λi b ds e1=>by cases e1];have v1:(C.set 1 (Z (V.ref p)))[1]?=Z (Z (.ref p)):=by rw[jG (by rw[t];decide)]
    refine#v[_,_,_,L,_,b0.still R1 (Tr O),O,λJ M Hb s A wk=>?_];have hs:=λb o e=>A.keep b o e (by simp);have R2:=R1.f5 hs s A.sub A.fr;have g2:=g1.f5 hs s A.fr;refine#v[λi m w h=>m=L.length - i/\i<=L.length/\GI G F M p L f KS DSS i w h,
     #v[_,O,bT _,M,[],[],[],.un,vS.refl _,O,R2,v1,g2,P],?_]
    rintro i m d j ⟨rfl,hi,Hi,ks,dss,bs,s2,B,n2,l,vi,W,c⟩;by_cases hlt:i<L.length
    .have ed:=ic hlt;rw[ed]at c;unfold DD at c;cases T:f L[i]with
     |none=>simp only[T]at c;cases c
     |some x=>
      simp only[T]at c;cases S:BS x with
      |none=>simp only[S]at c;cases c
      |some kk=>
       simp only[S]at c;split at c
       .rename_i Y;simp only[aT,bE,aK]at Y;obtain⟨go,yl⟩:=(wk i Hi j B l.sub).1 L[i] (aP hlt);refine .inr #v[go,GI G F M p L f KS DSS (i+1),
         λw h q=>#v[L.length - (i+1),by omega,O,hlt,q],λu h y=>?_]
        obtain⟨H2,t1,t2,t3,t4,t5⟩:=yl u h y;have hl3:d.length=3:=l.len;have R3:b0 G F (d.set 2 (Z u)) [.I (.a3 L),.un,.I L[i]] H2 h:=(l.f5 t3 t1 t2 t4).setIm 2 t5;have w1:(d.set 2 (Z u))[1]?=Z (Z (.ref p)):=by rw[lA (by decide)];exact vi
        have w2:(d.set 2 (Z u))[2]?=Z (Z u):=by rw[jG (by rw[hl3];decide)]
        refine Tq R3 (Tr O) w1 w2 t5 (W.f5 t3 t1 t4) (by show c1 f (cV 2) _=_;unfold c1 cV;simp only[List.getElem?_cons_succ,List.getElem?_cons_zero,T]) S Y.1 (λds hd=>Y.2 ds hd) λHc Hd N sc Rc gc=>?_;exact#v[Hc,_,_,N,_,B.t (t1.t sc),O,Rc,w1,gc,c]
       .cases c
    .have r:i=L.length:=by omega
     refine .inl #v[(wk i Hi j B l.sub).2 r,?_];subst r;rw[mN]at c;cases c;refine#v[.ref p,vi,.inr #v[p,_,W.f?,λo=>?_]];obtain⟨Hq,q1,q2,q3⟩:=W3 l W o;exact k _ _ Hq _ (s.t (B.t q1)) q2 q3
  .cases e
end
set_option h false
section
variable{X:Cx}{G:Bg}
set_option r "W4 int;Tt bool;Rl tuple" in def ϑ0:∀y b,w5 "ϑ1" y=Z b->cJ X.K (y.val G) (.type "ϑ1")=Z b:=Iu (by kernel_rfl)
end
def J'(F:Fr)(p:Addr)(o:HO):Fr:=#v[F.B0,λb=>if b=p then Z o else F.B b,F.A]
def HF:(J' F p o).B p=Z o:=by show (if p=p then _ else _)=_;rw[aj O]
theorem DZ(h:b≠p):(J' F p o).B b=F.B b:=by show (if b=p then _ else _)=_;rw[ak h]
theorem Ew.frame{m:Fr}(h:Ew G F r H o s)(hA:m.A=F.A)(hB:∀a,o=Z (.ref a)->s.fh=γ->F.B a=U->m.B a=U):Ew G m r H o s:=by
 cases s with
 |un=>trivial
 |I d=>exact h
 |ls p=>obtain⟨a,l,b,e,f,i,j⟩:=h;exact#v[a,l,b,e,f,hB a b O i,j]
 |pm p=>obtain⟨a,l,b,e,f,i,j⟩:=h;exact#v[a,l,b,e,f,by rw[hA];exact i,j]
 |dk u p=>obtain⟨a,l,b,e,f,i,j,q⟩:=h;exact#v[a,l,b,e,f,hB a b O i,j,q]
 |ob c w p=>obtain⟨a,t,l,b,e,f,i,j,q⟩:=h;exact#v[a,t,l,b,e,f,by rw[hA];exact i,j,q]
section
variable{X:Cx}{G:Bg}{F:Fr}{σ:St}{ρ:bh}{H0 H:Hp}{p:Addr}{o:HO}
theorem b0.J'(R:b0 G F σ ρ H0 H)(c:H p=U)(o:HO):b0 G (L4.J' F p o) σ ρ H0 (eg H p o) where
 sub:=(R.ff c o).sub
 g0:=R.g0
 keep:=λb u e n=>by
  by_cases hb:b=p
  .subst hb;rw[HF]at e;rw[vE];exact e
  .rw[DZ hb]at e;exact(R.ff c o).keep b u e n
 fr:=λb u e=>by
  have hb:b≠p:=λz=>by subst z;rw[R.ef c]at e;cases e
  rw[DZ hb];exact R.fr b u e
 am:=(R.ff c o).am
 len:=R.len
 sl:=λi s e=>by refine Ew.frame ((R.ff c o).sl i s e) O λa h1 so hB=>?_;obtain⟨d,u,q1,q2,_⟩:=(R.sl i s e).at so;rw[h1]at q1;cases q1;rw[DZ (λz=>by subst z;rw[c]at q2;cases q2)];exact hB
 ap:=R.ap
theorem b0.y?(R:b0 G (L4.J' F p o) σ ρ H0 H)(hB:F.B p=U):b0 G F σ ρ H0 H where
 sub:=R.sub
 g0:=R.g0
 keep:=λb u e n=>R.keep b u (by rw[DZ (λz=>by subst z;rw[hB]at e;cases e)];exact e) n
 fr:=λb u e=>by
  rcases R.fr b u e with z|z
  .exact .inl z
  .by_cases hb:b=p
   .subst hb;exact .inr hB
   .rw[DZ hb]at z;exact .inr z
 am:=R.am
 len:=R.len
 sl:=λi s e=>Ew.frame (R.sl i s e) O λa h1 so q=>by
  by_cases hb:a=p
  .subst hb;exact hB
  .rw[DZ hb]at q;exact q
 ap:=R.ap
theorem b0.layHeld(R:b0 G (L4.J' F p o) σ ρ H0 H)(hB:F.B p=U)(h0:H0 p=U)(nA:p∉F.A)(u:HO):b0 G F σ ρ (eg H0 p u) (eg H p u) where
 sub:=λb v e=>by
  by_cases hb:b=p
  .subst hb;rw[vE]at e ⊢;exact e
  .rw[vH hb]at e ⊢;exact R.sub _ _ e
 g0:=(b0.y? R hB).g0.t (vK h0 u)
 keep:=λb v e n=>by rw[vH (λz=>by subst z;rw[hB]at e;cases e)];exact(b0.y? R hB).keep b v e n
 fr:=λb v e=>by
  by_cases hb:b=p
  .subst hb;exact .inr hB
  .rw[vH hb]at e;exact(b0.y? R hB).fr _ _ e
 am:=λb hb=>by
  have c:b≠p:=λz=>by subst z;exact nA hb
  rw[vH c];exact R.am b hb
 len:=R.len
 sl:=λj t e=>by
  have ne:∀a,(σ[j]?).join=Z (.ref a)->t.fh=γ->a≠p:=λa z to y=>by
   subst y;obtain⟨d,v,q1,_,_,q4⟩:=(R.sl j t e).at to;rw[z]at q1;cases q1;rcases q4 with q|q
   .rw[HF]at q;cases q
   .exact nA q
  refine((b0.y? R hB).sl j t e).f5 (vK h0 u) (λa v z to q=>?_) λa v z to q q0=>?_
  .rw[vH (ne a z to)];exact q
  .rw[vH (ne a z to)];exact q0
 ap:=R.ap
def Cn:List (Str×FE)->bh->Option (bp×bh)
 |[],ρ=>Z ([],ρ)
 |(_,f)::r,ρ=>match f ρ with
  |some (d,a)=>match Cn r a with
   |some (c,b)=>Z (d::c,b)
   |none=>U
  |none=>U
def Tu(G:Bg)(kfs:List (Str×FE)):List (TE×TE):=kfs.map λq=>(tC (.str q.1),tF G q.2)
theorem My:∀(kfs:List (Str×FE)) (ρ b:bh) (i:bp) (H0 H:Hp) (Q:List (V×V)->Hp->Prop),b0 G F σ ρ H0 H->Cn kfs ρ=Z (i,b)->
  (∀j h a,vS H0 h->b0 G F σ b h a->a6 G h i j->Q (fz (λk v=>(V.str k,v)) (kfs.map (·.1)) j) a)->KD (Tu G kfs) σ H Q
 |[],ρ,b,i,H0,H,Q,R,e,k=>by cases e;exact k [] H0 H (vS.refl _) R wj
 |(x,f)::r,ρ,b,i,H0,H,Q,R,e,k=>by
  unfold Cn at e;cases t:f ρ with
  |none=>simp only[t]at e;cases e
  |some q=>
   obtain⟨d,c⟩:=q;simp only[t]at e;cases u:Cn r c with
   |none=>simp only[u]at e;cases e
   |some q=>obtain⟨m,B⟩:=q;simp only[u]at e;cases e;refine#v[F,ρ,H0,d,c,R,t,λv h a s z A=>?_];exact My r c _ m h a _ z u λj y l w R2 rs=>k (v::j) y l (s.t w) R2 (wB (cb.mono w _ _ A) rs)
theorem Mz:∀(more acc:List (d?×V)),((acc++more).map (·.1)).Nodup->Eu acc more=acc++more
 |[],acc,_=>by rw[bZ];rfl
 |q::r,acc,h=>by
  have c:(acc.any λkv=>decide (kv.1=q.1))=δ:=by rw[i9];intro z;obtain⟨y,b,a⟩:=fP.1 z;rw[aV,cn]at h;exact h.2.2 y.1 (bY b) q.1 (bY ba) (bj a)
  have e:g? acc q.1 q.2=acc++[q]:=by unfold g?;rw[c];rfl
  show Eu (g? acc q.1 q.2) r=_;rw[e,Mz r (acc++[q]) (by simpa using h)];simp
def QY:eg (eg H p x) p y=eg H p y:=by
 funext b
 by_cases a:b=p
 .subst a;rw[vE,vE]
 .rw[vH a,vH a,vH a]
def G6(kfs:List (Str×FE)):FE:=λρ=>match Cn kfs ρ with
 |some (b,a)=>Z (.Y (kfs.map λq=>Sum.inr q.1) b,a)
 |none=>U
theorem IC:∀{kfs:List (Str×FE)} {ρ a:bh} {b:bp},Cn kfs ρ=Z (b,a)->b.length=kfs.length
 |[],ρ,a,b,e=>by cases e;rfl
 |(x,f)::r,ρ,a,b,e=>by
  unfold Cn at e;cases i:f ρ with
  |none=>simp only[i]at e;cases e
  |some q=>
   obtain⟨d,h⟩:=q;simp only[i]at e;cases c:Cn r h with
   |none=>simp only[c]at e;cases e
   |some q=>obtain⟨j,l⟩:=q;simp only[c]at e;cases e;rw[aS,aS,IC c]
theorem MA:∀(a:aE) (b:bF),fz (λk v=>(V.str k,v)) a b=((a.map λk=>(Sum.inr k:d?)).zip b).map λkv=>(kV kv.1,kv.2)
 |[],b=>rfl
 |k::a,[]=>rfl
 |k::a,v::b=>by show (V.str k,v)::_=_;rw[MA a b];rfl
theorem W5(h:PE X e (Yj (Tu G kfs)))(x:(kfs.map λq=>(Sum.inr q.1:d?)).Nodup)(l:kfs.length<=15):PE X e (tF G (G6 kfs)):=PE.b4 (PE.ν h) λσ H Q t=>by
 obtain⟨F,ρ,H0,d,E,R,e,k⟩:=t;unfold G6 at e;cases a:Cn kfs ρ with
 |none=>simp only[a]at e;cases e
 |some q=>
  obtain⟨r,I⟩:=q;simp only[a]at e;cases e;intro p b;have hB:F.B p=U:=R.fm b;have nA:p∉F.A:=λz=>by obtain⟨u,q⟩:=R.am p z;rw[b]at q;cases q
  refine My kfs ρ _ r H0 _ _ (b0.J' R b (.dK [])) a λc m f s i rs=>?_;have C:f p=Z (.dK []):=i.keep p _ HF nA;have j:m p=U:=by
   cases q:m p with
   |none=>rfl
   |some u=>
    rcases i.fr p u q with z|z
    .have:=R.g0 _ _ z;rw[R.ef b]at this;cases this
    .rw[HF]at z;cases z
  have lv:(kfs.map λq=>(Sum.inr q.1:d?)).length=c.length:=by rw[af,<- IC a,vC rs]
  have w:(((kfs.map λq=>(Sum.inr q.1:d?)).zip c).map (·.1))=kfs.map λq=>(Sum.inr q.1:d?):=List.map_fst_zip (by rw[lv];exact aH _)
  refine#v[C,(kfs.map λq=>(Sum.inr q.1:d?)).zip c,?_,?_,.inr #v[p,_,vE,λy=>?_]]
  .rw[MA,aX];rfl
  .rw[iw,<- lv,gS,af];exact l
  .rw[QY,Mz _ [] (by rw[cB,w];exact x),cB];refine k _ _ _ (s.t (vK j _)) (b0.layHeld i hB j nA _) ?_;unfold cb;exact#v[p,y,c,O,vE,lv,a6.mono (vK j _) _ _ rs]
end
end L4
namespace L4
open PySem PySem.Spec PySem.Calls PyProof.Rows PySem.W L2 L3
def QZ{b:Type}(c:Nat->Nat->Bool):KasT b->b
 |.ret a=>a
 |.ask i j k=>QZ c (k (c i j))
def AG{c:Type}(P:Nat->Nat->Prop)(R:c->Prop):KasT c->Prop
 |.ret a=>R a
 |.ask i j k=>P i j/\∀b,AG P R (k b)
theorem AG.run{b:Type}{P:Nat->Nat->Prop}{R:b->Prop}(c:Nat->Nat->Bool):∀(t:KasT b),AG P R t->R (QZ c t)
 |.ret a,h=>h
 |.ask i j k,h=>AG.run c (k (c i j)) (h.2 (c i j))
theorem AG.bind{c e:Type}{P:Nat->Nat->Prop}{R:c->Prop}{S:e->Prop}{f:c->KasT e}(d:∀a,R a->AG P S (f a)):∀{t:KasT c},AG P R t->AG P S (t.bind f)
 |.ret a,h=>d a h
 |.ask i j k,h=>#v[h.1,λb=>AG.bind d (h.2 b)]
theorem Pd{b:Type}{cmp:Nat->Nat->(Bool->ae->Prop)->ae->Prop}{c:Nat->Nat->Bool}{P:Nat->Nat->Prop}{s:ae}{Q:b->ae->Prop}(d:∀i j C,P i j->C (c i j) s->cmp i j C s):
  ∀{R:b->Prop} {t:KasT b},AG P R t->Q (QZ c t) s->t.kasWp cmp Q s
 |R,.ret a,_,q=>q
 |R,.ask i j k,h,q=>d i j _ h.1 (Pd d (h.2 (c i j)) q)
def yu(n:Nat)(p:Array Nat):Prop:=p.toList.Perm (aB n)
set_option h true
theorem yu.getD(h:yu n p)(a:0<n)(i:Nat):p.getD i 0<n:=by
 unfold Array.getD;split
 .rename_i b;have:p[i]∈p.toList:=by simp
  exact bx.1 (h.mem_iff.1 this)
 .exact a
set_option h false
def yu.rev(h:yu n p)(i j:Nat):yu n (kas_rev p i j):=by exact(oM.1 (foldl_swaps_perm _ _ _ _)).t h
def yu.bub(h:yu n p)(i j:Nat):yu n (bubble p i j):=(oM.1 (bubble_perm _ _ _)).t h
abbrev In2(n:Nat):Nat->Nat->Prop:=λi j=>i<n/\j<n
theorem KR(a:0<n)(h:yu n p):∀f k,AG (In2 n) (λy=>True) (kas_asc p f k)
 |0,k=>trivial
 |f+1,k=>#v[#v[h.getD a _,h.getD a _],λb=>by cases b<;>first|exact trivial|exact KR a h f (k+1)]
theorem Fm(a:0<n):∀f (p:Array Nat) k q,yu n p->AG (In2 n) (λr=>yu n r.1) (kas_desc f p k q)
 |0,p,k,q,h=>h
 |f+1,p,k,q,h=>#v[#v[h.getD a _,h.getD a _],λb=>by
   cases b with
   |true=>
    split
    .exact Fm a f _ _ _ (h.rev _ _)
    .exact Fm a f _ _ _ h
   |false=>
    refine#v[#v[h.getD a _,h.getD a _],λd=>?_];cases d with
    |true=>exact h
    |false=>exact Fm a f _ _ _ h]
def MB(b:0<n)(h:yu n p)(k m:Nat):AG (In2 n) (λr=>yu n r.2) (kas_tail3 k m p):=
 AG.bind (S:=λ(r:Nat×Array Nat)=>yu n r.2) (f:=λm=>.ret (m,kas_rev p 0 k)) (λa y=>h.rev 0 k) (KR b (h.rev 0 k) _ _)
def Fn(a:0<n)(h:yu n p)(k m:Nat):AG (In2 n) (λr=>yu n r.2) (kas_descPart k m p):=
 AG.bind (λr b=>by
  split
  .exact MB a (b.rev _ _) _ _
  .exact MB a b _ _) (Fm a _ p _ _ h)
def Q1(a:0<n)(h:yu n p)(m:Nat):AG (In2 n) (λr=>yu n r.2) (kas_count m p):=
 AG.bind (λk y=>by
  split
  .exact h
  .split
   .refine#v[#v[h.getD a _,h.getD a _],λb=>?_];cases b with
    |true=>exact h
    |false=>exact Fn a (h.rev _ _) _ _
   .exact Fn a h _ _) (KR a h _ _)
theorem Gi(a:0<n)(h:yu n p)(k:Nat):∀f l r,AG (In2 n) (λy=>True) (kas_place p k f l r)
 |0,l,r=>trivial
 |f+1,l,r=>by
  unfold kas_place;split
  .trivial
  .refine#v[#v[h.getD a _,h.getD a _],λb=>?_];cases b with
   |true=>exact Gi a h k f _ _
   |false=>exact Gi a h k f _ _
theorem Pe(a:0<n):∀f (p:Array Nat) k,yu n p->AG (In2 n) (yu n) (kas_bin f p k)
 |0,p,k,h=>h
 |f+1,p,k,h=>AG.bind (λl y=>Pe a f _ _ (h.bub _ _)) (Gi a h k _ _ _)
def ID(a:0<n):AG (In2 n) (yu n) (kA n):=
 AG.bind (λr b=>by
  split
  .exact Pe a _ _ _ b
  .exact b) (Q1 a (by unfold yu;exact List.Perm.refl _) n)
def D1(a:Addr)(h c:Heap):Prop:=∀b o,b≠a->h.get? b=Z o->c.get? b=Z o
section
variable{prog:aL}{w:aC}{A:aQ}{E:ab->ae->Prop}{s:ae}
def Gj(c:Nat->Nat->Bool)(a:List ab):List ab:=(QZ c (kA a.length)).toList.map λi=>a.getD i Value.none
def Tv(c:Nat->Nat->Bool)(a:List ab)(h:0<a.length):(Gj c a).length=a.length:=by unfold Gj;rw[af];have:=(ID h).run c _;rw[this.length_eq,bK]
def Tw(c:Nat->Nat->Bool)(v:ab):Gj c [v]=[v]:=rfl
def Tx{vs:List ab}(F:s.heap.get? a=Z (seqObj "list" vs.toArray n))(h1:0<vs.length)(u:vs.length<64)
  (R:∀(h':Heap) (C:SortKind->ae->Prop),D1 a s.heap h'->C J { s with heap:=h' }->ao (model prog w) A (keyKind' vs.toArray) C (λ_ _=>False) { s with heap:=h' })
  (N:∀(h':Heap) (i j:Nat) (C:Bool->ae->Prop),D1 a s.heap h'->i<vs.length/\j<vs.length->C (c i j) { s with heap:=h' }->kB prog w A J vs i j C { s with heap:=h' })
  (h:∀h' e,D1 a s.heap h'->h'.get? a=Z (seqObj "list" (Gj c vs).toArray e)->P (.done (.ret .none)) { s with heap:=h' }):
  ao (model prog w) A (fD.«list.sort» #v[[.ref a],[]]) P E s:=by
 obtain⟨t,I⟩:∃t,(s.heap.update a (eC λ_=>(#[]:Array ab))).get? a=Z (seqObj "list" #[] t):=#v[_,qM F λ_=>#[]];generalize hw:((s.heap.update a (eC λ_=>(#[]:Array ab))).push (seqObj "tuple" vs.toArray 0)).push (seqObj "list" #[] 0)=h3;have H:D1 a s.heap h3:=λb o hb q=>by rw[<-hw];exact aR _ (aR _ ((iW s.heap _ (dS hb)).t q))
 have m:h3.get? a=Z (seqObj "list" #[] t):=by rw[<-hw];exact aR _ (aR _ I)
 rw[list_sort_plain];refine ah (listItems_at F O (ah (nz F O ?_ (by rw[bf,bV];omega) (bT _))));refine ah (nP I O (ah (q9 ?_ (by show vs.length<=_;rw[bV];omega))));refine ah (nD (cF ?_) (bT _));rw[hw];obtain⟨c2,B⟩:∃c2,(h3.update a (eC λ_=>(Gj c vs).toArray)).get? a=Z (seqObj "list" (Gj c vs).toArray c2):=#v[_,qM m λ_=>(Gj c vs).toArray];have fin:=h _ c2 (λb o hb q=>(iW h3 _ (dS hb)).t (H b o hb q)) B;have szo:(Gj c vs).toArray.size<=aI+1:=by rw[bf,Tv c vs h1,bV];omega
 by_cases h2:2<=vs.length
 .have l:¬vs.toArray.size<2:=by rw[bf];omega
  rw[ak l,ak l];refine ah (cy (R h3 (λk f=>k=J/\f={ s with heap:=h3 }) H #v[O,O]) ?_ λ_ _ x=>x.elim);rintro k f ⟨rfl,rfl⟩;refine ah (cy (kat_run (Q:=λd f=>f={ s with heap:=h3 }/\(arrOf d).map (·.2)=(Gj c vs).toArray/\failedOf d=U) (G:=λp f=>p=QZ c (kA vs.length)/\f={ s with heap:=h3 }) O h2 u ?_ ?_) ?_ λ_ _ e=>e)
  .rintro p d f _ har hf ⟨rfl,rfl⟩;exact#v[O,kat_snds O har,hf]
  .exact Pd (λi j C q r=>N h3 i j C H q r) (ID h1) #v[O,O]
  .rintro⟨⟨⟩,d⟩ f ⟨rfl,z,hf⟩;refine ah (nP m O ?_);rw[z,hf];refine ah (nz m O ?_ (bT _) szo);simp only[bne_self_eq_false,gp,if_false];exact aq fin
 .obtain⟨v,rfl⟩:∃v,vs=[v]:=by
   cases vs with
   |nil=>cases h1
   |cons v r=>
    cases r with
    |nil=>exact#v[v,O]
    |cons x y=>exact ar (by simp) h2
  refine ah (aq ?_);refine ah (aq ?_);refine ah (nP m O ?_);have M:sC (λx=>x.snd) (arrOf ((),SortSt.mk' general' (#[v].zip #[v]) #[] 7 U).snd)=(Gj c [v]).toArray:=by rw[Tw];show sC (λx=>x.snd) (#[v].zip #[v])=#[v];simp
  rw[M];refine ah (nz m O ?_ (bT _) szo);simp only[bne_self_eq_false,gp,if_false];exact aq fin
def N7{vs:List ab}(hT:T="list" \/ T="tuple")(t:s.heap.get? l=Z o)(hcl:o.cls=.type T)(hd:o.data=.seq vs.toArray n)(h1:0<vs.length)(f:vs.length<64)
  (p:∀(h':Heap) (C:SortKind->ae->Prop),(∀b o,s.heap.get? b=Z o->h'.get? b=Z o)->C κ { s with heap:=h' }->ao (model prog w) A.in1.in1 (keyKind' vs.toArray) C (λy y=>False) { s with heap:=h' })
  (m:∀(h':Heap) (i j:Nat) (C:Bool->ae->Prop),(∀b o,s.heap.get? b=Z o->h'.get? b=Z o)->i<vs.length/\j<vs.length->C (c i j) { s with heap:=h' }->kB prog w A.in1.in1 κ vs i j C { s with heap:=h' })
  (h:∀(g h':Heap) e,(∀b o,s.heap.get? b=Z o->g.get? b=Z o)->(∀b o,g.get? b=Z o->h'.get? b=Z o)->h'.get? g.objs.size=Z (seqObj "list" (Gj c vs).toArray e)->Q (.ref g.objs.size) { s with heap:=h' }):
  ao (model prog w) A (call (.builtin "sorted") [.ref l]) Q E s:=by
 refine oO kind_sorted plain_sorted entry_sorted (args_sorted1 _) ?_;refine ah (aq (ah (wpAny_collect_seq l hT t hcl hd (λg d=>?_) (by rw[bV];simp;omega))));refine ah (nD ?_ (by rw[bV];simp;omega));have on:(g.push (seqObj "list" vs.toArray 0)).get? g.objs.size=Z (seqObj "list" vs.toArray 0):=bw _ O;have all:∀h',D1 g.objs.size (g.push (seqObj "list" vs.toArray 0)) h'->∀b o,g.get? b=Z o->h'.get? b=Z o:=λh' a b o q=>a b o (bg (a9 q)) (aR _ q)
 refine ah (cF (eQ ra #v[_,on,O] qN ?_ (rb _)));refine Tx on h1 f (λh' C a q=>p h' C (λb o z=>all h' a b o (d b o z)) q) (λh' i j C a q r=>m h' i j C (λb o z=>all h' a b o (d b o z)) q r) λh' e a q=>?_;exact#v[_,O,aq #v[_,O,h g h' e d (all h' a) q]]
end
def ltS(a b:Str):Bool:=decide (a.cps.toList<b.cps.toList)
def Jx:aE->aE->Bool
 |[],[]=>δ
 |[],_::_=>γ
 |_::_,[]=>δ
 |x::a,y::b=>if x=y then Jx a b else ltS x y
inductive A8:List ab->aE->Prop
 |nil:A8 [] []
 |cons (x:Str) (t:Tok) {vs:List ab} {xs:aE} (h:A8 vs xs):A8 (.str x t::vs) (x::xs)
def N8(c:Nat->Nat->Bool)(n:Nat):List Nat:=(QZ c (kA n)).toList
def Gk(c:Nat->Nat->Bool)(h:0<n):(N8 c n).Perm (aB n):=(ID h).run c _
def KU(c:Nat->Nat->Bool)(h:0<n):∀i∈N8 c n,i<n:=λi a=>bx.1 ((Gk c h).mem_iff.1 a)
theorem JY(r:cm a c):∀(is:List Nat),(∀i∈is,i<a.length)->cm (is.map λi=>a.getD i V.O) (is.map λi=>c.getD i Value.none)
 |[],_=>.nil
 |i::is,h=>by have b:=h i (.head _);obtain⟨u,e,f⟩:=r.get (aP b);refine .cons ?_ (JY r is λj d=>h j (.tail _ d));show dd (a.getD i V.O) (c.getD i Value.none);rw[bN,bN,e,aP b];exact f
section
variable{X:Cx}{G:Bg}{pins:cN}{σ:St}{H:Hp}{s:ae}
def seq_val(I:bt X pins σ H s)(c:fb X.K H a h\/e8 X.K H a h):∃b,cm h b/\∃T o n,(T="list" \/ T="tuple")/\s.heap.get? a=Z o/\o.cls=.type T/\o.data=.seq b.toArray n:=by
 rcases c with c|c
 .obtain⟨b,f,pl,_⟩:=I.list c;obtain⟨o,a1,d,n,e⟩:=pl.isList;exact#v[b,f,_,o,n,.inl O,a1,d,e]
 .obtain⟨b,f,⟨o,a1,d,n,e⟩,_⟩:=I.tuple c;exact#v[b,f,_,o,n,.inr O,a1,d,e]
def BU:bp->Option aE
 |[]=>Z []
 |.str x::a=>match BU a with
  |some b=>Z (x::b)
  |none=>U
 |_=>U
theorem Cp:∀{a:bp} {b:bF} {l:aE},a6 G H a b->BU a=Z l->b=l.map V.str
 |[],b,l,r,e=>by cases e;unfold a6 at r;exact r
 |d::a,b,l,r,e=>by
  cases d with
  |str x=>
   unfold BU at e;cases c:BU a with
   |none=>rw[c]at e;cases e
   |some i=>rw[c]at e;cases e;unfold a6 at r;obtain⟨v,j,rfl,f,h⟩:=r;unfold cb at f;subst f;rw[Cp h c,aU]
  |_=>cases e
theorem JZ(r:a6 G H a c):∀(is:List Nat),(∀i∈is,i<a.length)->a6 G H (is.map λi=>a.getD i .O) (is.map λi=>c.getD i V.O)
 |[],_=>wj
 |i::is,h=>by have b:=h i (.head _);obtain⟨v,e,f⟩:=AE r (aP b);refine wB ?_ (JZ r is λj d=>h j (.tail _ d));show cb G H (a.getD i .O) (c.getD i V.O);rw[bN,bN,e,aP b];exact f
end
end L4
namespace L4
open PySem PySem.Spec PyProof.Rows L2 L3
section
variable{X:Cx}{G:Bg}
set_option h true
def W6:i1 G (λx y H Q=>∃z n,x=.str z/\y=.int n/\MulOk z n/\Q (.str (fC z n)) H) Iy:=λx y z o H v u Q e s d f k=>by
 unfold Iy at e;split at e
 .rename_i a n;split at e
  .rename_i m;obtain⟨p,r,h⟩:=m;cases e;unfold cb at d f;refine#v[a,n,d,f,#v[?_,λi j l=>?_,λi j=>?_],k _ λw w=>Ac _]
   .rw[lD];exact#v[aZ (by omega),aZ (by omega)]
   .have c:(0:Int)<n:=by omega
    have q:(9223372036854775807:Int) / n >= 9223372036854775:=by have:=Int.le_ediv_of_mul_le (a:=9223372036854775) (b:=9223372036854775807) c (by omega);exact this
    have:((2:Int) ^ 63 - 1)=9223372036854775807:=by decide
    rw[this]at l;omega
   .have c:n.toNat<=1000:=by omega
    have:a.length * n.toNat<=100 * 1000:=Nat.mul_le_mul h c;refine aZ ?_;rw[bV];omega
  .cases e
 .cases e
end
set_option h false
def Pf:List String:=["NoneType", "bool", "int", "str", "tuple", "list", "dict"]
def ze(n c:Nat):Ty->Option Bool:=λy=>match y with
 |.b x=>if Pf.contains x=γ then Z δ else U
 |.c k=>if k<n then Z (k==c)else U
def KW(K:av)(cs:List Addr)(C:Addr)(c:Nat):Bool:=
 Pf.all (λx=>cJ K (.type x) (.ref C)==Z δ)&&(aB cs.length).all λk=>cJ K (.ref (cs.getD k 0)) (.ref C)==Z (k==c)
set_option h true
def xc{B:Bg}(h:KW B.K cs (B.ca c) c=γ)(i:cs.length=n)(d:∀k,k<n->cs.getD k 0=B.ca k)(hI:∀k,k<n->Jw B.K (B.ca k)):NW B c (ze n c):=by
 unfold KW at h;rw[aT,aK,aK]at h;refine#v[λy b e=>?_,λj b e=>?_]
 .cases y with
  |b x=>
   unfold ze at e;simp only at e;split at e
   .rename_i f;cases e;exact fW (h.1 x (lu.1 f))
   .cases e
  |c k=>
   unfold ze at e;simp only at e;split at e
   .rename_i a;cases e;have:=fW (h.2 k (bx.2 (by omega)));rw[d k a]at this;exact this
   .cases e
 .unfold ze at e;simp only at e;split at e
  .rename_i a;exact hI j a
  .cases e
set_option h false
def aaK{l:List Addr}(h:l.Nodup)(a:j<l.length)(b:k<l.length)(e:l.getD j 0=l.getD k 0):j=k:=by
 rw[bN,bN,aP a,aP b]at e;have c:=List.pairwise_iff_getElem.1 h;rcases Nat.lt_trichotomy j k with y|y|y
 .exact ar e (c j k a b y)
 .exact y
 .exact ar e.symm (c k j b a y)
section
variable{B:Bg}{K:av}{mg:Str->Option ab}{h:Heap}
def Se(X:K.In h)(a:h.Ns bL mg)(e:jt K bL x=Z (Z (.int i t))):Ba B mg x (.int i):=
 #v[.int i,_,js X a e,#v[_,O],λy=>xN _]
inductive Cq:List ab->aE->Prop
 |nil:Cq [] []
 |cons {v:ab} {x:Str} {t:Tok} {vs:List ab} {xs:aE} (e:v=.str x t) (h:Cq vs xs):Cq (v::vs) (x::xs)
def Cq.vals(h:Cq b c):cm (c.map V.str) b:=by
 induction h with
 |nil=>exact .nil
 |cons e h a=>exact .cons #v[_,e] a
theorem IE:∀a:aE,a6 B H (a.map D.str) (a.map V.str)
 |[]=>wj
 |x::a=>wB (Ac x) (IE a)
def N9(c:aE)(X:B.K.In h)(d:h.Ns bL mg)(e:jt B.K bL x=Z (Z (.ref a)))(l:B.K.lookup a=Z o)(f:o.cls=.type "tuple")(hd:o.data=.seq b n)(i:b.size<=1000)
  (r:Cq b.toList c):Ba B mg x (.a7 (c.map D.str)):=
 #v[.ref a,_,js X d e,O,λH=>A9 (.inr #v[o,b,n,l,f,hd,by rw[bV];omega,r.vals]) (IE c)]
end
section
variable{f g' h:FS}{c:FT}{e e' e2:FE}{a a':FA}{ρ ρ' ρ1 ρ2 ρ3:bh}{d x y z:D}{ds xs ys:bp}{k:Nat}{d3:List Nat}{g:FG}{ft:FT}{fe:FE}
theorem IF{i:Type}(j:i->D)(p:i->Bool)(h:i->D):∀l:List i,
  (∀a∈l,∃ρ1 ρ2,g (j a) (Hu k d3 ρ)=Z ρ1/\ft ρ1=Z (p a,ρ2)/\(p a=γ->∃ρ3,fe ρ2=Z (h a,ρ3)/\zx d3 (ρ3.drop k) ρ=Z ρ)/\(p a=δ->zx d3 (ρ2.drop k) ρ=Z ρ))->
  Eg k d3 g ft fe (l.map j) ρ=Z ((l.filter p).map h,ρ)
 |[],_=>rfl
 |a::l,st=>by
  obtain⟨ρ1,ρ2,o,q,r,t⟩:=st a ba;have m:=IF j p h l λa' A=>st a' (bb _ A);rw[aU];unfold Eg;rw[o];simp only[q];cases b:p a with
  |true=>obtain⟨ρ3,u,w⟩:=r b;simp only[u,w,m,gx,b,if_true,aU]
  |false=>simp only[t b,m,gx,b];rfl
def W7{i:Type}(b:i->D)(h:i->D)(l:List i)(st:∀a∈l,∃ρ1 ρ3,g (b a) (Hu k d3 ρ)=Z ρ1/\fe ρ1=Z (h a,ρ3)/\zx d3 (ρ3.drop k) ρ=Z ρ):Eg k d3 g wG fe (l.map b) ρ=Z (l.map h,ρ):=by have:=IF (ft:=wG) b (λy=>γ) h l λa p=>let #v[ρ1,ρ3,j,m,o]:=st a p;#v[ρ1,ρ1,j,O,λy=>#v[ρ3,m,o],λz=>by cases z];rw[this,pL.2 λy y=>O]
def Tz(a:Str)(l:aE):inV (V.str a) (l.map V.str)=decide (a∈l):=by
 unfold inV;rw[d5,fP,bE];constructor
 .rintro⟨v,o,i⟩;obtain⟨b,m,rfl⟩:=aw.1 o;have:=by unfold eqV at i;simpa using i
  rw[<-this];exact m
 .intro j;refine#v[.str a,bY j,?_];unfold eqV;simp
def Q2(l:aE):(l.map D.str).all yq=γ:=by rw[rQ,aK];intro x _;rfl
def W8(l:aE):(l.map D.str).map vD=l.map V.str:=by rw[aX];rfl
def zf(neg:Bool)(a:Str)(l:aE):j2 neg (.str a) (.a3 (l.map D.str))=Z (.X (if neg then !decide (a∈l)else decide (a∈l))):=by show (if yq (.str a)&&(l.map D.str).all yq then Z (D.X (if neg then !inV (vD (.str a)) ((l.map D.str).map vD)else inV (vD (.str a)) ((l.map D.str).map vD)))else U)=_;rw[Q2,W8];show Z (D.X (if neg then !inV (V.str a) (l.map V.str)else inV (V.str a) (l.map V.str)))=_;rw[Tz]
def AH(neg:Bool)(a:Str)(l:aE):j2 neg (.str a) (.a7 (l.map D.str))=Z (.X (if neg then !decide (a∈l)else decide (a∈l))):=zf neg a l
theorem KY:∀bs:List Bool,Jv (bs.map D.X)=Z bs
 |[]=>rfl
 |b::bs=>by rw[aU];unfold Jv;rw[KY bs];rfl
set_option r "B zR ll;C Hv ny" in def Tϑ0(bs:List Bool):ϑ1 (.a3 (bs.map D.X))=Z (.X (bs.aϑ2 id)):=by unfold ϑ1;simp only[KY];rfl
def KZ{b:Type}(l:List b)(p:b->Bool):zR (.a3 (l.map λa=>D.X (p a)))=Z (.X (l.all p)):=by rw[show (l.map λa=>D.X (p a))=(l.map p).map D.X by rw[aX];rfl,TB,rQ];rfl
def Pg{b:Type}(l:List b)(p:b->Bool):Hv (.a3 (l.map λa=>D.X (p a)))=Z (.X (l.any p)):=by rw[show (l.map λa=>D.X (p a))=(l.map p).map D.X by rw[aX];rfl,TC,List.any_map];rfl
theorem IG:∀l:aE,G1 (l.map D.str)=Z (l.map Sum.inr)
 |[]=>rfl
 |x::l=>by rw[aU];unfold G1;rw[IG l];rfl
theorem TF:∀(l acc:List d?),(acc++l).Nodup->l.foldl T? acc=acc++l
 |[],acc,_=>by rw[bZ];rfl
 |k::l,acc,h=>by
  have i:acc.any (λz=>decide (z=k))=δ:=by rw[i9];intro z;obtain⟨y,j,b⟩:=fP.1 z;rw[cn]at h;exact h.2.2 y j k ba (bj b)
  rw[jf,show T? acc k=acc++[k] by unfold T?;rw[i];rfl,TF l (acc++[k]) (by simpa using h)];simp
def As{l:aE}(h:l.Nodup):(l.map (Sum.inr:Str->d?)).Nodup:=by unfold List.Nodup at h ⊢;rw[mH];exact h.imp λhne z=>hne (ka z)
def G7{l:aE}(h:l.Nodup)(b:l.length<=1000):yk (l.map D.str)=Z (.int l.length):=by unfold yk;rw[IG];simp only[af,b,if_true];unfold A1;rw[TF _ [] (by simpa using As h)];simp
set_option r "a Str str;4 Int int" in def xϑ0(neg:Bool)(a b:ϑ1):b? neg (.ϑ2 a) (.ϑ2 b)=Z (.X (if neg then !decide (a=b)else decide (a=b))):=by
 have e:Gh neg (.ϑ2 a) (.ϑ2 b)=Z (.X (if neg then !decide (V.ϑ2 a=V.ϑ2 b)else decide (V.ϑ2 a=V.ϑ2 b))):=rfl;have e2:decide (V.ϑ2 a=V.ϑ2 b)=decide (a=b):=by
  by_cases h:a=b
  .subst h;simp
  .rw[aZ h,aZ (λz=>h (by injection z))]
 unfold b?;rw[e,e2]
def vN(b:e ρ=Z (.X γ,ρ1)):wM e e' ρ=e' ρ1:=by unfold wM;rw[b]
def v5{g:Nat->Option (bp->Option D)}{m:Str}{c:Nat}{b:aE}{i:bp->Option D}(j:e ρ=Z (.obj c b xs,ρ1))(l:g c=Z i)(o:b.contains m=δ)(p:a ρ1=Z (ys,ρ2))(q:i (.obj c b xs::ys)=Z d):vR g m e a ρ=Z (d,ρ2):=by unfold vR;rw[j];simp only[l,o,p,q];rfl
def Fo{c:Nat}{g:bp->Option (aE×bp)}{b:aE}(i:a ρ=Z (ds,ρ1))(j:g ds=Z (b,xs)):wg c g a ρ=Z (.obj c b xs,ρ1):=by unfold wg;rw[i];simp only[j]
def Bs(i:ds.length=j)(h:b (L4.y0 n ds)=Z (.nx ρ)):dr j n b ds=Z .O:=by unfold dr;rw[aj i,h]
def Bt(i:ds.length=j)(h:b (L4.y0 n ds)=Z (.rn xs ρ)):dr j n b ds=Z (.a3 xs):=by unfold dr;rw[aj i,h]
theorem AI:∀{b:List d?} {ds:bp} {k:d?} {d:D},b.Nodup->(k,d)∈b.zip ds->xj b ds k=Z d
 |[],_,k,d,_,h=>by simp at h
 |j::b,[],k,d,_,h=>by simp at h
 |j::b,l::ds,k,d,i,h=>by
  unfold xj;rw[fM]at h;rcases aJ.1 h with e|h
  .cases e;rw[aj O]
  .rw[dO]at i;rw[ak (λz=>i.1 (by subst z;exact(j3 h).1))];exact AI i.2 h
theorem Gm:∀{b:List d?} {ds:bp} {k:d?},k∉b->xj b ds k=U
 |[],ds,k,_=>by unfold xj;rfl
 |i::b,[],k,_=>by unfold xj;rfl
 |i::b,j::ds,k,h=>by unfold xj;rw[ak (λz=>h (by subst z;exact ba))];exact Gm λz=>h (bb _ z)
end
end L4
namespace L4
open PySem PySem.Spec PyProof.Rows L2 L3
open PySem.W (nsIn findIn keepIn isFn makesIn fnOf)
def Oa{b:Type}:Nat->(List b->Prop)->Prop
 |0,P=>P []
 |n+1,P=>∀a,Oa n λl=>P (a::l)
theorem HG{b:Type}:∀{n:Nat} {P:List b->Prop},Oa n P->∀l,l.length=n->P l
 |0,P,h,[],_=>h
 |n+1,P,h,a::l,e=>HG (h a) l (nM e)
structure CF(K:av)(C:Addr)(xs:aE):Prop where
 ci:Jw K C
 mks:makesIn K C=γ
 kp:keepIn K (.ref C)=γ
 na:(xs.all λx=>match findIn K (.ref C) x with|some U=>γ|_=>δ)=γ
set_option h true
theorem CF.at{K:av}(c:CF K C xs)(i:Nat)(h:xs[i]?=Z x):I' K C/\Br K C x:=#v[c.ci.cl,by
 have e:=aK.1 c.na x (cf h);split at e
 .rename_i a;exact a
 .cases e]
set_option h false
def yE{Q:Nat->Prop}{i:Nat}(h:Q i):∀c,(c==i)=γ->Q c:=λc e=>by rw[beq_iff_eq]at e;subst e;exact h
def Vs{Q:Nat->Prop}{p:Nat->Bool}{i:Nat}(h:∀c,p c=γ->Q c)(a:Q i):∀c,(p c||c==i)=γ->Q c:=λc e=>by
 rw[gE]at e;rcases e with e|e
 .exact h c e
 .exact yE a c e
structure Yw(P:aL)(w:aC)(mg:Str->Option ab)(a5:Heap)(G:Bg):Prop where
 m:∃h:Heap,G.K.In h/\h.Ns bL mg
section
variable{P:aL}{w:aC}{mg:Str->Option ab}{a5:Heap}{G:Bg}{x m qual:Str}{st:Stmt}{N ps:aE}{k c:Nat}{K:av}
def Yw.g(y:Yw P w mg a5 G)(e:nsIn G.K bL x=Z (Z v)):mg x=Z v:=by obtain⟨h,X,a⟩:=y.m;exact js X a e
set_option h true
def Yw.n(y:Yw P w mg a5 G){xs:aE}(h:(xs.all λx=>match nsIn G.K bL x with|some U=>γ|_=>δ)=γ)(i:Nat)(hi:xs[i]?=Z x):mg x=U:=by
 obtain⟨d,X,a⟩:=y.m;have e:=aK.1 h x (cf hi);split at e
 .rename_i b;exact W.mg_none_of X a b
 .cases e
set_option h false
def GC(K:av)(x:Str)(i:Int):Prop:=∃t:Tok,nsIn K bL x=Z (Z (.int i t))
def Yw.ci(y:Yw P w mg a5 G)(q:GC G.K x i):Ba G mg x (.int i):=by obtain⟨h,X,a⟩:=y.m;obtain⟨t,e⟩:=q;exact Se X a e
def GS(K:av)(x:Str)(d:aE):Prop:=∃(a:Addr) (o:Obj) (b:Array ab) (n:Nat),nsIn K bL x=Z (Z (.ref a))/\K.lookup a=Z o/\o.cls=.type "tuple" /\ o.data=.seq b n/\b.size<=1000/\Cq b.toList d
def Yw.cs(y:Yw P w mg a5 G)(q:GS G.K x b):Ba G mg x (.a7 (b.map D.str)):=by obtain⟨h,X,d⟩:=y.m;obtain⟨a,o,r,n,e,l,f,i,j,p⟩:=q;exact N9 b X d e l f i j p
def GD(K:av)(x:Str)(st:Stmt):Prop:=∃(f:Addr) (a:cp),nsIn K bL x=Z (Z (.ref f))/\V' K x x st f a
def GM(K:av)(C:Addr)(m qual:Str)(st:Stmt):Prop:=∃(f:Addr) (a:cp),findIn K (.ref C) m=Z (Z (.ref f))/\isFn K (.ref f)=γ/\V' K m qual st f a
def GJ(K:av)(C:Addr)(qual:Str)(st:Stmt)(b:bF):Prop:=∃(f:Addr) (a:cp) (T:Addr) (o:Obj) (dl:List ab) (n:Nat),findIn K (.ref C) "__init__" = Z (Z (.ref f))/\isFn K (.ref f)=γ/\QB K "__init__" qual st f a T/\K.lookup T=Z o/\o.data=.seq dl.toArray n/\cm b dl
abbrev Bdy(P:aL)(w:aC)(K:av)(mg:Str->Option ab)(a5:Heap)(N:aE)(qual:Str)(st:Stmt)(k:Nat)(t:TS):Prop:=∀(f:Addr) (cdv:ab) (A:aQ) (b3:List Env) (s:ae) (H:Hp) (E:XK),xX k (A.deeper (envOfC qual (vY st) s.heap.objs.size f cdv))->mw (Ir P w K mg a5 N qual st f cdv A b3 s H E) (wJ st) t
abbrev Bds(x qual:Str)(st:Stmt)(ps:aE):Prop:=Oa ps.length λa=>∀(kV doc pm:ab) (b:Option Addr) (cdv d:ab),bindArgs (fnOf x qual (zb st) (wJ st) (vY st) .none kV doc pm b cdv d) #v[a,[]]=pure (ps.zip a)
theorem Bds.ok(b:Bds x qual st ps)(F:V' K x qual st f e):j1 K e ps []:=F.n? λkV doc pm a cdv d i h=>HG b i h kV doc pm a cdv d
theorem gD(y:Yw P w mg a5 G)(q:GD G.K x st)(d:Bds x x st ps)(ok:∀f b,V' G.K x x st f b->zA P w G.K mg a5 zE k f b ps e):GZ P w G.K mg a5 k x ps e:=by obtain⟨f,b,a,F⟩:=q;exact#v[f,b,y.g a,F.kp,d.ok F,ok f b F]
set_option r "F dr eb SX;N' qi pw ad5" in def gϑ0(d:g=ϑ1 h n b)(y:Yw P w mg a5 G)(q:GD G.K x st)(S:yA N ps (vY st))(body:Bdy P w G.K mg a5 N x st k (ki G b))(e:ps.length=h:=by rfl)(hN:N.length=n:=by rfl)(a:Bds x x st ps:=by (repeat intro _);rfl):GZ P w G.K mg a5 (k+1) x ps (ϑ2 G g):=
 gD y q a λf i F=>ϑ3 d e hN F S (body f)
def gI(h:g=rr c o n b)(y:Yw P w mg a5 G)(C:CF G.K (G.ca c) r)(a:nsIn G.K bL x=Z (Z (.ref (G.ca c))))(q:GM G.K (G.ca c) "__init__" qual st)(S:yA N (p::ps) (vY st))(body:Bdy P w G.K mg a5 N qual st k (ki G b))(j:autoParam (ps.length=o) zA0._auto_1)(hN:autoParam (N.length=n) zA0._auto_1)(d:autoParam (Bds "__init__" qual st (p::ps)) zA5._auto_1):KN G P w mg a5 (k+1) x c (p::ps) [] g:=by obtain⟨f,e,i,l,F⟩:=q;exact#v[f,e,[],#v[C.mks,i,l,C.kp],y.g a,d.ok F,.nil,ad6 h j hN F S (body f)]
def MC(h:cm d b):b.length=d.length:=by
 induction h with
 |nil=>rfl
 |cons _ _ a=>rw[aS,aS,a]
def Q3(h:cm f e):∀j,cm (f.drop j) (e.drop j):=by
 induction h with
 |nil=>intro j;rw[rF,rF];exact .nil
 |cons a b d=>
  intro j;cases j with
  |zero=>exact .cons a b
  |succ j=>exact d j
theorem gJ(B:g=rr c J n b)(y:Yw P w mg a5 G)(C:CF G.K (G.ca c) M)(a:nsIn G.K bL x=Z (Z (.ref (G.ca c))))(q:GJ G.K (G.ca c) qual st u)(S:yA N (p::ps) (vY st))(body:Bdy P w G.K mg a5 N qual st k (ki G b))(j:Nat)(H:autoParam (ps.length=J) zA0._auto_1)(hN:autoParam (N.length=n) zA0._auto_1)
  (z:autoParam (Oa u.length λdl=>Oa ((p::ps).length - (u.drop j).length) λd=>∀(T:Addr) (kV doc pm:ab) (h:Option Addr) (cdv t:ab),∃k,bindArgs (fnOf "__init__" qual (zb st) (wJ st) (vY st) (.ref T) kV doc pm h cdv t) #v[d,[]]=seqItems? (.ref T)>>=k/\k (Z dl.toArray)=pure ((p::ps).zip (d++dl.drop j))) zA7._auto_1):KN G P w mg a5 (k+1) x c (p::ps) (u.drop j) g:=by
 obtain⟨f,A,T,o,dl,n,i,I,F,l,e,r⟩:=q;refine#v[f,A,dl.drop j,#v[C.mks,i,I,C.kp],y.g a,F.n? l e λkV doc pm h cdv t d E=>?_,Q3 r j,aax B H hN F S (body f)];exact HG (HG z dl (MC r)) d (by rw[E,cW,cW,MC r]) T kV doc pm h cdv t
end
end L4
namespace L4
open PySem PySem.Spec PyProof.Rows L2 L3
def sm(a b:Str):Bool:=decide (a.cps.toList<=b.cps.toList)
def wZ(a:aE):aE:=a.mergeSort sm
def Gp(a b c:Str)(h:sm a b=γ)(d:sm b c=γ):sm a c=γ:=aY (List.le_trans (bj h) (bj d))
def Fp(a b:Str):(sm a b||sm b a)=γ:=by
 rw[gE];rcases List.le_total a.cps.toList b.cps.toList with h|h
 .exact .inl (aY h)
 .exact .inr (aY h)
def IH(a b:Str)(h:sm a b=γ)(c:sm b a=γ):a=b:=by have e:=List.le_antisymm (bj h) (bj c);cases a with|mk a=>cases b with|mk b=>cases a;cases b;simp only at e;rw[e]
theorem Gq:∀(r:aE) (x:Str),risingS x r=γ->(∀y∈r,sm x y=γ)/\r.Pairwise λa b=>sm a b=γ
 |[],x,_=>#v[λy h=>(bU h).elim,.nil]
 |z::r,x,h=>by
  unfold risingS at h;rw[aT,c7,ltCps_eq]at h;obtain⟨j,l⟩:=h;obtain⟨d,i⟩:=Gq r z l;have f:sm x z=γ:=aY (of_decide_eq_false j);refine#v[λy c=>?_,.cons d i];rcases aJ.1 c with e|c
  .rw[e];exact f
  .exact Gp _ _ _ f (d y c)
def Ob:∀l:aE,sortedS l=γ->l.Pairwise λa b=>sm a b=γ
 |[],_=>.nil
 |x::r,h=>.cons (Gq r x h).1 (Gq r x h).2
def II{l:aE}(p:l.Perm c)(h:sortedS l=γ):l=wZ c:=
 lh (λa b y y=>IH a b) (Ob l h) (iU Gp Fp c) (p.t (dq c sm).symm)
theorem IJ:∀{b:aE} {a:List ab},cm (b.map V.str) a->i4 a b
 |[],a,h=>by cases h;exact .nil
 |x::b,a,h=>by
  cases h with
  |cons r c=>obtain⟨t,rfl⟩:=r;exact .cons x t (IJ c)
theorem TH:∀{a:List ab} {b:aE},i4 a b->cm (b.map V.str) a
 |_,_,.nil=>.nil
 |_,_,.cons x t h=>.cons #v[t,O] (TH h)
section
variable{X:Cx}{G:Bg}{pins:cN}{σ:St}{H:Hp}{s:ae}
def K0:xD X (.builtin "sorted") (λj H Q=>∃(a:Addr) (c:aE),j=[.ref a]/\fb X.K H a (c.map V.str)/\c.length<64/\∀p,H p=U->Q (.ref p) (eg H p (.a3 ((wZ c).map V.str)))):=by
 intro pins s σ H j A Q I r h;obtain⟨a,c,rfl,w,m,q⟩:=h;obtain⟨u,rfl,x⟩:=kb r;cases x;obtain⟨b,i,pl,_⟩:=I.list w;have t:(c.map V.str).length=b.length:=i.length;rw[af]at t;refine sorted_strs pl.isList (IJ i) (by omega) λout y a1 d l=>?_;obtain⟨e,o⟩:=sortedAll_at s.heap b out;have f:=II d l;refine#v[.ref (s.heap.objs.size+1),_,I.laid (t':=s.toks) (λn n=>sortedAll_old) (dw _) ?_,O,q _ (I.ew.fresh (dw _))];refine#v[?_,out.toList,e,?_,o]
 .rw[af,<- f,d.length_eq,bV];omega
 .rw[<-f];exact TH a1
def Cr(f:FE):FA:=λd=>match f d with
 |some (.a3 c,a)=>match BU c with
  |some b=>if b.length<64 then Z ((wZ b).map D.str,a)else U
  |none=>U
 |_=>U
theorem Cs:∀a:aE,a6 G H (a.map D.str) (a.map V.str)
 |[]=>wj
 |x::a=>wB (Ac x) (Cs a)
set_option h true
def ME(h:PE X e (tCB (λq H Q=>∃(a:Addr) (c:aE),q=[.ref a]/\fb G.K H a (c.map V.str)/\c.length<64/\∀p,H p=U->Q (.ref p) (eg H p (.a3 ((wZ c).map V.str)))) (q? G (ax f vO)))):PE X e (tH G (Cr f)):=PE.b4 h λσ H Q y=>by
 obtain⟨F,A,r,I,B,R,e,k⟩:=y;unfold Cr at e;split at e
 .rename_i l C u;cases i:BU l with
  |none=>simp only[i]at e;cases e
  |some c=>
   simp only[i]at e;split at e
   .rename_i j;cases e;refine#v[F,A,r,[.a3 l],_,R,by unfold ax;rw[u];rfl,λM E t s b rs=>?_];unfold a6 at rs;obtain⟨v,J,rfl,o,m⟩:=rs;unfold a6 at m;subst m;unfold cb at o;obtain⟨a,q,rfl,w,x⟩:=o;have z:=Cp x i;subst z;refine#v[a,c,O,fb.of (b.sub _ _ w),j,λp d=>?_];exact k p _ _ _ s (b.ff d _) vE (b.ef d) (b.fm d) (b.apart d) (Cs _)
   .cases e
 .cases e
set_option h false
def Jy(hK:autoParam (X.K=G.K) zA0._auto_1):xD X (.builtin "sorted") (λc H Q=>∃(a:Addr) (b:aE),c=[.ref a]/\fb G.K H a (b.map V.str)/\b.length<64/\∀p,H p=U->Q (.ref p) (eg H p (.a3 ((wZ b).map V.str)))):=by rw[<-hK];exact K0
theorem ED(k:Str):∀{b:List ab} {a:aE},i4 b a->∀(j:Nat) (c:j<b.length) (d:j<a.length),isStrOf k b[j]=(a[j]==k)
 |_,_,.cons n t _,0,_,_=>rfl
 |_,_,.cons n t r,j+1,c,d=>ED k r j (iY c) (iY d)
theorem IK:∀{a:aE} {j:Nat},j<a.idxOf k->∀(b:j<a.length),(a[j]==k)=δ
 |n::r,0,h,_=>by
  by_cases e:n=k
  .subst e;simp at h
  .simpa using e
 |n::r,j+1,h,b=>by
  by_cases e:n=k
  .subst e;simp at h
  .have d:(n==k)=δ:=by simpa using e
   have c:j<r.idxOf k:=by rw[List.idxOf_cons,d]at h;exact iY h
   exact IK c (iY b)
def Fq:D->Option D
 |.int i=>Z (.int (-i))
 |_=>U
set_option h true
def TJ(m:PE X a (tF G f)):PE X (.UnaryOp .USub a pos) (tF G (c1 Fq f)):=PE.b4 (adg Zu m) λσ H Q o=>by
 obtain⟨F,p,c,d,q,R,e,k⟩:=o;unfold c1 at e;split at e
 .rename_i x t l;cases x with
  |int i=>simp only[Fq]at e;cases e;refine#v[F,p,c,_,_,R,l,λv h b s j r=>?_];unfold cb at r;subst r;exact#v[i,O,k _ h b s j (xN _)]
  |_=>simp only[Fq]at e;cases e
 .cases e
end
set_option h false
end L4
namespace L4
open PySem PySem.Spec PySem.Calls PyProof.Rows PySem.W L2 L3
structure Sto(c:Nat->Nat->Bool)(n:Nat):Prop where
 tr:∀i j k,i<n->j<n->k<n->c i j=γ->c j k=γ->c i k=γ
 tot:∀i j,i<n->j<n->i≠j->c i j=δ->c j i=γ
section
variable{X:Cx}{G:Bg}{pins:cN}{σ:St}{H:Hp}{s:ae}
def Jz(K:av)(H:Hp)(y:V)(k:aE):Prop:=∃a p q,y=.ref a/\k=[p,q]/\e8 K H a [.str p,.str q]
def TL(I:bt X pins σ H s)(h:Jz X.K H y k)(r:dd y u):∃a p q t v,u=.ref a/\k=[p,q]/\fF s.heap a #[.str p t,.str q v]:=by
 obtain⟨a,p,q,rfl,rfl,b⟩:=h;cases r;obtain⟨c,i,j,_⟩:=I.tuple b;cases i with
 |cons d e=>
  obtain⟨t,rfl⟩:=d;cases e with
  |cons q3 f=>obtain⟨v,rfl⟩:=q3;cases f;exact#v[a,p,q,t,v,O,O,j]
end
section
variable{prog:aL}{w:aC}{A:aQ}{s:ae}
def It2(h:Heap)(b:List ab)(c:List aE):Prop:=∀i,i<b.length->∃a p q t v,b.getD i Value.none=.ref a/\c.getD i []=[p,q]/\fF h a #[.str p t,.str q v]/\b[i]?=Z (.ref a)
def Q4(item:It2 s.heap b H)(G:0<b.length)(hC:C (tuples' γ) s):ao (model prog w) A (keyKind' b.toArray) C (λ_ _=>False) s:=by
 have u1:∀(l:List ab),(∀v∈l,∃i,i<b.length/\b[i]?=Z v)->∃fs,KatTups s.heap l fs/\fs.length=l.length/\∀f∈fs,∃(x:Str) (t:Tok),f=.str x t:=λl=>by
  induction l with
  |nil=>exact λ_=>#v[[],KatTups.nil,O,λf hf=>by cases hf]
  |cons v l z=>
   intro c;obtain⟨fs,h,m,j⟩:=z λw y=>c w (.tail _ y);obtain⟨i,d,u⟩:=c v (.head _);obtain⟨a,p,q,t,w,_,_,⟨o,B,E,n,F⟩,r⟩:=item i d;rw[u]at r;cases r;refine#v[.str p t::fs,KatTups.cons B E F (by simp) h,by rw[aS,aS,m],λf hf=>?_];rcases aJ.1 hf with rfl|hf
   .exact#v[p,t,O]
   .exact j f hf
 obtain⟨fs,h,m,j⟩:=u1 b λv c=>by obtain⟨i,d,e⟩:=lC.1 c;exact#v[i,d,by rw[aP d,e]]
 refine kat_kind (T:=.type "str") h (by omega) (λv c=>?_) (by decide) ?_
 .obtain⟨x,t,rfl⟩:=j v c;exact .now
 .rw[show (Value.type "str" != Value.type "tuple")=γ by decide];exact hC
def TM(item:It2 s.heap a e)(hij:i<a.length/\j<a.length)(hC:C (Jx (e.getD i []) (e.getD j [])) s):kB prog w A (tuples' γ) a i j C s:=by
 obtain⟨a1,b,c,f,l,q,x,⟨F,t,c1,B,o⟩,_⟩:=item i hij.1;obtain⟨z,p2,d,h,m,r,y,⟨G,u,c2,E,p⟩,_⟩:=item j hij.2;unfold kB;rw[q,r];rw[x,y]at hC;refine kat_lt t o u p ?_;show KatLex _ _ _ _ _ _ [(Value.str b f,Value.str p2 h),(Value.str c l,Value.str d m)] 0 _;refine kat_cons (l6 b f p2 h _ _ _ _ ?_);unfold Jx at hC;by_cases hpp:b=p2
 .subst hpp;rw[aj O]at hC;rw[beq_self_eq_true];refine kat_yes (kat_cons (l6 c l d m _ _ _ _ ?_));unfold Jx at hC;by_cases hqq:c=d
  .subst hqq;rw[aj O]at hC;rw[beq_self_eq_true];exact kat_yes (kat_nil hC)
  .rw[ak hqq]at hC;rw[beq_false_of_ne hqq];exact kat_no (kat_one _ _ (u4 hC))
 .rw[ak hpp]at hC;rw[beq_false_of_ne hpp];exact kat_no (oneLt_str hC)
end
section
variable{X:Cx}{G:Bg}{pins:cN}{σ:St}{H:Hp}{s:ae}
def K1(hu:X.A.units+64<cLine):xD X (.builtin "sorted") (λxs H Q=>∃(a:Addr) (d:bF) (ks:List aE),xs=[.ref a]/\fb X.K H a d/\0<d.length/\d.length<64/\ks.length=d.length/\(∀(i:Nat) (y:V) (k:aE),d[i]?=Z y->ks[i]?=Z k->Jz X.K H y k)/\
  ∀p,H p=U->Q (.ref p) (eg H p (.a3 ((N8 (λi j=>Jx (ks.getD i []) (ks.getD j [])) d.length).map λi=>d.getD i V.O)))):=by
 intro pins s σ H xs us Q I r h;obtain⟨a,d,ks,rfl,Y,h1,P,hkl,W,q⟩:=h;obtain⟨u,rfl,w⟩:=kb r;cases w;obtain⟨f,m,T,ob,nn,hT,F,J,M⟩:=seq_val I (.inl Y);have R:d.length=f.length:=m.length;have item:∀{h':Heap},(∀b o,s.heap.get? b=Z o->h'.get? b=Z o)->It2 h' f ks:=λ{h'} l i hi=>by
  have E:bt X pins σ H { s with heap:=h',toks:=s.toks }:=I.fu l;have B:i<d.length:=by omega
  have z:i<ks.length:=by omega
  obtain⟨u,e,w⟩:=m.get (aP B);obtain⟨a,p,q,t,v,rfl,N,ti⟩:=TL E (W i _ _ (aP B) (aP z)) w;refine#v[a,p,q,t,v,?_,?_,ti,e]
  .rw[bN,e];rfl
  .rw[bN,aP z];exact N
 refine N7 (κ:=tuples' γ) (c:=λi j=>Jx (ks.getD i []) (ks.getD j [])) hT F J M (by omega) (by omega) (λh' C l hC=>Q4 (s:={ s with heap:=h' }) (item l) (by omega) hC) (λh' i j C l hij hC=>TM (s:={ s with heap:=h' }) (item l) hij hC) λg h' e k1 k2 S=>?_
 .have x:bt X pins σ H { s with heap:=g,toks:=s.toks }:=I.fu k1;refine#v[.ref g.objs.size,_,x.laid (t':=s.toks) k2 (aH _) ?_,O,q _ (x.ew.fresh (aH _))];have hn:0<d.length:=h1;refine#v[?_,Gj _ f,e,?_,S]
  .rw[af,(Gk _ hn).length_eq,bK,bV];omega
  .unfold Gj;rw[<-R];exact JY m _ λi hi=>KU _ hn i hi
end
def Q5:D->Option aE
 |.a7 [.str p,.str q]=>Z [p,q]
 |_=>U
def zy:bp->Option (List aE)
 |[]=>Z []
 |d::a=>match Q5 d,zy a with
  |some k,Z b=>Z (k::b)
  |_,_=>U
def EE(a:bp):Option bp:=match zy a with
 |some b=>if 0<a.length/\a.length<64 then Z ((N8 (λi j=>Jx (b.getD i []) (b.getD j [])) a.length).map λi=>a.getD i .O)else U
 |none=>U
def Gr(f:FE):FA:=λd=>match f d with
 |some (.a3 b,a)=>match EE b with
  |some c=>Z (c,a)
  |none=>U
 |_=>U
section
variable{X:Cx}{G:Bg}{H:Hp}
set_option h true
def MF(r:cb G H d v)(e:Q5 d=Z k):Jz G.K H v k:=by
 unfold Q5 at e;split at e
 .rename_i p q;cases e;unfold cb at r;obtain⟨a,t,rfl,i,b⟩:=r;unfold a6 at b;obtain⟨m,j,rfl,c,f⟩:=b;unfold a6 at f;obtain⟨o,l,rfl,q3,h⟩:=f;unfold a6 at h;unfold cb at c q3;subst h c q3;exact#v[a,p,q,O,O,i]
 .cases e
set_option h false
theorem J0:∀{a:bp} {b:List aE},zy a=Z b->b.length=a.length
 |[],b,e=>by cases e;rfl
 |d::a,b,e=>by
  unfold zy at e;cases c:Q5 d with
  |none=>rw[c]at e;cases e
  |some k=>
   cases f:zy a with
   |none=>rw[c,f]at e;cases e
   |some h=>rw[c,f]at e;cases e;rw[aS,aS,J0 f]
theorem J1:∀{a:bp} {f:List aE} {h:bF},a6 G H a h->zy a=Z f->∀(i:Nat) (y:V) (k:aE),h[i]?=Z y->f[i]?=Z k->Jz G.K H y k
 |[],f,h,r,e,i,y,k,l,c=>by cases e;cases c
 |d::a,f,h,r,e,i,y,k,l,c=>by
  unfold zy at e;cases b:Q5 d with
  |none=>rw[b]at e;cases e
  |some q=>
   cases j:zy a with
   |none=>rw[b,j]at e;cases e
   |some m=>
    rw[b,j]at e;cases e;unfold a6 at r;obtain⟨v,t,rfl,o,p⟩:=r;cases i with
    |zero=>cases l;cases c;exact MF o b
    |succ i=>exact J1 p j i y k l c
theorem Jz.mono{K:av}(s:vS b c)(h:Jz K b y k):Jz K c y k:=by obtain⟨a,p,q,d,e,f⟩:=h;exact#v[a,p,q,d,e,e8.mono s f]
set_option h true
def MG(h:PE X e (tCB (λu H Q=>∃(a:Addr) (c:bF) (l:List aE),u=[.ref a]/\fb G.K H a c/\0<c.length/\c.length<64/\l.length=c.length/\(∀(i:Nat) (y:V) (k:aE),c[i]?=Z y->l[i]?=Z k->Jz G.K H y k)/\
  ∀p,H p=U->Q (.ref p) (eg H p (.a3 ((N8 (λi j=>Jx (l.getD i []) (l.getD j [])) c.length).map λi=>c.getD i V.O)))) (q? G (ax f vO)))):PE X e (tH G (Gr f)):=PE.b4 h λσ H Q t=>by
 obtain⟨F,W,A,es,Y,R,e,k⟩:=t;unfold Gr at e;split at e
 .rename_i q ρ1 C;cases b:EE q with
  |none=>simp only[b]at e;cases e
  |some E=>
   simp only[b]at e;cases e;unfold EE at b;cases m:zy q with
   |none=>simp only[m]at b;cases b
   |some l=>
    simp only[m]at b;split at b
    .rename_i t;obtain⟨N,J⟩:=t;cases b;refine#v[F,W,A,[.a3 q],_,R,by unfold ax;rw[C];rfl,λc H1 B s d rs=>?_];unfold a6 at rs;obtain⟨v,r0,rfl,z,x⟩:=rs;unfold a6 at x;subst x;unfold cb at z;obtain⟨a,u,rfl,I,r⟩:=z;have w:=vC r;refine#v[a,u,l,O,fb.of (d.sub _ _ I),by omega,by omega,by rw[J0 m,w],λi y P S T=>Jz.mono d.sub (J1 r m i y P S T),λp o=>?_];refine k p _ _ _ s (d.ff o _) vE (d.ef o) (d.fm o) (d.apart o) ?_;rw[<-w];exact JZ r _ λi M=>KU _ N i M
    .cases b
 .cases e
set_option h false
def JA(d:X.A.units+64<cLine)(hK:autoParam (X.K=G.K) zA0._auto_1):xD X (.builtin "sorted") (λe H Q=>∃(a:Addr) (b:bF) (c:List aE),e=[.ref a]/\fb G.K H a b/\0<b.length/\b.length<64/\c.length=b.length/\(∀(i:Nat) (y:V) (k:aE),b[i]?=Z y->c[i]?=Z k->Jz G.K H y k)/\
  ∀p,H p=U->Q (.ref p) (eg H p (.a3 ((N8 (λi j=>Jx (c.getD i []) (c.getD j [])) b.length).map λi=>b.getD i V.O)))):=by rw[<-hK];exact K1 d
end
end L4
namespace L4
open PySem PySem.Spec PyProof.Rows L2 L3
structure Bz where
 P:aL
 w:aC
 mg:Str->Option ab
 a5:Heap
 G:Bg
structure ZE(X:Cx)(B:Bz)(e:Expr)(f:FE):Prop where p:PE X e (tF B.G f)
structure ZN(X:Cx)(B:Bz)(e:Expr)(f:FA):Prop where p:PE X e (tH B.G f)
structure ZT(X:Cx)(B:Bz)(e:Expr)(f:FT):Prop where p:PT X e (k? B.G f)
structure ZW(X:Cx)(B:Bz)(e:Expr)(f:FT):Prop where p:PW X e (k? B.G f)
structure ZF(X:Cx)(B:Bz)(e:List Expr)(f:FT):Prop where p:PIf X e (k? B.G f)
structure ZA(X:Cx)(B:Bz)(e:List Expr)(f:FA):Prop where p:PA X e (q? B.G f)
structure ZS(X:Cx)(B:Bz)(e:Stmt)(f:FS):Prop where p:PS X e (ki B.G f)
structure ZB(X:Cx)(B:Bz)(e:List Stmt)(f:FS):Prop where p:mw X e (ki B.G f)
structure ZI(X:Cx)(B:Bz)(tg e:Expr)(f:FA):Prop where p:PI X tg e (M? B.G f)
structure ZO(X:Cx)(B:Bz)(e:Option Expr)(f:FO):Prop where p:PO X e (tFO B.G f)
structure ZG(X:Cx)(B:Bz)(e:Expr)(n:Nat)(f:FG):Prop where p:PG X e (Z' B.G n f)
structure ZH(X:Cx)(B:Bz)(e:List Expr)(n:Nat)(f:bp->bh->Option bh):Prop where p:Ls X e (Sx B.G n f)
structure ZK(X:Cx)(e:Option Expr)(i:Option Int):Prop where p:PO X e (tO i)
structure ZP(X:Cx)(B:Bz)(pos:Pos)(ks:List (Option Expr))(vs:List Expr)(l:List (Str×FE)):Prop where p:PPs X pos ks vs (Tu B.G l)
abbrev Gz(X:Cx)(x:Str):Prop:=X.a4.kindOf x=Z .globalImplicit
abbrev Dz(x:Str):Prop:=(x==("__debug__" : Str))=δ
abbrev Nz(x:Str):Prop:=(decide (x≠"__name__")&&!(x==("__debug__" : Str)))=γ
abbrev Sz(X:Cx)(e:Expr)(a:List Expr):Prop:=aF (e::a) X.a4=(δ,eval e X.a4)::aF a X.a4
abbrev S1(X:Cx)(e:Expr):Prop:=aF [e] X.a4=[(δ,eval e X.a4)]
abbrev Lz(X:Cx)(pos:Pos)(a:List Expr):Prop:=(bO pos (aF a X.a4)).any (·.1)=δ
abbrev Wz(X:Cx)(e o:Expr)(pos:Pos):Prop:=dR e (Z o) pos.line X.a4=pure δ
abbrev Az(X:Cx)(o:Expr)(m:Str):Prop:=fi o m X.a4 (eval o X.a4)=eval o X.a4
abbrev Ez(p pos:Pos):Prop:=(p.endLine==pos.line)=γ
abbrev Iz(e:Expr):Prop:=(λo i=>subscripted e δ o i)=λo i=>operate [o,i] (getItem o i)
abbrev Fz(X:Cx)(e:Expr):Prop:=(λx=>i7 e X.a4 x)=λx=>pure x
class Cz(X:Cx)(B:outParam Bz)(k:outParam Nat):Prop where
 P:X.prog=B.P
 w:X.w=B.w
 K:X.K=B.G.K
 mg:X.mg=B.mg
 b:X.a5=B.a5
 c:X.l0=γ
 r:xX k X.A
class Yb(B:Bz):Prop where y:Yw B.P B.w B.mg B.a5 B.G
class Df(B:Bz)(j:outParam Nat)(x:Str)(sp:Sp):Prop where p:∃ps,GZ B.P B.w B.G.K B.mg B.a5 j x ps sp
class Kf(B:Bz)(j:outParam Nat)(x:Str)(c:Nat)(g:bp->Option (aE×bp))(dds:bp):Prop where
 p:∃ps,KN B.G B.P B.w B.mg B.a5 j x c ps (dds.map vD) g
 f:dds.all yq=γ
class Mf(B:Bz)(j:outParam Nat)(m:Str)(g:Nat->Option (bp->Option D)):Prop where p:∀c h,g c=Z h->Cg B.G B.P B.w B.mg B.a5 j m c h
class Ff(B:Bz)(ok:Nat->Bool)(f:Str):Prop where p:∀c,ok c=γ->I' B.G.K (B.G.ca c)/\Br B.G.K (B.G.ca c) f
class Af(B:Bz)(c:Nat)(xs:outParam aE):Prop where p:CF B.G.K (B.G.ca c) xs
class Nb(B:Bz)(x:Str):Prop where p:B.mg x=U
class Co(B:Bz)(x:Str)(d:D):Prop where p:Ba B.G B.mg x d
class Ic(B:Bz)(x:Str)(t:Ty->Option Bool):Prop where p:∃c,NW B.G c t/\B.mg x=Z (.ref (B.G.ca c))
class Ij(B:Bz)(n:Nat):Prop where p:∀j k,j<n->k<n->B.G.ca j=B.G.ca k->j=k
class ζ(op:Operator)(g:D->D->Option D):Prop where p:∀(X:Cx) (G:Bg),∃r,gi X (cG op) r/\i1 G r g
set_option r "1 Mod vX Zq aaj;2 FloorDiv wW VI aak;3 Mult yZ Zp aai;4 Sub Eh Zo aah;5 Pow SK Zr aal;6 Add wH Zn aag;7 Add Dy Nu WG;8 Mult Iy NK W6" in instance inϑ0:ζ .ϑ1 ϑ2:=#v[λy y=>#v[_,ϑ3,ϑ4]]
class z?(op:CmpOp)(g:D->D->Option D):Prop where p:∀(X:Cx) (G:Bg),X.K=G.K->X.A.units+64<cLine->∃r,gi X (bC op) r/\i1 G r g
set_option r "9 Eq δ q 0;10 NotEq γ r 1" in instance inϑ0:z? .ϑ1 (b? ϑ2):=#v[λy y h u=>#v[_,aaϑ3 u h,adϑ4]]
set_option r "1 In δ aas;2 NotIn γ QJ" in instance in1ϑ0:z? .ϑ1 (j2 ϑ2):=#v[λy y h y=>#v[_,ϑ3 h,Yn]]
set_option r "13 Is zw Zv aan;14 IsNot yc VJ WH;16 Lt NQ adk adW;17 LtE zQ adl adX;18 Gt Gg adm adY;19 GtE dGeI adn adZ;20 LtE SL QA aam" in instance inϑ0:z? .ϑ1 ϑ2:=#v[λy y y y=>#v[_,ϑ3,ϑ4]]
class B1(x:Str)(g:D->Option D):Prop where p:∀(X:Cx) (G:Bg),X.K=G.K->X.l0=γ->∃(id:String) (r:bF->Hp->VK->Prop),xD X (.builtin id) r/\JT G r g/\d9 x=Z (.builtin id)
instance in21:B1 "len" wY:=#v[λy y h y=>#v[_,_,QL h,yK,q8]]
set_option r "2 ll zR M u;3 ny Hv T y" in instance in2ϑ0:B1 "aϑ1" ϑ2:=#v[λy y h c=>#v[_,_,Qϑ3 c h,aaϑ4,boot_aϑ1]]
class KtC(x:Str)(T:outParam String):Prop where p:(∀(X:Cx) (G:Bg) y b,w5 T y=Z b->cJ X.K (y.val G) (.type T)=Z b)/\d9 x=Z (.type T)
instance in24:KtC "str" "str" := #v[λy y=>WN,Pv.boot_str]
instance in25:KtC "int" "int" := #v[λy y=>W4,sk]
instance in26:KtC "bool" "bool" := #v[λy y=>Tt,Pv.boot_bool]
instance in27:KtC "list" "list" := #v[λy y=>S0,rR]
instance in28:KtC "tuple" "tuple" := #v[λy y=>Rl,rG]
theorem Ys:∀{dds:bp},dds.all yq=γ->a6 G H dds (dds.map vD)
 |[],_=>wj
 |d::a,h=>by rw[gH,aT]at h;exact wB (Fc h.1 H) (Ys h.2)
def vr(X:Cx)(i:Nat)(x:Str):Bool:=decide (X.N[i]?=Z x)&&(match X.a4.scope.names.lookup x with|some .local=>γ|some .cell=>γ|some .free=>γ|_=>δ)&&!(x==("__debug__" : Str))&&!(x==("__classdict__" : Str))
def t9(X:Cx)(i:Nat)(x:Str):Bool:=decide X.N.Nodup&&decide (X.N[i]?=Z x)&&(match X.a4.scope.names.lookup x with|some .local=>γ|some .cell=>X.fn x|_=>δ)
section
variable{X:Cx}{B:Bz}{k j i n c0:Nat}{x m:Str}{e e' o tg it:Expr}{es:List Expr}{p p2 p3 pos apos:Pos}{f f' f2:FE}{a:FA}{g:D->D->Option D}
set_option h true
def O?(h:vr X i x=γ):PE X (.Name x p) (Et i):=by
 unfold vr at h;simp only[aT,bE,c7]at h;obtain⟨⟨⟨c,b⟩,d⟩,l⟩:=h;refine pv i c ?_ d l;split at b
 .rename_i e;exact .inl e
 .rename_i e;exact .inr (.inl e)
 .rename_i e;exact .inr (.inr e)
 .cases b
set_option h false
set_option r "aed E cV NN;aaL E rm adU;W9 N Ge WB" in def ϑ0(h:vr X i x=γ):Zϑ1 X B (.Name x p) (ϑ2 i):=#v[ϑ3 (O? h)]
set_option h true
def K2(h:t9 X i x=γ):X.N.Nodup/\X.N[i]?=Z x/\L2.Loc X.a4.scope x/\(X.fn x=γ\/X.a4.scope.names.lookup x=Z .local):=by
 unfold t9 at h;simp only[aT,bE]at h;obtain⟨⟨c,d⟩,b⟩:=h;split at b
 .rename_i e;exact#v[c,d,.inl e,.inr e]
 .rename_i e;exact#v[c,d,.inr e,.inl b]
 .cases b
set_option h false
def pgI(h:t9 X i x=γ):PG X (.Name x p) (A2 i):=by obtain⟨b,c,d,l⟩:=K2 h;exact OF b c d l
def aaM(h:t9 X i x=γ)(b:Nat.blt i n=γ):ZG X B (.Name x p) n (gN i):=#v[Sy n (pgI h) (Nat.blt_eq.mp b)]
def stW(h:t9 X i x=γ)(q:PE X e t)(r:Wz X e (.Name x p) pos):PS X (.Assign [.Name x p] e pos) (EY t (A2 i)):=by obtain⟨b,c,d,l⟩:=K2 h;exact Zg b c d q r l
set_option r "N E f vI OX;O N a ya Ma" in def aaϑ0(h:t9 X i x=γ)(b:Zϑ1 X B e ϑ2)(c:Wz X e (.Name x p) pos):ZS X B (.Assign [.Name x p] e pos) (ϑ3 i ϑ2):=#v[ϑ4 (stW h b.p c)]
def aaP(h:t9 X i x=γ)(b:Wz X (.Dict [] [] p2) (.Name x p) pos):ZS X B (.Assign [.Name x p] (.Dict [] [] p2) pos) (Iw i):=#v[S7 (stW h LX b)]
def aaQ [b:ζ q g](h:ZE X B e f)(l:ZE X B e' f'):ZE X B (.BinOp e q e' pos) (c2 g f f'):=by obtain⟨r,c,d⟩:=b.p X B.G;exact#v[adH c d h.p l.p]
def aaR [C:Cz X B k](b:ZE X B e f)(c:ZE X B e' f')(d:Iz e'):ZE X B (.Subscript e e' pos) (c2 b1 f f'):=#v[adI (ix_X C.K) ad2 b.p c.p λo i=>congrFun (congrFun d o) i]
def aaS [C:Cz X B k](b:ZE X B e f)(c:ZE X B e' f')(d:Iz e'):ZE X B (.Subscript e e' pos) (c2 Ei f f'):=#v[WS (LZ C.r) b.p c.p λo i=>congrFun (congrFun d o) i]
section
variable{op op':CmpOp}{g':D->D->Option D}
def aaT [b:z? op g][C:Cz X B k](h:ZE X B e f)(l:ZE X B e' f')(q:gG op e'=δ):ZE X B (.Compare e [op] [e'] pos) (c2 g f f'):=by obtain⟨r,c,d⟩:=b.p X B.G C.K C.r.units;exact#v[Z6 c d h.p l.p q]
def aaU [b:z? op g][C:Cz X B k](h:ZE X B e f)(l:ZE X B e' f')(q:gG op e'=δ):ZT X B (.Compare e [op] [e'] pos) (cT (c2 g f f')):=by obtain⟨r,c,d⟩:=b.p X B.G C.K C.r.units;exact#v[V9 c d h.p l.p q]
def aaV [b:z? op g][c:z? op' g'][C:Cz X B k](t:ZE X B e f)(u:ZE X B e' f')(w:ZE X B o f2)(y:lastMarks [op,op'] [e',o]=δ):ZE X B (.Compare e [op,op'] [e',o] pos) (yL g g' f f' f2):=by obtain⟨r,d,h⟩:=b.p X B.G C.K C.r.units;obtain⟨z,l,q⟩:=c.p X B.G C.K C.r.units;exact#v[SV d l h q t.p u.p w.p y]
def aaW [b:z? op g][c:z? op' g'][C:Cz X B k](t:ZE X B e f)(u:ZE X B e' f')(w:ZE X B o f2)(y:lastMarks [op,op'] [e',o]=δ):ZT X B (.Compare e [op,op'] [e',o] pos) (cT (yL g g' f f' f2)):=by obtain⟨r,d,h⟩:=b.p X B.G C.K C.r.units;obtain⟨z,l,q⟩:=c.p X B.G C.K C.r.units;exact#v[QP d l h q t.p u.p w.p y]
end
def aaX(h:ZE X B e f)(b:(λwhole=>isTrue e X.a4 whole)=λwhole=>(do let v<-whole;standAt e.pos;holding [v] (truthy v))):ZT X B e (cT f):=#v[Wa h.p λw=>congrFun b w]
set_option r "Y Or C Sr;Z And E We" in def aaϑ0(d:ZT X B e b)(h:ZW X B (.BoolOp .ϑ1 (e'::es) pos) c):ZT X B (.BoolOp .ϑ1 (e::e'::es) pos) (xϑ2 b c):=#v[PW.pt (ϑ3 d.p h.p)]
def aa0 [C:Cz X B k][Q:Co B x d](b:Gz X x)(hd:Dz x):ZE X B (.Name x pos) (cC d):=#v[SY (C.mg▸Q.p) b hd]
def aa1 [C:Cz X B k][Q:Ff B ok m](c:ZE X B e f)(b:Az X e m):ZE X B (.Attribute e m pos) (c1 (vA ok m) f):=#v[SD c.p (C.K▸Q.p) b]
section
variable(hg:Gz X x)(hd:Dz x)(hs:Sz X e es)(hl:Lz X pos es)
include hg hd
theorem dz [C:Cz X B k][Q:Df B j x d]:∃c,GZ X.prog X.w X.K X.mg X.a5 j x c d:=by rw[C.P,C.w,C.K,C.mg,C.b];exact Q.p
theorem aa2{g:bp->Option bp}[C:Cz X B k][Q:Df B j x (pw B.G g)](b:gZ j k=γ):ZN X B (.Call (.Name x p) [] [] pos) (wm g vO):=by obtain⟨c,q⟩:=dz hg hd (Q:=Q);exact#v[SW q (C.r.mono (gV.mp b)) hg hd]
include hs hl
set_option r "3 D eb E vq aaw;4 bp pw N wm WL" in theorem aaϑ0{g:bp->Option ϑ1}[C:Cz X B k][Q:Df B j x (ϑ2 B.G g)](b:ZA X B (e::es) a)(c:gZ j k=γ):Zϑ3 X B (.Call (.Name x p) (e::es) [] pos) (ϑ4 g a):=by obtain⟨d,q⟩:=dz hg hd (Q:=Q);exact#v[ϑ5 q (C.r.mono (gV.mp c)) b.p hg hd hs hl]
theorem aa5{g:bp->Option (aE×bp)}{dds:bp}[C:Cz X B k][Q:Kf B j x c0 g dds](d:ZA X B (e::es) a)(h:gZ (j+1) k=γ):ZE X B (.Call (.Name x p) (e::es) [] pos) (wg c0 (λc=>g (c++dds)) a):=by obtain⟨l,q⟩:=Q.p;exact#v[WM (by rw[C.P,C.w,C.mg,C.b];exact q) (λH=>Ys Q.f) (C.r.mono (gV.mp h)) d.p C.K hg hd hs hl]
end
def mz{g:Nat->Option (bp->Option D)}[C:Cz X B k][Q:Mf B j m g]:∀c h,g c=Z h->Cg B.G X.prog X.w X.mg X.a5 j m c h:=by rw[C.P,C.w,C.mg,C.b];exact Q.p
def aa6{g:Nat->Option (bp->Option D)}{pl:Sem Bool}[C:Cz X B k][Q:Mf B j m g](d:ZE X B o f)(c:gZ j k=γ)
  (h:eval (.Call (.Attribute o m apos) [] [] pos) X.a4=(do
   let b<-eval o X.a4
   standAt apos.atName
   let (f,first)<-holding [b] (getMethod b m pl)
   callWith pos f first (bO pos (aF [] X.a4)) (backToKw pos (dQ [] X.a4)))):ZE X B (.Call (.Attribute o m apos) [] [] pos) (vR g m f vO):=#v[NS mz (C.r.mono (gV.mp c)) d.p C.K h]
def aa7{g:Nat->Option (bp->Option D)}{pl:Sem Bool}[C:Cz X B k][Q:Mf B j m g](l:ZE X B o f)(c:ZA X B (e::es) a)(d:gZ j k=γ)(q:Sz X e es)(h:Lz X pos es)
  (t:eval (.Call (.Attribute o m apos) (e::es) [] pos) X.a4=(do
   let b<-eval o X.a4
   standAt apos.atName
   let (f,first)<-holding [b] (getMethod b m pl)
   callWith pos f first (bO pos (aF (e::es) X.a4)) (backToKw pos (dQ [] X.a4)))):ZE X B (.Call (.Attribute o m apos) (e::es) [] pos) (vR g m f a):=#v[QQ mz (C.r.mono (gV.mp d)) l.p c.p C.K q h t]
section
variable(hg:Gz X x)(hd:Nz x)(hs:S1 X e)
include hg hd hs
theorem cbI{id:String}[C:Cz X B k][N:Nb B x](c:xD X (.builtin id) r)(d:d9 x=Z (.builtin id))(b:PA X [e] t):PE X (.Call (.Name x p) [e] [] pos) (tCB r t):=by simp only[aT,bE,c7]at hd;exact Do c hg (C.mg▸N.p) d b hd.1 hd.2 hs O
theorem ctI [C:Cz X B k][N:Nb B x](c:xD X (.type T) r)(d:d9 x=Z (.type T))(b:PA X [e] t):PE X (.Call (.Name x p) [e] [] pos) (tCB r t):=by simp only[aT,bE,c7]at hd;exact Qr c hg (C.mg▸N.p) d b hd.1 hd.2 hs O
theorem aa8{g:D->Option D}[Q:B1 x g][C:Cz X B k][N:Nb B x](l:ZE X B e f):ZE X B (.Call (.Name x p) [e] [] pos) (c1 g f):=by obtain⟨id,r,b,d,h⟩:=Q.p X B.G C.K C.c;exact#v[Yo d (cbI hg hd hs b h (xy l.p yB hs))]
end
section
variable(hs:S1 X e)
include hs
set_option r "a9 list N yj Q NR R;ba tuple E zd R QN G" in theorem aϑ0 [C:Cz X B k][N:Nb B "ϑ1"](c:Gz X "ϑ1")(b:ZE X B e f):Zϑ2 X B (.Call (.Name "ϑ1" p) [e] [] pos) (ϑ3 f):=#v[Sϑ4 (ctI c (by decide) hs (ϑ5 C.K) rϑ6 (xy b.p yB hs))]
theorem abb [C:Cz X B k][N:Nb B "sorted"](c:Gz X "sorted")(b:ZE X B e f):ZN X B (.Call (.Name "sorted" p) [e] [] pos) (Gr f):=#v[MG (cbI c (by decide) hs (JA C.r.units C.K) nQ (xy b.p yB hs))]
theorem abc [C:Cz X B k][N:Nb B "sorted"](c:Gz X "sorted")(b:ZE X B e f):ZN X B (.Call (.Name "sorted" p) [e] [] pos) (Cr f):=#v[ME (cbI c (by decide) hs (Jy C.K) nQ (xy b.p yB hs))]
theorem abd [C:Cz X B k][N:Nb B "range"](c:Gz X "range")(b:ZE X B e f):ZI X B tg (.Call (.Name "range" p) [e] [] pos) (u3 f):=#v[NP (Qj c (C.mg▸N.p) (xy b.p yB hs) hs)]
end
section
variable(hi:Gz X "isinstance")(hg:Gz X x)(hs:aF [e,.Name x p2] X.a4=[(δ,eval e X.a4),(δ,eval (.Name x p2) X.a4)])(hs':S1 X (.Name x p2))
include hi hg hs hs'
theorem abe [Q:KtC x T][C:Cz X B k][N:Nb B "isinstance"][c:Nb B x](d:ZE X B e f)(hd:Nz x):ZE X B (.Call (.Name "isinstance" p) [e,.Name x p2] [] pos) (c1 (wI (w5 T)) f):=by
 simp only[aT,bE,c7]at hd;refine#v[O2 (Do (JU (.b T) (Q.p.1 X B.G) SZ C.K) hi (C.mg▸N.p) j4 (xA d.p (xA (Kp hg (C.mg▸c.p) Q.p.2 O hd.1 hd.2) zz ?_) ?_) (by decide) (by decide) ?_ ?_)]
 .exact hs'
 .rw[hs,hs']
 .rw[hs,hs']
 .rw[hs'];rfl
theorem abf [Q:Ic B x t][C:Cz X B k][N:Nb B "isinstance"](b:ZE X B e f)(hd:Dz x):ZE X B (.Call (.Name "isinstance" p) [e,.Name x p2] [] pos) (c1 (wI t) f):=by
 obtain⟨c,d,h⟩:=Q.p;refine#v[O2 (Do (NX d C.K) hi (C.mg▸N.p) j4 (xA b.p (xA (HB hg (C.mg▸h) O hd) zz ?_) ?_) (by decide) (by decide) ?_ ?_)]
 .exact hs'
 .rw[hs,hs']
 .rw[hs,hs']
 .rw[hs'];rfl
end
section
variable(hb:Az X o m)(hl:Ez apos pos)(hs:S1 X e)
include hb hl hs
theorem bmI{id:String}[C:Cz X B k](h:ko T)(slot:Slot T m id)(hty:typeOf (.builtin id)=pure (.type "method_descriptor"))(c:MtR X id r)(d:PE X o to)(b:PA X [e] t):PE X (.Call (.Attribute o m apos) [e] [] pos) (tBM B.G.K T r to t):=
 NM B.G.K h slot hty c d b hb (by rw[hs];rfl) hl hs O C.K
end
section
variable(h:vr X i x=γ)(hb:Az X (.Name x p) m)(hl:Ez apos pos)(hs:S1 X e)
include h hb hl hs
theorem abg [C:Cz X B k](c:m="append")(b:ZE X B e f):ZE X B (.Call (.Attribute (.Name x p) m apos) [e] [] pos) (Ae i f):=by subst c;exact#v[QG (bmI hb hl hs ja l7 pX F6 (O? h) (xy b.p yB hs))]
theorem abh [C:Cz X B k](c:m="extend")(b:ZE X B e f):ZE X B (.Call (.Attribute (.Name x p) m apos) [e] [] pos) (Ej i f):=by subst c;exact#v[NZ (bmI hb hl hs ja jM pY (C.K▸NY) (O? h) (xA b.p zz hs))]
end
def abi [C:Cz X B k](h:ZE X B e f)(l:ZE X B e' f')(c:Az X e "get")(d:Ez apos pos)(b:S1 X e'):ZE X B (.Call (.Attribute e "get" apos) [e'] [] pos) (c2 Dh f f'):=#v[S6 (LZ C.r) h.p l.p #v[c,by rw[b];rfl,d,by rw[b];rfl]]
def abj [C:Cz X B k][Q:Af B c0 l](d:l.contains m=γ)(h:vr X i x=γ)(c:ZE X B e f)(b:Wz X e (.Attribute (.Name x p) m apos) pos):ZS X B (.Assign [.Attribute (.Name x p) m apos] e pos) (wD c0 i m f):=#v[WA (Zx (O? h) c.p b) (by obtain⟨i,_,e⟩:=lS (lu.1 d);exact C.K▸Q.p.at i (cj.2 #v[_,e]))]
def abk [C:Cz X B k](h:vr X i x=γ)(b:ZE X B e' f')(d:ZE X B e f)(c:Wz X e (.Subscript (.Name x p) e' apos) pos):ZS X B (.Assign [.Subscript (.Name x p) e' apos] e pos) (zC i f' f):=#v[S8 (VY (LZ C.r) (O? h) b.p d.p c)]
def abl [Q:Ij B n](h:ZE X B e f):ZE X B e (Ek n f):=#v[W1 Q.p h.p]
section
variable{ks:List (Option Expr)}{kfs:List (Str×FE)}
def abm:ZP X B pos [] [] []:=#v[VZ]
def abn(c:ZE X B e f)(b:ZP X B pos ks es kfs):ZP X B pos (Z (.Constant (.str y) j p)::ks) (e::es) ((y,f)::kfs):=#v[Sb RF c.p b.p]
def abo(h:ZP X B pos ks es kfs)(c:(ks.all (·.isSome)&&decide (ks.length=es.length)&&!ks.isEmpty&&decide (ks.length<=15)&&decide (kfs.map λq=>(Sum.inr q.1:d?)).Nodup&&decide (kfs.length<=15))=γ):ZE X B (.Dict ks es pos) (G6 kfs):=by simp only[aT,bE,c7]at c;obtain⟨⟨⟨⟨⟨a1,d⟩,b⟩,l⟩,r⟩,t⟩:=c;exact#v[W5 (V0 h.p a1 d (λz=>by rw[z]at b;cases b) l) r t]
end
def abp{lo:Option Expr}{fl:FO}[C:Cz X B k](c:ZE X B e f)(l:ZO X B lo fl)(d:ZO X B h b):ZN X B (.Subscript e (.Slice lo h U p) pos) (Fh f fl b):=#v[NV (E3 (sl_X C.K) c.p l.p d.p)]
def abq{lo:Option Expr}[C:Cz X B k](b:ZE X B e f)(q:ZK X lo l)(c:ZK X d h):ZN X B (.Subscript e (.Slice lo d U p) pos) (P' f l h):=#v[QO (E3 (sl_X C.K) b.p q.p c.p)]
def abr:ZK X (Z (.Constant (.int y) j pos)) (Z y):=#v[SU]
def abt:ZK X U U:=#v[ad3]
set_option r "u L Mh L6;v T WC V5" in def abϑ0 [C:Cz X B k](h:ZE X B e f):ZI X B tg e (iϑ1 f):=#v[ϑ2 (ϑ3 B.G.K h.p C.K)]
set_option r "w D Ti WZ;x S WT Z1" in def abϑ0(h:ZE X B e f):ZI X B tg e (iϑ1 f):=#v[ϑ2 (ϑ3 h.p)]
section
variable{gg:FG}{gs:bp->bh->Option bh}
def Xa:ZH X B [] n Dg:=#v[Wk VE]
def Xb(b:ZG X B e n gg)(c:ZH X B es n gs)(d:(de (e::es) X.a4).map (·.2)=assign e X.a4::(de es X.a4).map (·.2)):ZH X B (e::es) n (wx gg gs):=#v[SA (RI b.p c.p d)]
def Xc [C:Cz X B k](h:ZH X B es n gs)(b:(de es X.a4).length=l)(d:(de es X.a4).findIdx? (·.1)=U):ZG X B (.Tuple es q pos) n (gT gs l):=#v[Wl (V6 B.G.K C.c h.p b d C.K)]
end
def tgN:Expr->aE
 |.Name x _=>[x]
 |.Tuple es _ _=>es.filterMap λe=>match e with|.Name x _=>Z x|_=>U
 |_=>[]
def cpN(X:Cx)(tg:Expr)(d3:List Nat):aE:=tgN tg++d3.map λj=>X.N.getD j ""
instance inCz [C:Cz X B k]{d:aE}{q:cQ}{h:List (Str×Addr)}{A:Addr}{l:List Addr}{s:ae}{H:Hp}:Cz (xF X d q h A l s H) B k:=#v[C.P,C.w,C.K,C.mg,C.b,C.c,C.r]
def cpOk(X:Cx)(b:aE)(sc:cQ)(n:Nat)(d3:List Nat):Bool:=decide d3.Nodup&&decide (sc.kind=.function)&&(sc.names.all λy=>y.2 != .cell)&&(sc.names.all λy=>y.2 != .local||sc.names.lookup y.1==Z .local)&&(sc.names.all λy=>y.2 != .free||(X.a4.kindOf y.1==Z .cell||X.a4.kindOf y.1==Z .free))&&decide (b.length=n+d3.length)&&decide ((b.drop n).map Z=d3.map λj=>X.N[j]?)&&((b.drop n).all λx=>sc.names.lookup x==Z .free)
section
variable{sc:cQ}{d3:List Nat}{ifs:List Expr}{gg:FG}{ft:FT}{s:FA}
 (h0:cpOk X (cpN X tg d3) sc n d3=γ) (hs:Fz X it) (hi:ZI X B tg it s)
 (h1:∀(cl:List (Str×Addr)) (A:Addr) (fp:List Addr) (s:ae) (H:Hp),ZG (xF X (cpN X tg d3) sc cl A fp s H) B tg n gg)
 (h2:∀(cl:List (Str×Addr)) (A:Addr) (fp:List Addr) (s:ae) (H:Hp),ZF (xF X (cpN X tg d3) sc cl A fp s H) B ifs ft)
 (h3:∀(cl:List (Str×Addr)) (A:Addr) (fp:List Addr) (s:ae) (H:Hp),ZE (xF X (cpN X tg d3) sc cl A fp s H) B e f)
include h0 hs hi h1 h2 h3
theorem abz [C:Cz X B k]:ZN X B (.ListComp e [#v[tg,it,ifs,0]] sc pos) (vy n d3 s gg ft f):=by unfold cpOk at h0;simp only[aT,bE]at h0;obtain⟨⟨⟨⟨⟨⟨⟨a1,b⟩,d⟩,h⟩,l⟩,q⟩,r⟩,t⟩:=h0;exact#v[SI a1 (V4 C.c hi.p (λcl A fp s H=>#v[(h1 cl A fp s H).p,(h2 cl A fp s H).p,(h3 cl A fp s H).p]) b d h l q r t λx=>congrFun hs x)]
theorem cpW [C:Cz X B k](h:t9 X i x=γ)(F:dR (.ListComp e [#v[tg,it,ifs,0]] sc pos) (Z (.Name x p)) apos.line X.a4=pure γ):PS X (.Assign [.Name x p] (.ListComp e [#v[tg,it,ifs,0]] sc pos) apos) (EY (GV (M? B.G s) (Z' B.G n gg) (k? B.G ft) (tF B.G f) n d3) (A2 i))/\d3.Nodup:=by unfold cpOk at h0;simp only[aT,bE]at h0;obtain⟨⟨⟨⟨⟨⟨⟨a1,b⟩,d⟩,l⟩,q⟩,r⟩,t⟩,u⟩:=h0;obtain⟨w,y,z,E⟩:=K2 h;exact#v[WO C.c w y z hi.p (λcl A fp s H=>#v[(h1 cl A fp s H).p,(h2 cl A fp s H).p,(h3 cl A fp s H).p]) b d l q r t u (λx=>congrFun hs x) F E,a1]
theorem abA [C:Cz X B k](h:t9 X i x=γ)(b:dR (.ListComp e [#v[tg,it,ifs,0]] sc pos) (Z (.Name x p)) apos.line X.a4=pure γ):ZS X B (.Assign [.Name x p] (.ListComp e [#v[tg,it,ifs,0]] sc pos) apos) (vI i (cL (vy n d3 s gg ft f))):=by have z:=cpW h0 hs hi h1 h2 h3 h b;exact#v[S4 z.2 z.1]
theorem abB [C:Cz X B k](h:t9 X i x=γ)(b:dR (.ListComp e [#v[tg,it,ifs,0]] sc pos) (Z (.Name x p)) apos.line X.a4=pure γ):ZS X B (.Assign [.Name x p] (.ListComp e [#v[tg,it,ifs,0]] sc pos) apos) (ya i (vy n d3 s gg ft f)):=by have z:=cpW h0 hs hi h1 h2 h3 h b;exact#v[QS z.2 z.1]
end
section
variable{st:Stmt}{sts:List Stmt}{fs fs':FS}{ft:FT}{a':FA}{z1:Nat}
def aee(b:ZE X B e f)(c:ZA X B es a)(d:Sz X e es):ZA X B (e::es) (ax f a):=#v[xy b.p c.p d]
def aef:ZA X B [] vO:=#v[yB]
set_option r "g str str Z4;h int int So;i bool X adG" in def aeϑ0:ZE X B (.Constant (.ϑ1 y) j pos) (cC (.ϑ2 y)):=#v[ϑ3]
def aej:ZE X B (.Constant .none j pos) (cC .O):=#v[Z5]
def MH(b:ZS X B st fs)(c:ZB X B sts fs'):ZB X B (st::sts) (a0 fs fs'):=#v[Su b.p c.p]
def aek(b:ZS X B st fs):ZB X B [st] fs:=#v[Wi b.p]
def ael:ZB X B [] vz:=#v[Wh]
set_option r "D E f vw Wj;E N a wQ Sv" in def abϑ0(h:Zϑ1 X B e ϑ2):ZS X B (.Return (Z e) pos) (ϑ3 ϑ2):=#v[ϑ4 h.p]
def abF(h:ZE X B e f)(b:dR e U pos.line X.a4=pure δ):ZS X B (.Expr e pos) (v8 f):=#v[Sw h.p b]
def abG(h:ZT X B e ft)(b:ZB X B sts fs)(c:ZB X B sts' fs'):ZS X B (.If e sts sts' pos) (en ft fs fs'):=#v[aae h.p b.p c.p]
def abH(h:ZA X B es a):ZN X B (.List es pos) (vJ a):=#v[Wf h.p]
def abI(h:ZA X B es a):ZE X B (.Tuple es z1 pos) (vM a):=#v[aab h.p]
def abJ(b:ZE X B e f)(c:ZE X B e' f'):ZN X B (.BinOp e .Add e' pos) (xi f f'):=#v[WJ b.p c.p]
def abK [C:Cz X B k](b:ZE X B e f)(c:ZE X B e' f'):ZE X B (.BinOp e .Add e' pos) (Fg f f'):=#v[WU b.p c.p C.K]
set_option r "L And wM Z9;M Or H4 adK" in def abϑ0(b:ZE X B e f)(c:ZE X B (.BoolOp .ϑ1 (e'::es) pos) f'):ZE X B (.BoolOp .ϑ1 (e::e'::es) pos) (ϑ2 f f'):=#v[ϑ3 b.p c.p]
def abN{c}(b:ZE X B e f):ZE X B (.BoolOp c [e] pos) f:=#v[Z8 b.p]
set_option r "O E f Ht aaa;P T ft w9 Wb" in def abϑ0(b:Zϑ1 X B e ϑ2):Zϑ1 X B (.UnaryOp .Not e pos) (ϑ3 ϑ2):=#v[ϑ4 b.p]
def abQ(h:ZT X B o ft)(b:ZE X B e f)(c:ZE X B e' f'):ZE X B (.IfExp o e e' pos) (mq ft f f'):=#v[adL h.p b.p c.p]
def aem(h:ZT X B e ft):ZF X B [e] ft:=#v[V3 h.p]
def aen:ZF X B [] wG:=#v[SJ]
set_option r "C N a E cL aac;R E f E KM aav;S T ft T GY WK" in def abϑ0(h:Zϑ1 X B e ϑ2):Zϑ3 X B e (ϑ4 ϑ2):=#v[ϑ5 h.p]
def abT(h:ZE X B e f):ZO X B (Z e) (mr f):=#v[aaA h.p]
def abU:ZO X B U tz:=#v[aaz]
def abV(c:ZT X B e ft)(d:ZW X B (.BoolOp .Or (e'::es) pos) b):ZW X B (.BoolOp .Or (e::e'::es) pos) (xC ft b):=#v[Sr c.p d.p]
set_option r "W Or Wc;X And Sq" in def abϑ0(h:ZT X B e ft):ZW X B (.BoolOp .ϑ1 [e] pos) ft:=#v[ϑ2 h.p]
end
def abY [C:Cz X B k](r:ku (model X.prog X.w) X.A X.a4 X.xe)(u:X.N.length=n)(q:ZI X B tg it s)(l:ZG X B tg n d)(h:ZB X B body b)(t:Fz X it):ZS X B (.For tg it body [] pos) (yb s d b):=#v[WE (RN r C.c q.p l.p h.p λx=>congrFun t x)]
def abZ(l:ku (model X.prog X.w) X.A X.a4 X.xe)(h:ZT X B e c)(d:ZB X B body b):ZS X B (.While e body [] pos) (whL c b n):=#v[QI n (RK l h.p d.p)]
end
end L4
namespace L4
open PySem PySem.Spec PyProof.Rows L2 L3
open PySem.W (fnOf)
def I?(st:Stmt):aE:=(vY st).names.filterMap λy=>match y.2 with|.local=>Z y.1|.cell=>Z y.1|_=>U
def psO(st:Stmt):aE:=(zb st).args.map (·.arg)
def okO(N a:aE)(st:Stmt)(b n:Nat):Bool:=decide ((vY st).kind=.function)&&(vY st).isCoroutine==δ&&(vY st).isGenerator==δ&&decide N.Nodup&&decide (N.take a.length=a)&&(a.all λx=>match (vY st).names.lookup x with|some .local=>γ|some .cell=>γ|_=>δ)&&((vY st).names.all λy=>y.2 != .free)&&decide (a.length=b)&&decide (N.length=n)
set_option h true
def z3{st:Stmt}(h:okO N ps st np n=γ):yA N ps (vY st)/\ps.length=np/\N.length=n:=by
 unfold okO at h;simp only[aT,bE,beq_iff_eq]at h;obtain⟨⟨⟨⟨⟨⟨⟨⟨a,b⟩,c⟩,d⟩,f⟩,i⟩,j⟩,l⟩,m⟩:=h;refine#v[#v[a,b,c,d,f,λx o=>?_,λy p e=>?_],l,m]
 .have z:=aK.1 i x o;split at z
  .rename_i e;exact .inl e
  .rename_i e;exact .inr e
  .cases z
 .have z:=aK.1 j y p;rw[e]at z;exact ar z (by decide)
section
variable{B:Bz}[Y:Yb B]{x m qual:Str}{st s0:Stmt}{l:List Stmt}{k c np n:Nat}{b:FS}{p:Str}{ps xs:aE}{N:aE}
set_option h false
abbrev Xn(B:Bz)(N:aE)(qual:Str)(st:Stmt)(l:List Stmt)(k:Nat)(b:FS):Prop:=∀{f:Addr} {cdv:ab} {A:aQ} {b3:List Env} {s:ae} {H:Hp} {E:XK} [Cz (Ir B.P B.w B.G.K B.mg B.a5 N qual st f cdv A b3 s H E) B k],ZB (Ir B.P B.w B.G.K B.mg B.a5 N qual st f cdv A b3 s H E) B l b
omit Y in
def Xn.ok(h:Xn B N qual st l k b)(a:wJ st=l):Bdy B.P B.w B.G.K B.mg B.a5 N qual st k (ki B.G b):=λf cdv A b3 s H E d=>by subst a;exact(@h f cdv A b3 s H E #v[O,O,O,O,O,O,d]).p
def gF5(N:aE)(d:g=dr np n b)(q:GD B.G.K x st)(e:wJ st=s0::l)(body:Xn B N x st (s0::l) k b)(S:autoParam (okO N (psO st) st np n=γ) zA6._auto_1)(a:autoParam (Bds x x st (psO st)) zA5._auto_1):Df B (k+1) x (eb B.G g):=
 #v[_,gF d Y.y q (z3 S).1 (body.ok e) (z3 S).2.1 (z3 S).2.2 a]
set_option r "er dr eb F;Dk qi pw N'" in def ϑ0(d:g=ϑ1 np n b)(q:GD B.G.K x st)(e:wJ st=s0::l)(body:Xn B (I? st) x st (s0::l) k b)(S:okO (I? st) (psO st) st np n=γ:=by kernel_rfl)(a:Bds x x st (psO st):=by (repeat intro _);rfl):Df B (k+1) x (ϑ2 B.G g):=
 #v[_,gϑ3 d Y.y q (z3 S).1 (body.ok e) (z3 S).2.1 (z3 S).2.2 a]
theorem nr(C:CF B.G.K (B.G.ca c) xs)(h:g=dr np n b)(q:GM B.G.K (B.G.ca c) m qual st)(j:wJ st=s0::l)(body:Xn B (I? st) qual st (s0::l) k b)(S:autoParam (okO (I? st) (psO st) st np n=γ) zA6._auto_1)(d:autoParam (Bds m qual st (psO st)) zA5._auto_1):Cg B.G B.P B.w B.mg B.a5 (k+1) m c g:=by obtain⟨f,e,a,i,F⟩:=q;exact#v[f,e,_,C.ci.cl,#v[a,i,F.kp],d.ok F,SX h (z3 S).2.1 (z3 S).2.2 F (z3 S).1 (body.ok j f)]
def W?(C:CF B.G.K (B.G.ca c) xs)(a:jt B.G.K bL x=Z (Z (.ref (B.G.ca c))))(e:g=rr c np n b)(q:GM B.G.K (B.G.ca c) "__init__" qual st)(f:wJ st=s0::l)(h:psO st=p::ps)(body:Xn B (I? st) qual st (s0::l) k b)(S:autoParam (okO (I? st) (p::ps) st (np+1) n=γ) zA6._auto_1)(d:autoParam (Bds "__init__" qual st (p::ps)) zA5._auto_1):Kf B (k+1) x c g []:=
 #v[#v[_,gI e Y.y C a q (z3 S).1 (body.ok f) (nM (z3 S).2.1) (z3 S).2.2 d],O]
def gJ4{dds:bp}(C:CF B.G.K (B.G.ca c) xs)(a:jt B.G.K bL x=Z (Z (.ref (B.G.ca c))))(t:g=rr c np n b)(q:GJ B.G.K (B.G.ca c) qual st (dds.map vD))(u:wJ st=s0::l)(w:psO st=p::ps)(body:Xn B (I? st) qual st (s0::l) k b)(j:Nat)(S:autoParam (okO (I? st) (p::ps) st (np+1) n=γ) zA6._auto_1)(e:autoParam (dds.all yq=γ) zA0._auto_1)
  (o:autoParam (Oa (dds.map vD).length λdl=>Oa ((p::ps).length - ((dds.map vD).drop j).length) λf=>∀(T:Addr) (kV doc pm:ab) (i:Option Addr) (cdv r:ab),∃k,bindArgs (fnOf "__init__" qual (zb st) (wJ st) (vY st) (.ref T) kV doc pm i cdv r) #v[f,[]]=seqItems? (.ref T)>>=k/\k (Z dl.toArray)=pure ((p::ps).zip (f++dl.drop j))) zA7._auto_1):Kf B (k+1) x c g (dds.drop j):=
 #v[#v[_,by rw[fj];exact gJ t Y.y C a q (z3 S).1 (body.ok u) j (nM (z3 S).2.1) (z3 S).2.2 o],by
  rw[aK]at e ⊢;exact λd h=>e d (lG h)]
def DE(n:Nat)(a:Nat->Addr):∀k,k<n->((aB n).map a).getD k 0=a k:=λk h=>by rw[bN,bq,lL h];rfl
def injR{n:Nat}{a:Nat->Addr}(h:decide ((aB n).map a).Nodup=γ):∀j k,j<n->k<n->a j=a k->j=k:=λj k d f e=>by rw[<-DE n a j d,<- DE n a k f]at e;exact aaK (bj h) (by simpa using d) (by simpa using f) e
def TN:Nat->(Nat->Prop)->Prop
 |0,_=>True
 |n+1,Q=>Q 0/\TN n λk=>Q (k+1)
theorem TN.at:∀{n:Nat} {Q:Nat->Prop},TN n Q->∀k,k<n->Q k
 |_+1,_,h,0,_=>h.1
 |_+1,_,h,k+1,a=>TN.at h.2 k (iY a)
end
section
variable{X:Cx}{B:Bz}{k j i n:Nat}{x y:Str}{e e' tg:Expr}{es:List Expr}{p p2 p3 pos apos:Pos}{f f':FE}{a:FA}{st:Stmt}{sts:List Stmt}{fs fs':FS}{ft:FT}
def ab0 [C:Cz X B k](m:ZE X B e f)(o:ZE X B e' f')(q:ZE X B b d)(h:Az X e "get")(l:Ez apos pos)(c:aF [e',b] X.a4=[(δ,eval e' X.a4),(δ,eval b X.a4)]):ZE X B (.Call (.Attribute e "get" apos) [e',b] [] pos) (DC f f' d):=#v[S9 (LZ C.r) m.p o.p q.p #v[h,by rw[c];rfl,l,by rw[c];rfl]]
def ab1(o:X.N.length=n)(d:ZE X B e f)(h:ZG X B tg n b)(l:swapsWithSole [tg] e pos.line X.a4=pure δ)(m:swappedStores [tg] e X.a4=pure U)(c:(de [tg] X.a4).map (·.2)=[assign tg X.a4]):ZS X B (.Assign [tg] e pos) (E9 f b):=#v[Wm (Zf d.p h.p l m c)]
def ab2 [C:Cz X B k][N:Nb B "int"](d:Gz X "int")(b:S1 X e)(c:ZE X B e f):ZE X B (.Call (.Name "int" p) [e] [] pos) (c1 WI f):=#v[Yo aat (ctI d (by decide) b Qm sk (xy c.p yB b))]
def ab3(b:ZE X B e f):ZE X B (.UnaryOp .USub e pos) (c1 Fq f):=#v[TJ b.p]
end
end L4
namespace L4
open PySem PySem.Spec PyProof.Rows L2 L3
def K4(f:FE)(lo c:Option Int):FE:=λd=>match f d with
 |some (.a7 a,b)=>if HT.e? a.length 0 lo=0/\HT.e? a.length a.length c=a.length then U else Z (.a7 (fg a lo c),b)
 |_=>U
section
variable{X:Cx}{G:Bg}
set_option h true
def Q6{lo:Option Int}(h:PE X e (tSl (Zz G.K) (tF G f) (tO lo) (tO t))):PE X e (tF G (K4 f lo t)):=PE.b4 h λC H Q q=>by
 obtain⟨F,w,j,A,x,R,e,k⟩:=q;unfold K4 at e;split at e
 .rename_i B y m;split at e
  .cases e
  .rename_i i;cases e;refine#v[F,w,j,_,_,R,m,λv z l s b r=>?_];unfold cb at r;obtain⟨a,u,rfl,o,d⟩:=r;rw[vC d]at i;exact#v[a,u,O,e8.mono b.sub o,i,λp c=>k _ _ _ (s.t (vK (b.ef c) _)) (b.rh c _) (A9 (e8.of vE) (a6.mono (vK (b.ef c) _) _ _ (Fe d)))]
 .cases e
set_option h false
def sl_T(hK:autoParam (X.K=G.K) zA0._auto_1):SlR X (Zz G.K):=by rw[<-hK];exact RZ
end
section
variable{X:Cx}{B:Bz}{k:Nat}{e:Expr}{f:FE}{p pos:Pos}
def ab4{lo:Option Expr}[C:Cz X B k](a:ZE X B e f)(d:ZK X lo l)(b:ZK X c h):ZE X B (.Subscript e (.Slice lo c U p) pos) (K4 f l h):=#v[Q6 (E3 (sl_T C.K) a.p d.p b.p)]
end
theorem MI{f:Type}[DecidableEq f]:∀{l L:List f},l.Nodup->(∀x∈l,x∈L)->l.length<=L.length
 |[],L,_,_=>bT _
 |a::l,L,i,h=>by have c:=h a ba;have b:=dO.1 i;have:=MI b.2 λx d=>(pA (λe:x=a=>b.1 (by rw[<-e];exact d))).2 (h x (bb _ d));rw[oV c]at this;have:=ik c;rw[aS];omega
structure Tb(t:bS)(m n:Nat):Prop where
 mask:t.mask=m
 dm:t.dummies=#[]
 pl:t.place.size=n
section
variable{t:bS}{m n:Nat}
theorem Tb.slot(T:Tb t m n)(j:Nat):(∃i,t.slot j=.live i/\t.place[i]?=Z j)\/t.slot j=.empty:=by
 unfold SetTable.slot;by_cases h:(t.place[d7 t.place j]?==Z j)=γ
 .left;simp only[h,if_true];exact#v[_,O,fW h]
 .right;rw[qB]at h;rw[T.dm];simp[h,rS]
def Tb.free(T:Tb t m n)(h:n<=m):∃r,r<=m/\t.slot r=.empty:=by
 apply oP;intro no;have:(aB (m+1)).length<=t.place.toList.length:=MI qC λr a=>by
  rcases T.slot r with ⟨i,_,e⟩|e
  .rw[<-il]at e;exact cf e
  .exact ar #v[r,by have:=bx.1 a;omega,e] no
 rw[bK,bR,T.pl]at this;omega
def oz(t:bS):Nat->fS->Prop
 |0,_=>False
 |f+1,p=>t.slot p.j=.empty\/oz t f (t.advance p)
theorem oz.mono:∀{f a:Nat} {p:fS},oz t f p->f<=a->oz t a p
 |0,_,_,h,_=>h.elim
 |f+1,0,_,_,h=>ar h (by omega)
 |f+1,a+1,p,h,b=>h.imp id λh=>h.mono (by omega)
def rs(m i q:Nat):fS:=#v[i,fR m i - i,i,q,U]
def ab5(m i:Nat):fR m i - i<=9:=by unfold fR;split<;>omega
theorem oz.run(T:Tb t m n)(h:oz t f (rs m ((i * 5+1+q / 32) % (m+1)) (q / 32))):∀(k j:Nat),oz t (f+k+1) #v[j,k,i,q,U]
 |0,j=>.inr (by
   have e:t.advance #v[j,0,i,q,U]=rs m ((i * 5+1+q / 32) % (m+1)) (q / 32):=by unfold mO SetTable.leap;rw[T.mask];rfl
   rw[e];exact h)
 |k+1,j=>.inr (by
   have e:t.advance #v[j,k+1,i,q,U]=#v[j+1,k,i,q,U]:=by unfold mO;rw[aj (j9 k)];rfl
   rw[e];exact oz.run T h k (j+1))
def oz.leap(T:Tb t m n)(h:oz t f (rs m ((i * 5+1+q / 32) % (m+1)) (q / 32))):oz t (f+10) (rs m i q):=
 (oz.run T h (fR m i - i) i).mono (by have:=ab5 m i;omega)
def orb(m:Nat):Nat->Nat->List Nat
 |0,_=>[]
 |k+1,i=>i::orb m k ((i * 5+1) % (m+1))
theorem oz.orb(T:Tb t m n)(a:t.slot r=.empty):∀(k i:Nat),r∈orb m k i->oz t (10 * k) (rs m i 0)
 |0,i,h=>by cases h
 |k+1,i,h=>by
  rcases aJ.1 h with e|h
  .exact oz.mono (f:=1) (.inl (by rw[e]at a;exact a)) (by omega)
  .have:=oz.leap T (q:=0) (oz.orb T a k _ h);exact this.mono (by omega)
def Ph(a:m=7\/m=31)(b:i<=m)(c:r<=m):r∈orb m (m+1) i:=by
 have h:∀m∈[7,31],((aB (m+1)).all λi=>(aB (m+1)).all λr=>(orb m (m+1) i).contains r)=γ:=by decide +kernel
 have:=aK.1 (aK.1 (h m (by rcases a with rfl|rfl<;>simp)) i (bx.2 (by omega))) r (bx.2 (by omega));exact lu.1 this
theorem oz.all(T:Tb t m n)(c:m=7\/m=31)(d:n<=m):∀(k i q:Nat),i<=m->q<32 ^ k->oz t (10 * (k+(m+1))) (rs m i q)
 |0,i,q,b,a=>by
  obtain⟨r,f,e⟩:=T.free d;have h:=by simpa using a
  rw[h,iB];exact oz.orb T e _ _ (Ph c b f)
 |k+1,i,q,b,a=>by have:=oz.leap T (oz.all T c d k ((i * 5+1+q / 32) % (m+1)) (q / 32) (qf (aM _ (j9 m))) (by rw[rT]at a;omega));exact this.mono (by omega)
def oz.start(T:Tb t m n)(b:m=7\/m=31)(c:n<=m)(h:Int):oz t (10 * (m+14)) (t.probeStart h):=by
 have a:cY h<32 ^ 13:=by unfold cY;omega
 have:=oz.all T b c 13 (cY h % (m+1)) (cY h) (qf (aM _ (j9 m))) a;have e:t.probeStart h=rs m (cY h % (m+1)) (cY h):=by unfold SetTable.probeStart;rw[T.mask];rfl
 rw[e];exact this.mono (by omega)
def TQ{p:fS}(h:p.dummy=U):(t.advance p).dummy=U:=by unfold mO;split<;>exact h
theorem TR(T:Tb t m n)(F:Nat->Int)(h:Int):∀(f:Nat) (p:fS),p.dummy=U->oz t f p->∀g,f<=g->(∃j,t.slot j=.empty/\jb t F h g p=Z (.empty j U))\/
  ∃j i next c,c<f/\t.slot j=.live i/\t.place[i]?=Z j/\F i=h/\jb t F h g p=Z (.candidate j i next)/\next.dummy=U/\oz t c next
 |0,p,_,a,g,_=>a.elim
 |f+1,p,hd,a,0,o=>ar o (by omega)
 |f+1,p,hd,a,g+1,o=>by
  unfold jb;rcases T.slot p.j with ⟨i,b,q⟩|b
  .have a:=a.resolve_left λe=>by rw[b]at e;cases e
   rw[b];dsimp only;by_cases d:F i=h
   .right;exact#v[p.j,i,t.advance p,f,dM f,b,q,d,by rw[aj (by rw[d];simp)],TQ hd,a]
   .rw[ak (by simpa using d)];rcases TR T F h f (t.advance p) (TQ hd) a g (by omega)with l|⟨j,w,x,c,l,r,u⟩
    .exact .inl l
    .exact .inr #v[j,w,x,c,by omega,r,u]
  .left;rw[b];exact#v[p.j,b,by rw[hd]]
end
def ab6(e:∀i,F i=F' i)(g:Nat)(p:fS):jb t F h g p=jb t F' h g p:=by obtain rfl:F=F':=funext e;rfl
section
variable{prog:aL}{w:aC}{A:aQ}{E:ab->ae->Prop}{s:ae}
def IL(b:∀v∈l,∃k a,v=.ref a/\TK prog w s.heap k a)(f:TK prog w s.heap j i)(h:Q δ s):ao (model prog w) A (searchCouldBeSeen (.ref i) l) Q E s:=by
 refine ah ?_;refine jW _ (λet r d=>r=(U,())/\d=s/\∀v∈et,∃k a,v=.ref a/\TK prog w s.heap k a) _ ?_ ?_ _ _ #v[O,O,b]
 .rintro v et r d ⟨rfl,rfl,hall⟩;obtain⟨k,a1,rfl,b⟩:=hall v ba;have e:=λu c=>hall u (bb _ c);dsimp only;split
  .exact aq #v[O,O,e]
  .refine ah (pe f ?_);refine ah (pe b ?_);refine ah (O9 f ?_);refine ah (O9 b ?_);exact aq #v[O,O,e]
 .rintro r d ⟨rfl,rfl,_⟩;exact aq h
structure Els(prog:aL)(w:aC)(h:Heap)(L:List (List d?×Addr))(es:Array (Int×ab)):Prop where
 tk:∀q∈L,TK prog w h q.1 q.2
 p:(es.toList.map b8).Perm (L.map λq=>Value.ref q.2)
variable{L:List (List d?×Addr)}{es:Array (Int×ab)}{t:bS}{m n ep:Nat}{S a2:Addr}{k2:List d?}{o:Obj}{h:Int}
theorem MJ(G:A.units<cLine)(T:Tb t m n)(F:m=7\/m=31)(c:t.fits es.size=γ)(l:Els prog w s.heap L es)(B:TK prog w s.heap k2 a2)(H:k2∉L.map dA)
  (z:s.heap.get? S=Z o) (hd:o.data=.set es ep t) (hQ:∀j,t.slot j=.empty->Q (.free j δ) s):∀(fuel f:Nat) (st:Option fS),f<fuel->f<=10 * iy m->(st.getD (t.probeStart h)).dummy=U->oz t f (st.getD (t.probeStart h))->
   ao (model prog w) A (setSearchFrom S (.ref a2) h γ fuel st) Q E s
 |0,f,st,C,_,_,_=>ar C (by omega)
 |fuel+1,f,st,C,Y,hdm,b=>by
  have sz:=by unfold jh at c;rw[aT,beq_iff_eq,T.pl]at c;exact c.1.symm
  refine ah (dt z hd c ?_);dsimp only;rw[ak (by unfold SetTable.gaveWay;rw[T.mask];rcases F with rfl|rfl<;>decide)];unfold SetTable.probe;rw[ab6 (F':=λi=>(es[i]?.map (·.1)).getD 0),T.mask]
  rotate_left
  .intro i;rfl
  rcases TR T (λi=>(es[i]?.map (·.1)).getD 0) h f _ hdm b (10 * iy m) Y with ⟨j,I,u⟩|⟨j,i,nx,J,h1,N,P,h4,R,W,X⟩
  .rw[u];exact aq (hQ j I)
  .rw[R];dsimp only;have hi:i<es.size:=by rw[sz,<- T.pl];exact(oK.1 P).1
   obtain⟨⟨M,y⟩,d⟩:∃e,es[i]?=Z e:=#v[es[i],jB hi];have my:y∈es.toList.map b8:=aw.2 #v[(M,y),by rw[<-il]at d;exact cf d,O];obtain⟨q,r,rfl⟩:=aw.1 (l.p.mem_iff.1 my);have t1:=l.tk q r;have nk:=λe=>H (aw.2 #v[q,r,e]);have si:t.sameMemory t.moves m=Z γ:=by unfold SetTable.sameMemory;simp
   have et:=MJ G T F c l B H z hd hQ fuel J (Z nx) (by omega) (by omega) W X;have sb:∀v∈c5 (λx:Int×ab=>x.snd) (Array.filter (λx=>x.fst==h) es).toList,∃k a,v=Value.ref a/\TK prog w s.heap k a:=λv hv=>by
    obtain⟨e,b,rfl⟩:=aw.1 hv;have b:=by rw[Array.toList_filter]at b;exact(aO.1 b).1
    obtain⟨q,r,u⟩:=aw.1 (l.p.mem_iff.1 (aw.2 #v[e,b,O]));exact#v[q.1,q.2,u.symm,l.tk q r]
   cases hb:t.led;refine ah (IL sb B ?_)
   all_goals
    rw[d];refine ah (cF (wpAny_eqBool_tuple G t1 B ?_));refine ah (dt z hd c ?_);rw[aZ nk];rw[ak (by decide),si];dsimp only;rw[aj O,N];dsimp only;rw[d];refine ah (wpAny_isSame_ref_self ?_);refine ah (aq ?_);exact et
end
def Nn(a:Array (Option Nat))(j:Nat):Prop:=(a.getD j (Z 0)).isNone=γ
section
variable{ow:Array (Option Nat)}
def ab7(i:Nat):0<fR 31 i+1 - i:=by unfold fR;split<;>omega
def J2:(∃j,Nn ow j/\eI 31 ow (f+1) i q=Z j)\/(¬Nn ow i/\eI 31 ow (f+1) i q=eI 31 ow f ((i * 5+1+q / 32) % 32) (q / 32)):=by
 have a:eI 31 ow (f+1) i q=match (aB (fR 31 i+1 - i)).find? λk=>(ow.getD (i+k) (Z 0)).isNone with
  |some k=>Z (i+k)
  |none=>eI 31 ow f ((i * 5+1+q / 32) % 32) (q / 32):=rfl
 rw[a];cases e:(aB (fR 31 i+1 - i)).find? λk=>(ow.getD (i+k) (Z 0)).isNone with
 |some k=>exact .inl #v[i+k,mV (p:=λk=>(ow.getD (i+k) (Z 0)).isNone) e,O]
 |none=>refine .inr #v[λh=>?_,O];have:=mh.1 e 0 (bx.2 (ab7 i));exact this h
theorem MK(c:Nn ow r):∀(k f i:Nat),k<=f->r∈orb 31 k i->∃j,Nn ow j/\eI 31 ow f i 0=Z j
 |0,f,i,_,h=>by cases h
 |k+1,0,i,b,_=>ar b (by omega)
 |k+1,f+1,i,b,h=>by
  rcases J2 with a|⟨a,d⟩
  .exact a
  .rcases aJ.1 h with e|h
   .exact ar (e▸c) a
   .rw[d];exact MK c k f _ (by omega) h
theorem ML(e:Nn ow r)(a:r<=31):∀(k f i q:Nat),k+32<=f->i<=31->q<32 ^ k->∃j,Nn ow j/\eI 31 ow f i q=Z j
 |0,f,i,q,b,d,c=>by
  have m:=by simpa using c
  rw[m];exact MK e 32 f i (by omega) (Ph (.inr O) d a)
 |k+1,0,i,q,b,_,_=>ar b (by omega)
 |k+1,f+1,i,q,b,d,c=>by
  rcases J2 with h|⟨_,l⟩
  .exact h
  .rw[l];exact ML e a k f _ _ (by omega) (by omega) (by rw[rT]at c;omega)
def lv(ow:Array (Option Nat)):List (Nat×Nat):=(aB 32).filterMap λj=>(ow.getD j U).map (j,·)
def aeo(b:ow.size=32)(h:Nn ow j):j<32/\ow.getD j U=U:=by
 unfold Nn at h;by_cases a:j<ow.size
 .refine#v[by omega,?_];rw[ib,jB a]at h ⊢;simpa using h
 .rw[ib,Array.getElem?_eq_none (by omega)]at h;cases h
def ab8(p:ow.size=32)(h:Nn ow j):(lv (ow.setIfInBounds j (Z k))).Perm ((j,k)::lv ow):=by
 obtain⟨o,e⟩:=aeo p h;have get:∀i,(ow.setIfInBounds j (Z k)).getD i U=if i=j then Z k else ow.getD i U:=λi=>by
  rw[ib,ib,Array.getElem?_setIfInBounds];by_cases c:j=i
  .subst c;rw[aj O,aj (by omega),aj O];rfl
  .rw[ak c,ak (λe=>c e.symm)]
 obtain⟨a,b,m⟩:=List.append_of_mem (bx.2 o);have d:(aB 32).Nodup:=qC;rw[m,cn,dO]at d;unfold lv;rw[m,pf,pf,dG,dG,get j,aj O,e];have eq:∀l:List Nat,j∉l->l.filterMap (λi=>((ow.setIfInBounds j (Z k)).getD i U).map (i,·))=l.filterMap λi=>(ow.getD i U).map (i,·):=λl f=>by
  induction l with
  |nil=>rfl
  |cons i l q=>rw[dG,dG,q λz=>f (bb _ z),get i,ak λe=>f (by rw[<-e];exact ba)]
 rw[eq a λz=>d.2.2 j z j ba O,eq b d.2.1.1];exact List.perm_middle
theorem TU:∀(b:List Int) (ow:Array (Option Nat)) (k:Nat),ow.size=32->((lv ow).map b8).Perm (aB k)->k+b.length<=31->∃a,a.size=32/\((lv a).map b8).Perm (aB (k+b.length))/\
  (b.foldl (λacc h=>do
   let (owner,k)<-acc;let j<-eI 31 owner (iy 31) (cY h % (31+1)) (cY h)
   pure (owner.setIfInBounds j (Z k),k+1)) (Z (ow,k)))=Z (a,k+b.length)
 |[],ow,k,c,d,_=>#v[ow,c,d,O]
 |h::b,ow,k,c,d,o=>by
  rw[aS]at o ⊢;have fr:∃r,r<=31/\Nn ow r:=by
   apply oP;intro no;have len:(lv ow).length=32:=by
    have:∀l:List Nat,(∀j∈l,j<=31)->(l.filterMap λj=>(ow.getD j U).map (j,·)).length=l.length:=λl i=>by
     induction l with
     |nil=>rfl
     |cons j l w=>
      have f:=i j ba;have q:=λe=>no #v[j,f,e];cases e:ow.getD j U with
      |none=>refine ar ?_ q;unfold Nn;rw[ib,jB (by omega)]at e ⊢;simpa using e
      |some x=>rw[dG,e];show (List.filterMap _ l).length+1=l.length+1;rw[w λz u=>i z (bb _ u)]
    exact(this (aB 32) λj f=>by have:=bx.1 f;omega).t bK
   have:=d.length_eq;rw[af,bK,len]at this;omega
  obtain⟨r,t,A⟩:=fr;have p:cY h<32 ^ 13:=by unfold cY;omega
  obtain⟨j,y,m⟩:=ML A t 13 (iy 31) (cY h % (31+1)) (cY h) (by decide) (by omega) p;obtain⟨a,B,C,q3⟩:=TU b (ow.setIfInBounds j (Z k)) (k+1) (by rw[Array.size_setIfInBounds];exact c) (by
   refine((ab8 c y).map b8).t ?_;rw[aU,j5];exact((List.Perm.cons k d).t (k9 k _).symm)) (by omega)
  refine#v[a,B,by rw[show k+(b.length+1)=k+1+b.length by omega];exact C,?_];rw[jf,show k+(b.length+1)=k+1+b.length by omega,<- q3];congr 1;show (eI 31 ow (iy 31) (cY h % (31+1)) (cY h)).bind _=_;rw[m];rfl
def Xd(a:Array Int)(i:a.size<=31):∃t order,rH 31 f mv led pl a=Z (t,order)/\Tb t 31 a.size/\t.led=led/\t.plain=pl/\order.toList.Perm (aB a.size):=by
 obtain⟨ow,h,b,c⟩:=TU a.toList (qO 32 U) 0 (by simp) (by
  have:lv (qO 32 U)=[]:=by unfold lv;rw[List.filterMap_eq_nil_iff];intro j d;rw[ib,Array.getElem?_replicate,aj (bx.1 d)];rfl
  rw[this];exact .nil) (by rw[bR];omega)
 rw[iB,bR]at b c;have e:qg 31 a=Z ow:=by unfold qg;rw[<-Array.foldl_toList];exact bD (sv dA) c
 refine#v[_,_,by unfold rH;rw[e];rfl,#v[O,O,?_],O,O,?_]
 .have:=b.length_eq;rw[af,bK]at this;show (c5 _ (lv ow)).toArray.size=_;rw[bf,af,this]
 .exact b
end
def Cz2(m n:Nat):Prop:=(m=7/\n<=4)\/(m=31/\n<=18)\/(m=127/\19<=n/\n<=63)
section
variable{prog:aL}{w:aC}{A:aQ}{E:ab->ae->Prop}{s:ae}
theorem TV(d:TK prog w s.heap (Sum.inr x::p) a)(h:Q δ s):ao (model prog w) A (hashByValue 8 (.ref a)) Q E s:=by
 have hT:=d.typeIs;obtain⟨o,items,n,i,_,hd,c⟩:=d;refine ah (je hT F.slot_tuple_hash.lookup ?_);refine ah (mZ i hd ?_);refine ah ?_;show ao _ _ (forIn items _ _) _ _ s;rw[<-pW];generalize items.toList=l at c ⊢;cases c with
 |@cons _ v _ j f m=>
  obtain⟨t,rfl⟩:∃t,v=.str x t:=Pc f;refine jW _ (λet r b=>b=s/\∃u,et=.str x t::u) _ ?_ ?_ _ _ #v[O,j,O]
  .rintro v et r b ⟨rfl,u,e⟩;cases e;refine ah (aq ?_);exact aq (aq h)
  .rintro r b ⟨rfl,u,e⟩;cases e
variable{L:List (List d?×Addr)}{es:Array (Int×ab)}{t:bS}{m n ep:Nat}{S a2:Addr}{k2:List d?}{o:Obj}{h:Int}
def TX(j:t.mask=7)(a:s.heap.get? S=Z o)(hd:o.data=.set es ep t)(hf:t.fits es.size=γ)(h5:es.size=5)
  (hQ:∀h' es' t',ee S s.heap h'->h'.get? S=Z { o with data:=.set es' (ep+1) t' }->Tb t' 31 5->t'.led=t.led->t'.plain=t.plain->es'.toList.Perm es.toList->Q () { s with heap:=h' }):ao (model prog w) A (setRelay S (d8 5)) Q E s:=by
 refine ah (dt a hd hf ?_);dsimp only;rw[ak (by rw[bV];decide)];obtain⟨t',order,d,T,e,f,b⟩:=Xd (es.map (·.1)) (by rw[rg];omega)
 rw[rg]at T b;have c:(order.filterMap (es[·]?)).toList.Perm es.toList:=by rw[Array.toList_filterMap];exact(b.filterMap _).t (by rw[lj])
 have i:t.relaid (es.map (·.1)) (d8 5)=Z (t',order):=d
 rw[i];have sz:=by have:=c.length_eq;rw[bR,bR]at this;exact this
 refine ah ?_;wp_delta;rw[ak (by rw[sz];simp)];refine aq ?_;refine jS a hd ?_ (by show (order.filterMap (es[·]?)).size<=aI;rw[sz,bV];omega)
 exact hQ _ _ _ (dH ..) (N0 a hd) (by rw[h5]at T;exact T) e f c
set_option h true
def add_n(J:A.units<cLine)(T:Tb t m n)(b:Cz2 m n)(P:n<=8)(hf:t.fits es.size=γ)(l:Els prog w s.heap L es)(y:TK prog w s.heap (Sum.inr x::k2) a2)(ne:(Sum.inr x::k2)∉L.map dA)
  (c:s.heap.get? S=Z o) (hd:o.data=.set es ep t)
  (hQ:∀h' es' t' i u,ee S s.heap h'->h'.get? S=Z { o with data:=.set es' i t' }->Tb t' u (n+1)->Cz2 u (n+1)->t'.led=t.led->t'.plain=δ->(es'.toList.map b8).Perm (.ref a2::es.toList.map b8)->Q γ { s with heap:=h' }):
  ao (model prog w) A (setAddHashed S (.ref a2) h) Q E s:=by
 have b:(m=7/\n<=4)\/(m=31/\n<=9):=by unfold Cz2 at b;omega
 have hm:=b.imp And.left And.left;have sz:=by unfold jh at hf;rw[aT,beq_iff_eq,T.pl]at hf;exact hf.1.symm
 refine cF (ah (dt c hd hf ?_));dsimp only;rw[ak (by simp[byScan,Value.scannable])];have nm:n<=m:=by rcases b with ⟨rfl,h⟩|⟨rfl,h⟩<;>omega
 refine ah (MJ J T hm hf l y ne c hd (λj R=>?_) 100000 (10 * (m+14)) U (by rcases hm with rfl|rfl<;>decide) (by unfold iy;omega) O (oz.start T hm nm h));refine ah (dt c hd hf ?_);have M:=T.mask;have p2:(t.put j).1.dummies=#[]:=by show (if rS t.dummies j then _ else t.dummies)=_;rw[T.dm];rfl
 have p3:=by have:=(pb t.place (d7 t.place j) j).length_eq;rw[bR,bR,Array.size_push,T.pl]at this;exact this
 have p:(jT es (t.put j).2 (h,Value.ref a2)).toList.Perm ((h,.ref a2)::es.toList):=by refine(pb es _ _).t ?_;rw[mI];exact k9 _ _
 have q:=by have:=p.length_eq;rw[bR,aS,bR,sz]at this;exact this
 let d:={ (t.put j).1 with plain:=δ };have a:Tb d m (n+1):=#v[M,p2,p3];have I:d.fits (jT es (t.put j).2 (h,Value.ref a2)).size=γ:=by unfold jh nE;rw[q,a.pl,a.dm,a.mask,aT];exact#v[by simp,aY (by rcases b with ⟨rfl,h⟩|⟨rfl,h⟩<;>simp<;>omega)]
 have fin:∀f:bS,f=d->ao (model prog w) A (do
   storeSet S (jT es (t.put j).2 (h,.ref a2)) f
   if (!δ&&f.tooFull)=γ then do setRelay S (d8 (es.size+1));pure γ else pure γ) Q E s:=λf e=>by
  subst e;refine ah (jS c hd ?_ (by rw[q,bV];omega));have g1:=N0 (es':=jT es (t.put j).2 (h,Value.ref a2)) (t':=d) c hd;have N:d.tooFull=decide ((n+1) * 5 >= m * 3):=by unfold SetTable.tooFull nE;rw[a.pl,a.dm,a.mask];rfl
  rw[N];by_cases h5:(n+1) * 5 >= m * 3
  .rw[aY h5,aj (by decide)];obtain⟨rfl,rfl⟩:m=7/\n=4:=by rcases b with ⟨rfl,h⟩|⟨rfl,h⟩<;>omega
   rw[sz];refine ah (TX a.mask g1 O I q λh' es' t' z B C F G H=>?_);refine aq (hQ h' es' t' _ 31 ((dH ..).t z) B C (.inr (.inl #v[O,by decide])) F G ?_);exact(H.map _).t (p.map _)
  .rw[aZ h5,ak (by decide)];refine aq (hQ _ _ _ _ m (dH ..) g1 a ?_ O O (p.map _));rcases b with ⟨rfl,h⟩|⟨rfl,h⟩
   .exact .inl #v[O,by omega]
   .exact .inr (.inl #v[O,by omega])
 split
 .refine ah (TV y ?_);exact fin _ O
 .rename_i r;refine ah (aq (fin _ ?_));rw[qB]at r;rw[aj O];show (t.put j).1={ (t.put j).1 with plain:=δ };rw[<-r]
end
set_option h false
structure K5(h:Heap)(S:Addr)(L:List (List d?×Addr))(led:Bool)(n:Nat)(o:Obj)(es:Array (Int×ab))(ep:Nat)(t:bS):Prop where
 f?:h.get? S=Z o
 ex:o.ExactSet
 d:o.data=.set es ep t
 c:∃m,Tb t m n/\Cz2 m n
 led:t.led=led
 pl:0<n->t.plain=δ
 p:(es.toList.map b8).Perm (L.map λq=>Value.ref q.2)
def K5.sz{h:Heap}{S:Addr}{L:List (List d?×Addr)}{led:Bool}{n:Nat}{o:Obj}{es:Array (Int×ab)}{ep:Nat}{t:bS}(x:K5 h S L led n o es ep t):es.size=L.length:=by have:=x.p.length_eq;rw[af,af,bR]at this;exact this
theorem K5.fits{h:Heap}{S:Addr}{L:List (List d?×Addr)}{led:Bool}{n:Nat}{o:Obj}{a:Array (Int×ab)}{b:Nat}{t:bS}(x:K5 h S L led n o a b t)(d:L.length=n):t.fits a.size=γ:=by obtain⟨m,T,c⟩:=x.c;unfold jh nE;rw[x.sz,d,T.pl,T.dm,T.mask,aT];exact#v[by simp,aY (by unfold Cz2 at c;simp;omega)]
section
variable{prog:aL}{w:aC}{A:aQ}{R:hE->ae->Prop}{I:Addr}{fp wr:List Addr}{GG:Array gY->Array gY->Prop}{n:Nat}{PP:Nat->ab->Prop}{SS:Nat->ae->Prop}
def Q7(W:WalksS prog w A.in1 I fp wr GG n PP SS){S:Addr}{led:Bool}(hSf:S∉fp)(N:A.in1.units<cLine)(L:List (List d?×Addr))(hn:L.length=n)(h8:n<=8)(nd:(L.map dA).Nodup)(hk:∀q∈L,∃x k,q.1=Sum.inr x::k)(far:∀q∈L,q.2∉S::wr)
  (hval:∀i v,PP i v->∃q,L[i]?=Z q/\v=.ref q.2):∀(k i:Nat) (s:ae) (o:Obj) (es:Array (Int×ab)) (ep:Nat) (t:bS),n - i=k->i<=n->SS i s->(∀q∈L,TK prog w s.heap q.1 q.2)->K5 s.heap S (L.take i) led i o es ep t->
   (∀f o es ep t,Moved (S::wr) GG s f->K5 f.heap S L led n o es ep t->R (.ok (.ret .none)) f)->
   cH (model prog w) A (.builtin "set.update.loop" #v[[.ref S,.ref I],[]]) R s:=by
 have hSw:=λz=>hSf ((W).sub _ z);have up:∀b∈wr,b∈S::wr:=λb z=>bb _ z;intro k
 induction k with
 |zero=>
  intro i s o es ep t F hi hst tk x hR;obtain rfl:i=n:=by omega
  refine d6 ie ?_;rw[eJ dY _];refine ah (W.done s _ _ hst λf hm=>?_);rw[gh (by omega)]at x;exact aq (hR f o es ep t (hm.mono up) { x with f?:=hm.heap S _ hSw x.f? })
 |succ k ih=>
  intro i s o es ep t F hi hst tk x hR;have hlt:i<n:=by omega
  refine d6 ie ?_;rw[eJ dY _];refine ah (W.item i s _ _ hlt hst λv f hP hst' hm=>?_);obtain⟨q,eq,rfl⟩:=hval i v hP;have G:=cf eq;have a:=λq M=>(tk q M).fu λo=>hm.heap q.2 o λz=>far q M (up _ z);refine ah (cF ?_);unfold setAdd;refine cF ?_;refine ah (wpAny_pyHash_tuple N (a q G) ?_);obtain⟨m,T,c⟩:=x.c;obtain⟨z,kk,J⟩:=hk q G;have tq:TK prog w f.heap (Sum.inr z::kk) q.2:=by rw[<-J];exact a q G
  have split:L.take (i+1)=L.take i++[q]:=by rw[gu,eq];rfl
  have ne:=λw'=>by have h1:((L.take (i+1)).map dA).Nodup:=nd.sublist ((jO _ _).map _);rw[split,aV,cn]at h1;exact h1.2.2 _ w' _ (br.2 J.symm) O
  have sub:∀r∈L.take i,r∈L:=λr hr=>(jO _ _).subset hr;have u:={ x with f?:=hm.heap S _ hSw x.f? };refine add_n N T c (by omega) (u.fits (by rw[cA];omega)) #v[λr hr=>a r (sub r hr),u.p] tq ne u.f? u.d λh' j P h m' B Q X Y b5 b6 b7=>?_;have y:K5 h' S (L.take (i+1)) led (i+1) { o with data:=.set j h P } j h P:=by refine#v[Q,x.ex,O,#v[m',X,Y],b5.t x.led,λ_=>b6,b7.t ?_];rw[split,aV];exact(List.Perm.cons _ x.p).t (k9 _ _).symm
  refine aq #v[gM dY _,ih (i+1) _ _ _ _ _ (by omega) hlt (W.frame _ f h' _ hst' (iu _ _) λb z o e=>?_) (λr hr=>(a r hr).fu λo e=>?_) y λH o2 E C t2 l x2=>?_]
  .rw[B.2 b (λy:b=S=>hSf (by rw[<-y];exact z))];exact e
  .rw[B.2 r.2 (λy:r.2=S=>far r hr (by rw[y];exact ba))];exact e
  .refine hR H o2 E C t2 (kc W.gtrans ((hm.mono up).then_heap (iu _ _) λb o z e=>?_) l) x2;rw[B.2 b (λy:b=S=>z (by rw[y];exact ba))];exact e
end
theorem K6{b:Type}:∀(l:List b) (j:Nat) (x:b),l[j]?=Z x->(x::l.eraseIdx j).Perm l
 |[],j,x,h=>by cases h
 |a::l,0,x,h=>by cases h;exact .refl _
 |a::l,j+1,x,h=>(List.Perm.swap a x _).t (List.Perm.cons a (K6 l j x h))
theorem Pi{b:Type}(a:Nat->Nat):∀(f k:Nat) (l:List b) (out:Array b),l.length=f->(rV a f k l out).toList.Perm (out.toList++l)
 |0,k,l,out,h=>by obtain rfl:=fK.1 h;rw[bZ];exact .refl _
 |f+1,k,l,out,h=>by have hlt:a k % l.length<l.length:=aM _ (by omega);have e:l[a k % l.length]?=Z l[a k % l.length]:=aP hlt;unfold rV;rw[e];refine(Pi a f (k+1) _ _ (by rw[pB,aj hlt];omega)).t ?_;rw[mI,cc];exact List.Perm.append_left _ (K6 l _ _ e)
def J3{c:Type}(b:Nat->Nat)(a:Array c):(pickOrder b a).toList.Perm a.toList:=Pi b a.size 0 a.toList #[] bR
section
variable{prog:aL}{w:aC}{A:aQ}{E:ab->ae->Prop}{s:ae}
def Xe(hn:n≠0)(h:∀i d,i<n->Q i { s with drawn:=d }):ao (model prog w) A (choose src n) Q E s:=λΓ p hΓ=>by show Sem.wp _ Γ (.choose src n .pure) _ _ p s;rw[Sem.wp_choose];exact#v[hn,h _ _ (aM _ (Nat.pos_of_ne_zero hn))]
theorem Pj{α:Type}:∀(n:Nat) (xs:List α) (s:ae) {Q:List α->ae->Prop},xs.length=n->(∀c d,c.Perm xs->Q c { s with drawn:=d })->ao (model prog w) A (drawOrder n xs) Q E s
 |0,xs,s,Q,b,h=>by obtain rfl:=fK.1 b;unfold drawOrder;exact aq (h [] s.drawn (.refl _))
 |n+1,[],s,Q,b,h=>by cases b
 |n+1,a::xs,s,Q,b,h=>by unfold drawOrder;refine ah (Xe (by simp) λi d hi=>?_);have e:(a::xs)[i]?=Z (a::xs)[i]:=aP hi;rw[e];refine ah (Pj n _ _ (by rw[pB,aj hi];omega) λc f p=>?_);exact aq (h _ f ((List.Perm.cons _ p).t (K6 _ _ _ e)))
end
set_option r "zg next__;Ft iter__" in def ϑ0:Slot "set_iterator" "__ϑ1" "set_iterator.__ϑ1" :=
 .of (owner:="set_iterator") (n:="__ϑ1") (by rw[qP,pj];kernel_rfl) (by decide +kernel) (by decide +kernel) (by decide +kernel)
  (by first|exact .inl (by decide +kernel)|exact .inr (by decide +kernel)) (by rw[j8];kernel_rfl)
def JB:entryFor table "set_iterator.__next__" = Z fD.«set_iterator.__next__»:=entryFor_of_tree (by kernel_rfl)
def MM:Manifest.owners.lookup (String.ofList ['r','o','t','a','r','e','t','i','_','t','e','s'].reverse)=Z Manifest.sig_set_iterator:=by kernel_rfl
def K7(a:ab):argsOk "set_iterator.__next__" #v[[a],[]]:=by unfold argsOk;rw[rJ (id:="set_iterator.__next__") (n:=['_','_','t','x','e','n','_','_']) (o:=['r','o','t','a','r','e','t','i','_','t','e','s']) (by kernel_rfl) MM];kernel_rfl
def K8:entryFor table "set.__iter__" = Z fD.«frozenset.__iter__»:=rj (id':="frozenset.__iter__") (by kernel_rfl) O (by decide +kernel) (by kernel_rfl)
inductive Md(w:aC) (h:Heap) (S TP:Addr) (i:Nat) (ix:List ab) (es:Array (Int×ab)) (ep:Nat) (t:bS):ab->Prop
 |txt {sl:Int} {tk:Tok}:w.params.followText "set-order" = γ->ix=(pickOrder (w.params.setOrder S ep) es).toList.map b8->Md w h S TP i ix es ep t (.int sl tk)
 |drw {ps:List Nat} {vs:Array ab} {ot:Obj} {nt:Nat}:w.params.followText "set-order" = δ->h.get? TP=Z ot->ot.cls=.type "tuple" -> ot.data=.seq vs nt->vs=(ps.map λp:Nat=>rawInt p).toArray->ps.Perm (aB es.size)->ix=ps.filterMap (λp=>es[p]?.map b8)->Md w h S TP i ix es ep t (.ref TP)
 |one {sl:Int}:w.params.followText "set-order" = δ->es.size<=1->t.led=γ->(i=0->sl=0)->(∀j,i=1->t.place=#[j]->sl=(j+1:Nat))->ix=es.toList.map b8->Md w h S TP i ix es ep t (.int sl 0)
structure ItS(w:aC)(I S TP:Addr)(ix:List ab)(o:Obj)(es:Array (Int×ab))(ep:Nat)(t:bS)(i:Nat)(h:Heap):Prop where
 it:∃oi first,h.get? I=Z oi/\oi.cls=.type "set_iterator" /\ oi.data=.fields #[first,.int i 0,.ref S,.int es.size 0,.int ep 0]/\Md w h S TP i ix es ep t first
 f?:h.get? S=Z o
 d:o.data=.set es ep t
 f:t.fits es.size=γ
section
variable{prog:aL}{w:aC}{A:aQ}{E:ab->ae->Prop}{s:ae}{I S TP:Addr}{ix:List ab}{o:Obj}{es:Array (Int×ab)}{ep:Nat}{t:bS}{i:Nat}
def Gs(h:Q (w.params.followText "set-order") s):ao (model prog w) A setsByText Q E s:=by exact ah (mM (aq h))
def Oc(x:ItS w I S TP ix o es ep t i s.heap)(M:Md w s.heap S TP i ix es ep t (.int y P))(H:i<=1\/w.params.followText "set-order" = γ)
  (hQ:∀(v:ab) (u:Nat),ix[i]?=Z v->Md w s.heap S TP (i+1) ix es ep t (.int u 0)->Q (Z (v,u)) s) (hN:ix[i]?=U->Q U s):ao (model prog w) A (setNext S y.toNat i ep) Q E s:=by
 refine ah (dt x.f? x.d x.f ?_);refine ah (Gs ?_);cases M with
 |txt a b=>
  rw[a,aj O];rw[ak (by simp)];refine ah ?_;refine ah (dt x.f? x.d x.f ?_);refine ah (Gs ?_);rw[a,aj O];refine ah (mM ?_);refine aq ?_;refine aq ?_;show Q (sv (λe=>(e.snd,y.toNat)) (pickOrder (w.params.setOrder S ep) es)[i]?) s;have e:ix[i]?=((pickOrder (w.params.setOrder S ep) es)[i]?).map b8:=by rw[b,bq,il]
  cases r:(pickOrder (w.params.setOrder S ep) es)[i]? with
  |none=>rw[r]at e;exact hN e
  |some q=>rw[r]at e;exact hQ q.2 _ e (.txt a b)
 |one a b p C F h=>
  have fs:=by have:=x.f;unfold jh at this;rw[aT,beq_iff_eq]at this;exact this.1
  rw[a,ak (by decide)];rw[ak (λG=>by
   have:(!t.plain&&decide (es.size > 1))=γ:=G;simp at this;omega)]
  refine ah ?_;wp_delta;rw[ak (by rw[p];simp)];refine aq ?_;refine aq ?_;have c:es.size=0\/es.size=1:=by omega
  rcases c with c|c
  .have B:=Array.eq_empty_of_size_eq_zero c;subst B;exact hN (by rw[h];rfl)
  .obtain⟨e,rfl⟩:=pq.1 c;obtain⟨j,l⟩:=pq.1 (fs.t c);rw[l];have J:=H.resolve_right λe=>by rw[a]at e;cases e
   have:i=0\/i=1:=by omega
   rcases this with rfl|rfl
   .rw[C O];show Q (match #[e][d7 #[j] 0]?,#[j][d7 #[j] 0]? with|some (_,x),Z j=>Z (x,j+1)|_,_=>U) s;rw[show d7 #[j] 0=0 from by simp[d7,qh]];exact hQ e.2 (j+1) (by rw[h];rfl) (.one a b p (λz=>by cases z) (λN n m=>by rw[l]at m;cases m;rfl) h)
   .rw[F j O l];show Q (match #[e][d7 #[j] (j+1)]?,#[j][d7 #[j] (j+1)]? with|some (_,x),Z j=>Z (x,j+1)|_,_=>U) s;rw[show d7 #[j] (j+1)=1 from by simp[d7,qh]];exact hN (by rw[h];rfl)
def ItS.ty(x:ItS w I S TP ix o es ep t i s.heap):s.TypeIs (.ref I) "set_iterator" := let #v[#v[c,_,a,b,_],_,_,_]:=x;#v[c,a,b]
def ItS.ordlen(x:ItS w I S TP ix o es ep t i s.heap):ix.length=es.size:=by
 obtain⟨⟨l,first,_,_,_,j⟩,_,_,_⟩:=x;cases j with
 |txt c a=>rw[a,af,(J3 _ es).length_eq,bR]
 |drw c a d e f b h=>rw[h,(b.filterMap _).length_eq];have:=lj es;rw[show (aB es.size).filterMap (λp=>es[p]?.map b8)=((aB es.size).filterMap λp=>es[p]?).map b8 from(pZ ..).symm,this,af,bR]
 |one c a d e f b=>rw[b,af,bR]
theorem TY{b d:Type}(f:b->Option d):∀(a:List b),(∀p∈a,∃v,f p=Z v)->∀i:Nat,(a.filterMap f)[i]?=a[i]?.bind f
 |[],_,i=>rfl
 |p::a,h,i=>by
  obtain⟨v,e⟩:=h p ba;rw[dG,e];cases i with
  |zero=>show Z v=f p;rw[e]
  |succ i=>exact TY f a (λq c=>h q (bb _ c)) i
def Md.mv(m:Md w h S TP i ix es ep t (.int j l)):Md w p S TP i ix es ep t (.int j l):=by
 cases m with
 |txt a b=>exact .txt a b
 |one a b c d e f=>exact .one a b c d e f
def Pk{B:aQ}{R:Fin->ae->Prop}{a:ae}{Q:Option ab->ae->Prop}(c:B.handled=U)(hN:∀h',(∀b o,a.heap.get? b=Z o->h'.get? b=Z o)->Q U { a with heap:=h' }):
  ao (model prog w) B (do let e<-newExc (.type "StopIteration") [];raiseNew e) R (λe d=>ao (model prog w) A (do if<-isInstance e (.type "StopIteration")then pure U else throw e) Q E d) a:=by
 refine ah ?_;simp only[newExc,newTuple];refine ah (cU ?_ (by size_fits));refine ah (wpAny_of_eq (by first|rfl|(simp only[firstArgMember];rfl)) ?_);refine cU ?_ (by size_fits);simp only[raiseNew];refine ah (wpAny_handled ?_);rw[c];refine ah (aq (wpAny_throw ?_));refine ah (qD #v[_,bw _ O,O] isSubtype_stop ?_);exact aq (hN _ λb o e=>aR _ (aR _ e))
def TZ(C:A.handled=U)(x:ItS w I S TP ix o es ep t i s.heap)(hi:i<=ix.length)(hS:S≠I)(hT:TP≠I)
  (hQ:∀v h',ix[i]?=Z v->ee I s.heap h'->ItS w I S TP ix o es ep t (i+1) h'->Q (Z v) { s with heap:=h' }) (hN:∀h',ix[i]?=U->Heap.ExtBut I s.heap h'->Q U { s with heap:=h' }):
  ao (model prog w) A (pyNext (.ref I)) Q E s:=by
 have H:=x.ordlen;obtain⟨G,first,hoi,hci,hdi,hm⟩:=x.it;refine ah (wpAny_attempt (jE x.ty zg (eQ zg x.ty JB ?_ (K7 _))));show ao _ _ (fieldsOf (.ref I)>>=_) _ _ s;refine ah (wpAny_fieldsOf hoi hdi ?_);refine ah ?_;refine ah (dt x.f? x.d x.f ?_);refine aq ?_;rw[ak (by simp)];simp only[gr];have byint:∀(sl:Int) (tk:Tok),first=.int sl tk->(i<=1\/w.params.followText "set-order" = γ)->ao (model prog w) A.in1 (do
   let r<-setNext S sl.toNat i ep
   match r with
    |some (x,next)=>do
     setField (Value.ref I) 0 (rawInt ↑next)
     setField (Value.ref I) 1 (rawInt (↑i+1))
     ret x
    |none=>do
     setField (Value.ref I) 2 Value.none
     let e<-newExc (Value.type "StopIteration") []
     raiseNew e) (λfin z=>∃v,fin=Fin.done (Flow.ret v)/\ao (model prog w) A (pure (Z v)) Q E z) (λe z=>ao (model prog w) A (do if<-isInstance e (.type "StopIteration")then pure U else throw e) Q E z) s:=λsl tk e y=>by
  subst e;refine ah (Oc x hm y (λv nx a m=>?_) λa=>?_)
  .refine ah (iz hoi hdi (by simp) ?_);have g1:=gm (gO (·.setIfInBounds 0 (rawInt (nx:Int)))) hoi (jI (fN hdi _))
   have d1:=fN hdi (·.setIfInBounds 0 (rawInt (nx:Int)))
   refine ah (iz g1 d1 (by simp) ?_);have g2:=gm (gO (·.setIfInBounds 1 (rawInt ((i:Int)+1)))) g1 (jI (fN d1 _))
   have d2:=fN d1 (·.setIfInBounds 1 (rawInt ((i:Int)+1)))
   have h:=(dH s.heap I (gO (·.setIfInBounds 0 (rawInt (nx:Int))))).t (dH _ I (gO (·.setIfInBounds 1 (rawInt ((i:Int)+1)))))
   refine aq #v[v,O,aq (hQ v _ a h #v[#v[_,.int nx 0,g2,(mJ ..).t ((mJ ..).t hci),?_,m.mv],?_,x.d,x.f])]
   .rw[d2];simp[rawInt]
   .rw[h.2 S hS];exact x.f?
  .refine ah (iz hoi hdi (by simp) ?_);exact Pk (by simp[C]) λh' k=>hN h' a λb o hb e=>k b o (by rw[(dH ..).2 b hb];exact e)
 cases hm with
 |txt h1 h2=>exact byint _ _ O (.inr h1)
 |one h1 h2 h3 h4 h5 h6=>exact byint _ _ O (.inl (by omega))
 |@drw ps vs ot nt h1 h2 h3 h4 h5 h6 h7=>
  refine ah (mZ h2 h4 ?_);have B:∀p∈ps,∃v,(es[p]?.map b8)=Z v:=λp F=>by have:=bx.1 (h6.mem_iff.1 F);exact#v[es[p].2,by rw[jB this];rfl]
  have j:ix[i]?=ps[i]?.bind λp=>es[p]?.map b8:=by rw[h7];exact TY _ ps B i
  have a:vs[i]?=ps[i]?.map λp:Nat=>rawInt p:=by rw[h5,jH,bq]
  cases c:ps[i]? with
  |none=>
   rw[c]at a j;dsimp only;rw[a];refine ah (iz hoi hdi (by simp) ?_);have g1:=gm (gO (·.setIfInBounds 0 (rawInt 0))) hoi (jI (fN hdi _))
   have d1:=fN hdi (·.setIfInBounds 0 (rawInt 0))
   refine ah (iz g1 d1 (by simp) ?_);exact Pk (by simp[C]) λh' k=>hN h' j λb o hb e=>k b o (by rw[(dH ..).2 b hb,(dH ..).2 b hb];exact e)
  |some p=>
   rw[c]at a j;obtain⟨v,l⟩:=B p (cf c);dsimp only;rw[a];show ao _ _ (setNextDrawn S (p:Int).toNat ep>>=_) _ _ s;rw[gr];refine ah ?_;refine ah (dt x.f? x.d x.f ?_);dsimp only;rw[ak (by simp)];cases u:es[p]? with
   |none=>rw[u]at l;cases l
   |some q=>
    rw[u]at l;refine aq ?_;refine ah (iz hoi hdi (by simp) ?_);have g1:=gm (gO (·.setIfInBounds 1 (rawInt ((i:Int)+1)))) hoi (jI (fN hdi _))
    have d1:=fN hdi (·.setIfInBounds 1 (rawInt ((i:Int)+1)))
    have h:=dH s.heap I (gO (·.setIfInBounds 1 (rawInt ((i:Int)+1))))
    refine aq #v[_,O,aq (hQ _ _ (by rw[j];show es[p]?.map b8=_;rw[u];rfl) h #v[#v[_,.ref TP,g1,(mJ ..).t hci,?_,.drw h1 (by rw[h.2 TP hT];exact h2) h3 h4 h5 h6 h7],?_,x.d,x.f])]
    .rw[d1];simp[rawInt]
    .rw[h.2 S hS];exact x.f?
end
def JC:entryFor table "set_iterator.__iter__" = Z fD.«dict_keyiterator.__iter__»:=rj (id':="dict_keyiterator.__iter__") (by kernel_rfl) O (by decide +kernel) (by kernel_rfl)
def K9(a:ab):argsOk "set_iterator.__iter__" #v[[a],[]]:=by unfold argsOk;rw[rJ (id:="set_iterator.__iter__") (n:=['_','_','r','e','t','i','_','_']) (o:=['r','o','t','a','r','e','t','i','_','t','e','s']) (by kernel_rfl) MM];kernel_rfl
section
variable{prog:aL}{w:aC}{A:aQ}{E:ab->ae->Prop}{s:ae}{I S TP:Addr}{ix:List ab}{o:Obj}{es:Array (Int×ab)}{ep:Nat}{t:bS}
def Md.at{h':Heap}(m:Md w h S TP i ix es ep t f)(k:∀o,h.get? TP=Z o->h'.get? TP=Z o):Md w h' S TP i ix es ep t f:=by
 cases m with
 |txt a b=>exact .txt a b
 |one a b c d e j=>exact .one a b c d e j
 |drw a b c d e j l=>exact .drw a (k _ b) c d e j l
def ab9(j:A.handled=U)(hS:S≠I)(hT:TP≠I):Walks prog w A I [I,S,TP] [I] ix.length (λi v=>ix[i]?=Z v) (λi h=>ItS w I S TP ix o es ep t i h/\i<=ix.length) where
 sub:=λb hb=>by simp at hb;simp[hb]
 frame:=λi h h' st c=>by obtain⟨⟨⟨l,f,h1,h2,h3,hm⟩,h4,h5,h6⟩,h7⟩:=st;exact#v[#v[#v[l,f,c I (by simp) _ h1,h2,h3,hm.at λo e=>c TP (by simp) o e],c S (by simp) _ h4,h5,h6],h7]
 item:=λi s Q E hi st hQ=>TZ j st.1 st.2 hS hT (λv h' a m x=>hQ v h' s.toks a #v[x,by omega] λb o hb e=>by rw[m.2 b λz=>hb (by simp[z])];exact e) λh' d y=>by rw[aP hi]at d;cases d
 done:=λs Q E st hQ=>TZ j st.1 st.2 hS hT (λv h' a y y=>by rw[gj (aH _)]at a;cases a) λh' y k=>hQ h' s.toks λb o hb e=>k b o (λz=>hb (by simp[z])) e
 self:=λi s Q E st h=>by refine qj st.1.ty Ft (eQ Ft st.1.ty JC ?_ (K9 _));show ao _ _ (ret (.ref I)) _ _ s;exact aq #v[_,O,"set_iterator", _,st.1.ty,zg.lookup,h]
end
end L4
namespace L4
open PySem PySem.Spec PySem.Calls PyProof.Rows PySem.W L2 L3
section
variable{prog:aL}{w:aC}{A:aQ}{E:ab->ae->Prop}{s:ae}
abbrev TkS(k:aE):List d?:=k.map Sum.inr
end
section
variable{X:Cx}{G:Bg}{H:Hp}{pins:cN}{σ:St}{s:ae}
def bt.drw(I:bt X pins σ H s)(d:Drawn):bt X pins σ H { s with drawn:=d }:=#v[I.ok,I.os,I.j0,I.a5,I.A?,I.cell,I.free,I.ke,I.Dv,I.ew,I.len]
def setP{A:aQ}{L:List (aE×Addr)}(I:bt X pins σ H s)(hh:A.handled=U)(hu:A.units+8<cLine)(c:fb X.K H a (L.map λq=>V.ref q.2))(h8:L.length<=8)(nd:(L.map dA).Nodup)
  (N:∀q∈L,∃p r,q.1=[p,r]/\e8 X.K H q.2 [.str p,.str r])
  (h:∀h2 f o es ep t,K5 h2 s.heap.objs.size (L.map λq=>(TkS q.1,q.2)) (!X.w.params.followText "set-order") L.length o es ep t->(∀b o,b<s.heap.objs.size->s.heap.get? b=Z o->h2.get? b=Z o)->Q (.ref s.heap.objs.size) { s with heap:=h2,toks:=f }):
  ao (model X.prog X.w) A (call (.type "set") [.ref a]) Q E s:=by
 have h3:A.in1.in1.in1.handled=U:=by simp[hh]
 obtain⟨d,r,pp,_⟩:=I.list c;obtain⟨o,l,C,n,hd⟩:=pp.isList;have hne:=bg (eO (a9 l));have tk:∀q∈L,TK X.prog X.w s.heap (TkS q.1) q.2:=λq c=>by obtain⟨p,r,e,h1⟩:=N q c;rw[e];exact aea I h1
 have J:=by have:=r.length;rw[af]at this;exact this
 have ev:∀(i:Nat) (v:ab),d[i]?=Z v->∃q,L[i]?=Z q/\v=.ref q.2:=λi v e=>by
  have hi:i<L.length:=by rw[J];exact(cj.1 e).1
  obtain⟨u,j,ru⟩:=r.get (by rw[bq,aP hi];rfl);rw[e]at j;cases j;exact#v[L[i],aP hi,ru]
 have notin:s.heap.objs.size∉[s.heap.objs.size+1,a]:=by
  intro z;rcases aJ.1 z with z|z
  .exact ar z (bg (dM _))
  .exact ar (br.1 z) (gQ (a9 l))
 let PS:=λh2=>∃o es ep t,K5 h2 s.heap.objs.size (L.map λq=>(TkS q.1,q.2)) (!X.w.params.followText "set-order") L.length o es ep t;refine Fi (PS:=PS) l C m6 lE (by decide)
  (λA Q E s1 e k=>ir #v[o,e,C,n,hd] k) (λtk' R hR=>?_) λh2 f #v[o,es,ep,t,x] kk=>h h2 f o es ep t x kk
 have F:∀{b:Addr} {P:Obj},s.heap.get? b=Z P->((s.heap.push (AF (!X.w.params.followText "set-order"))).push { cls:=.type "list_iterator", data:=.fields #[.ref a,.int 0 0] }).get? b=Z P:=λe=>aR _ (aR _ e);have it:((s.heap.push (AF (!X.w.params.followText "set-order"))).push { cls:=.type "list_iterator", data:=.fields #[.ref a,.int 0 0] }).get? (s.heap.objs.size+1)=Z { cls:=.type "list_iterator", data:=.fields #[.ref a,.int 0 0] }:=by rw[show s.heap.objs.size+1=(s.heap.push (AF (!X.w.params.followText "set-order"))).objs.size from(c9 _ _).symm];exact bw _ O
 refine Q7 (led:=!X.w.params.followText "set-order") (jo h3 _ a hne d.toArray).toS notin (by show A.units+1+1+1<cLine;omega) (L.map λq=>(TkS q.1,q.2)) (by rw[af,bf,J]) (by rw[bf];omega) ?_ ?_ ?_ ?_ (d.toArray.size - 0) 0 _ (AF (!X.w.params.followText "set-order")) #[] 0 (.fresh 0 0 (!X.w.params.followText "set-order")) O (bT _) #v[#v[_,it,O,O],#v[o,F l,C,n,hd]] ?_ ?_ λs2 o2 B m t2 mv M=>?_
 .rw[aX,show (dA∘λq:aE×Addr=>(TkS q.1,q.2))=λq=>TkS q.1 from O];have:(L.map λq=>TkS q.1)=(L.map dA).map TkS:=by rw[aX];rfl
  rw[this];exact vd _ (λx y hxy e=>hxy ((List.map_inj_right λ_ _ h=>ka h).1 e)) nd
 .intro q c;obtain⟨r,hr,rfl⟩:=aw.1 c;obtain⟨p,z,e,_⟩:=N r hr;exact#v[p,[.inr z],by show TkS r.1=_;rw[e];rfl]
 .intro q c z;obtain⟨r,hr,rfl⟩:=aw.1 c;obtain⟨ob,_,_,e,_⟩:=tk r hr;have:=a9 e;rcases aJ.1 z with z|z
  .exact ar z (bg this)
  .exact ar (br.1 z) (bg (eO this))
 .intro i v e;rw[jH]at e;obtain⟨q,S,j⟩:=ev i v e;exact#v[(TkS q.1,q.2),by rw[bq,S];rfl,j]
 .intro q c;obtain⟨r,hr,rfl⟩:=aw.1 c;exact(tk r hr).fu λo=>F
 .exact#v[aR _ (bw _ O),#v[O,O,O],O,#v[7,#v[O,O,O],.inl #v[O,by decide]],O,λz=>ar z (by decide),.nil]
 .obtain⟨h2,g2,d2,f,o2'⟩:=s2;have W:=mv.gens;have T:=mv.drawn;have Y:=mv.os;subst W T Y;have el:d.toArray.size=L.length:=by rw[bf,J]
  rw[el]at M;refine hR h2 f #v[o2,B,m,t2,M] λb o hb e=>mv.heap b o (λz=>?_) (F e);rcases aJ.1 z with z|z
  .exact ar z (bg hb)
  .exact ar (br.1 z) (bg (eO hb))
end
section
variable{X:Cx}{G:Bg}{H:Hp}{pins:cN}{σ:St}{s:ae}
theorem Pl:∀{b:bp} {f:List aE} {h:bF},a6 G H b h->zy b=Z f->∃L:List (aE×Addr),h=L.map (λq=>V.ref q.2)/\f=L.map dA/\∀q∈L,∃p r,q.1=[p,r]/\e8 G.K H q.2 [.str p,.str r]
 |[],f,h,r,e=>by cases e;unfold a6 at r;subst r;exact#v[[],O,O,λq o=>by cases o]
 |d::b,f,h,r,e=>by
  unfold zy at e;cases c:Q5 d with
  |none=>rw[c]at e;cases e
  |some k=>
   cases i:zy b with
   |none=>rw[c,i]at e;cases e
   |some t=>
    rw[c,i]at e;cases e;unfold a6 at r;obtain⟨v,x,rfl,u,w⟩:=r;obtain⟨L,rfl,rfl,m⟩:=Pl w i;obtain⟨a,p,q,rfl,rfl,l⟩:=MF u c;refine#v[([p,q],a)::L,O,O,λz j=>?_];rcases aJ.1 j with rfl|j
    .exact#v[p,q,O,l]
    .exact m z j
end
noncomputable abbrev cS(s:Str):FE:=cC (.str s)
noncomputable abbrev a1(e:FE):FA:=ax e vO
section
variable{X:Cx}{G:Bg}{H:Hp}{pins:cN}{σ:St}{s:ae}
def SrcG(K:av)(H:Hp)(a:Addr)(n:Nat):Prop:=SrcO K H a n\/
 ∃L:List (aE×Addr),fb K H a (L.map λq=>V.ref q.2)/\L.length<=8/\(L.map dA).Nodup/\(∀q∈L,∃p r,q.1=[p,r]/\e8 K H q.2 [.str p,.str r])/\n=L.length
def aeq:SetV X SrcG:=by
 intro pins σ H s A E Q a n I c e b h;rcases b with b|⟨L,j,m,u,p,rfl⟩
 .exact aeb I c e b h
 .refine setP I c e j m u p λl q o i f t x r=>h l q #v[o,i,f,t,x.f?,x.ex,x.d,?_,x.fits (af _),x.sz.t (af _)] r;rw[x.sz,af];unfold scanBound;omega
def Gu(a:bp):Option D:=match zy a with
 |some b=>if b.Nodup/\a.length<=8 then Z (.int a.length)else U
 |none=>U
set_option h true
def Q8(hK:X.K=G.K):∀{c d f b a j},Gu c=Z d->fb X.K b a j->a6 G f c j->vS f b->∃n:Nat,SrcG X.K b a n/\d=.int n:=λ{c d f b a j} e i l s=>by
 unfold Gu at e;cases h:zy c with
 |none=>simp only[h]at e;cases e
 |some w=>
  simp only[h]at e;split at e
  .rename_i u;cases e;obtain⟨L,rfl,rfl,t⟩:=Pl l h;have o:=vC l;rw[af]at o;refine#v[_,.inr #v[L,i,by omega,u.1,λq i=>?_,o],O];obtain⟨p,r,e,m⟩:=t q i;rw[<-hK]at m;exact#v[p,r,e,e8.mono s m]
  .cases e
end
set_option h false
section
variable{X:Cx}{B:Bz}{k:Nat}{e:Expr}{f:FE}{p p2 p3 pos:Pos}
def aca [C:Cz X B k][N:Nb B "len"][b:Nb B "set"](i:S1 X e)(h:Gz X "len")(a:Gz X "set")(d:ZE X B e f)(z:aF [Expr.Call (.Name "set" p2) [e] [] p3] X.a4=[(δ,eval (.Call (.Name "set" p2) [e] [] p3) X.a4)]):ZE X B (.Call (.Name "len" p) [.Call (.Name "set" p2) [e] [] p3] [] pos) (c1 (Fj Gu) f):=#v[N4 C.K .inl (Q8 C.K) (QV aeq C.r.units C.c h (C.mg▸N.p) a (C.mg▸b.p) d.p z i)]
end
section
variable{X:Cx}{G:Bg}{C:Addr}{x:Str}{p pos:Pos}{e:Expr}{c:Nat}
structure Mk0(K:av)(C:Addr):Prop where
 O':makesIn K C=γ
 init:findIn K (.ref C) "__init__" = Z (Z (.builtin "object.__init__"))
 kp:keepIn K (.ref C)=γ
def Q9(M:Mk0 X.K C)(l:Gl X x)(m:X.mg x=Z (.ref C))(d:(x==("__debug__" : Str))=δ):PE X (.Call (.Name x p) [] [] pos) (λt H Q=>∀y a,H y=U->H a=U->a≠y->Q (.ref y) (eg (eg H a (.fh y)) y (.k0 C a []))):=by
 intro f s t H Q I h;refine dZ (EX I l m ?_ d);refine ng I.la M.kp ?_;have q:=h (s.heap.objs.size+1) s.heap.objs.size (I.ew.fresh (dw _)) (I.ew.fresh (aH _)) (bg (dM _));have i:=bt.made (C:=C) I;have Y:=nU (M:=model X.prog X.w) I.la M.O';refine kj (Qo I.la M.O' M.init (λself=>Looks.of_pure (oi_bind self)) ?_);have j:((s.heap.push emptyDict).push (instObj C s.heap.objs.size)).get? (s.heap.objs.size+1)=Z (instObj C s.heap.objs.size):=by rw[<-c9 s.heap emptyDict];exact bw _ O
 have r:Looks (model X.prog X.w) ((s.heap.push emptyDict).push (instObj C s.heap.objs.size)) (isInstance (.ref (s.heap.objs.size+1)) (.type "object")) γ:=
  ((Looks.ld j).andThen .now:Looks (model X.prog X.w) _ (typeOf (.ref (s.heap.objs.size+1))) (.ref C)).andThen (Y.top.keeps λb o e=>aR _ (aR _ e))
 refine pz oi_plain entry_oi (check_slot oi_kind oi_split r (oi_args _) ?_);rw[oi_run];exact aq (And.intro rfl #v[V.ref (s.heap.objs.size+1),_,i,rfl,q])
def cNew(c:Nat):FE:=λa=>Z (.obj c [] [],a)
def Rb(h:PE X e (λB H Q=>∀y a,H y=U->H a=U->a≠y->Q (.ref y) (eg (eg H a (.fh y)) y (.k0 (G.ca c) a [])))):PE X e (tF G (cNew c)):=PE.b4 h λB H Q u=>by
 obtain⟨F,I,E,d,A,R,e,k⟩:=u;cases e;intro x a f hdx w;have j:(eg H a (.fh x)) x=U:=by rw[vH (λz=>w z.symm)];exact f
 have m:vS H (eg (eg H a (.fh x)) x (.k0 (G.ca c) a [])):=(vK hdx _).t (vK j _);have R2:=R.f5 m (λs s e=>e) (R.sub.t m) (λb o e=>.inl e);have l:=R.ef f;have q:=R2.qq vE l (R.fm f) (λi t r to z=>R.apart f i t r to z);refine k _ _ _ (vK l _) q ?_;unfold cb;exact#v[x,a,[],O,vE,O,wj]
end
section
variable{X:Cx}{B:Bz}{k:Nat}{p pos:Pos}{x:Str}{c:Nat}
class K0f(B:Bz)(x:Str)(c:Nat):Prop where p:Mk0 B.G.K (B.G.ca c)/\B.mg x=Z (.ref (B.G.ca c))
def acd [C:Cz X B k][Q:K0f B x c](a:Gz X x)(hd:(x==("__debug__" : Str))=δ):ZE X B (.Call (.Name x p) [] [] pos) (cNew c):=#v[Rb (Q9 (by rw[C.K];exact Q.p.1) a (by rw[C.mg];exact Q.p.2) hd)]
end
end L4
namespace L4
open PySem PySem.Spec PyProof.Rows L2 L3
section
variable{X:Cx}{B:Bz}{k j i m:Nat}{x:Str}{e e':Expr}{es:List Expr}{d:D}{p pos:Pos}{g:D->D->Option D}
def aer:ZB X B l QR:=#v[λa s f H D I h=>by
 obtain⟨F,c,b,o,R,e,_⟩:=h;cases e]
end
theorem Cg.mono(M:Cg G P w i a5 j m c h)(e:gZ j k=γ):Cg G P w i a5 k m c h:=by obtain⟨f,d,l,a,b,c,F⟩:=M;exact#v[f,d,l,a,b,c,F.mono (gV.mp e)]
end L4
namespace HT
open PySem PySem.Spec PyProof.Rows
section
variable{prog:aL}{w:aC}{A:aQ}{E:ab->ae->Prop}{s:ae}
def Ea{lo:Option Int}(a:fF s.heap t items)(c:s.heap.IsSliceOf e i j .none)(pl:eG i lo)(f:eG j b)
  (d:e? items.size 0 lo=0/\e? items.size items.size b=items.size)
  (h:Q (.ref t) s):ao (model prog w) A (getItem (.ref t) (.ref e)) Q E s:=by
 obtain⟨os,hos,hcs,hds⟩:=id c;have hTs:s.TypeIs (.ref e) "slice" := #v[os,hos,hcs];unfold getItem
 try with_reducible refine cF ?_
 first|refine ah (aq ?_)|skip
 refine ah (mC a.typeIs (by decide) ?_);refine ah (jE (name:=jj "__getitem__") a.typeIs dX
  (eQ dX a.typeIs lK ?_ (l5 _ _)))
 show ao _ _ (k7 (.ref t)>>=_) _ _ s;refine ah (ni a ?_);refine ah (gR hTs ?_);rw[aj (by decide)];refine ah (BO c pl f ?_);have hno:((((e? items.size 0 lo:Nat):Int)==0&&(1:Int)==1&&(e? items.size items.size b - e? items.size 0 lo)==items.size)=γ):=by rw[d.1,d.2];simp
 show ao _ _ (if (((e? items.size 0 lo:Nat):Int)==0&&(1:Int)==1&&(e? items.size items.size b - e? items.size 0 lo)==items.size)=γ then _ else _) _ _ s;rw[aj hno];refine ah (ah (gR a.typeIs (aq ?_)));rw[aj (by decide)];exact ah (gW (aq #v[_,O,aq h]))
end
end HT
namespace L2
open PySem PySem.Spec PyProof.Rows
section
variable{X:Cx}
def rSlU(K:av):V->Option Int->Option Int->Hp->VK->Prop:=λx lo c H Q=>∃a b,x=.ref a/\e8 K H a b/\
 ((HT.e? b.length 0 lo=0/\HT.e? b.length b.length c=b.length)->Q (.ref a) H)/\(¬(HT.e? b.length 0 lo=0/\HT.e? b.length b.length c=b.length)->∀p,H p=U->Q (.ref p) (eg H p (.a7 (Kt b lo c))))
def Xf:SlR X (rSlU X.K):=by
 intro d s z H x v w y lo i u Q I p j pl o h;obtain⟨a,b,rfl,m,q,t⟩:=h;by_cases e:HT.e? b.length 0 lo=0/\HT.e? b.length b.length i=b.length
 .cases p;obtain⟨f,r,l,A⟩:=I.tuple m;have c:f.toArray.size=b.length:=by rw[bf];exact r.length.symm
  exact#v["tuple", _,dX.lookup,l.typeIs,HT.Ea l j pl o (by rw[c];exact e) #v[.ref a,H,I,O,q e]]
 .exact RZ d s z H _ v w y lo i u Q I p j pl o #v[a,b,O,m,e,t e]
inductive T2(K:av) (x:V) (y:V) (H:Hp) (Q:VK):Prop
 |i (a b xs ys) (h0:x=.ref a) (h1:y=.ref b) (h2:e8 K H a xs) (h3:e8 K H b ys) (h4:xs.length+ys.length<=aI) (h5:(xs=[]->Q (.ref b) H)) (h6:(ys=[]->Q (.ref a) H)) (h7:∀p,H p=U->Q (.ref p) (eg H p (.a7 (xs++ys)))):T2 K x y H Q
def aes(K:av):R2:=λx y H Q=>T2 K x y H Q
def Xg:gi X (cG .Add) (aes X.K):=by
 intro i s T H x y v u Q I w z h;obtain⟨a,b,A,S,rfl,rfl,p,q,E,J,M,N⟩:=h;by_cases l:A=[]
 .cases w;cases z;obtain⟨m,P,G,_⟩:=I.tuple p;obtain⟨f,W,p2,_⟩:=I.tuple q;have C:=P.sh.2 l;obtain⟨⟨cls,B,data,R⟩,t,r,n,hd⟩:=id G;obtain⟨⟨cls2,j,data2,o⟩,e,c,F,d⟩:=id p2;simp only at r hd c d;subst r hd c d;exact nL #v[_,t,O] #v[_,e,O] mK nh mL mB (l4 _ _)
   (tuple_addW0 _ _ m.toArray f.toArray n F B j R o (by simp[C])) #v[t,e,#v[.ref b,H,I,O,J l]]
 .exact OQ i s T H _ _ v u Q I w z #v[a,b,A,S,O,O,p,q,l,E,M,λ_=>N]
end
end L2
namespace L4
open PySem PySem.Spec PyProof.Rows L2 L3
section
variable{X:Cx}{G:Bg}
def BV(f:FE)(lo e:FO):FE:=λi=>match f i with
 |some (.a7 d,a)=>match lo a with
  |some (l,b)=>match e b with
   |some (h,c)=>Z (.a7 (fg d l h),c)
   |none=>U
  |none=>U
 |_=>U
set_option h true
def Re{lo:FO}(h:PE X e (tSl (rSlU G.K) (tF G f) (tFO G lo) (tFO G W))):PE X e (tF G (BV f lo W)):=PE.b4 h λσ H Q T=>by
 obtain⟨F,ρ,y,d,ρ',R,e,k⟩:=T;unfold BV at e;split at e
 .rename_i u t J;split at e
  .rename_i l c M;split at e
   .rename_i x ρ3 N;cases e;refine#v[F,ρ,y,_,_,R,J,λv z A s I r=>#v[F,t,z,l,c,I,M,λB C o R2=>#v[F,c,B,x,_,R2,N,λH3 E q b=>?_]]];have m:=cb.mono (o.t q) _ _ r;have Y:=m;unfold cb at m;obtain⟨a,ys,rfl,S,w⟩:=m;refine#v[a,ys,O,e8.mono b.sub S,λj=>?_,λn p i=>k _ _ _ ((s.t (o.t q)).t (vK (b.ef i) _)) (b.rh i _) (A9 (e8.of vE) (a6.mono (vK (b.ef i) _) _ _ (Fe w)))];have P:fg u l x=u:=by unfold fg;rw[<-vC w]at j;rw[j.1,j.2];simp
    rw[P]at k;exact k _ _ _ (s.t (o.t q)) b Y
   .cases e
  .cases e
 .cases e
set_option h false
def sl_U(hK:autoParam (X.K=G.K) zA0._auto_1):SlR X (rSlU G.K):=by rw[<-hK];exact Xf
def G8(f g:FE):FE:=λe=>match f e with
 |some (.a7 c,a)=>match g a with
  |some (.a7 d,b)=>if c.length+d.length<=900 then Z (.a7 (c++d),b)else U
  |_=>U
 |_=>U
set_option h true
def Xh(W:PE X a (tF G f))(Y:PE X b (tF G g))(hK:autoParam (X.K=G.K) zA0._auto_1):PE X (.BinOp a .Add b pos) (tF G (G8 f g)):=PE.b4 (OI Xg W Y) λσ H Q hh=>by
 rw[hK];obtain⟨F,ρ,y,d,ρ',R,e,k⟩:=hh;unfold G8 at e;split at e
 .rename_i xs c J;split at e
  .rename_i ys ρ2 M;split at e
   .rename_i hl;cases e;refine#v[F,ρ,y,_,c,R,J,λv A B s E r=>#v[F,c,A,_,_,E,M,λu H2 C h R2 o=>?_]];have m:=cb.mono h _ _ r;have r0:=m;have r3:=o;unfold cb at m o;obtain⟨a1,q,rfl,S,w⟩:=m;obtain⟨I,t,rfl,T,x⟩:=o;have j:=vC w;have l:=vC x;refine#v[a1,I,q,t,O,O,e8.mono R2.sub S,e8.mono R2.sub T,by rw[<-j,<- l];exact yn (by omega),λz=>?_,λz=>?_,λp i=>?_]
    .have N:xs=[]:=by rw[z]at j;exact fK.1 j
     subst N;exact k _ _ _ (s.t h) R2 r3
    .have P:ys=[]:=by rw[z]at l;exact fK.1 l
     subst P;rw[bZ]at k;exact k _ _ _ (s.t h) R2 r0
    .exact k _ _ _ ((s.t h).t (vK (R2.ef i) _)) (R2.rh i _) (A9 (e8.of vE) (a6.mono (vK (R2.ef i) _) _ _ (xp w x)))
   .cases e
  .cases e
 .cases e
end
set_option h false
section
variable{X:Cx}{B:Bz}{k j:Nat}{x:Str}{e e':Expr}{es:List Expr}{f f':FE}{a n:FA}{p pos:Pos}{g:bp->bp->Option (D×bp)}
def acf{lo:Option Expr}{fl:FO}[C:Cz X B k](c:ZE X B e f)(i:ZO X B lo fl)(d:ZO X B h b):ZE X B (.Subscript e (.Slice lo h U p) pos) (BV f fl b):=#v[Re (E3 (sl_U C.K) c.p i.p d.p)]
def acg [C:Cz X B k](b:ZE X B e f)(c:ZE X B e' f'):ZE X B (.BinOp e .Add e' pos) (G8 f f'):=#v[Xh b.p c.p C.K]
end
mutual
def aet:D->Bool
 |.O=>γ
 |.X _=>γ
 |.int _=>γ
 |.str _=>γ
 |.a7 a=>Od a
 |.a3 a=>Od a
 |_=>δ
def Od:bp->Bool
 |[]=>γ
 |d::a=>aet d&&Od a
end
section
variable{t:bS}{m n:Nat}
def tM(m:Nat):bS:=#v[m,#[],#[],0,δ,0,δ]
def Wy(m:Nat)(a:Nat->Prop)(j:Nat):Nat->fS->Prop
 |0,_=>False
 |f+1,p=>p.j=j\/(a p.j/\Wy m a j f ((tM m).advance p))
end
section
variable{κ α:Type}[DecidableEq κ]
def tX(l:List κ):List κ:=l.foldl (λacc k=>if k∈acc then acc else acc++[k]) []
set_option h true
theorem HI:∀(l acc:List κ),acc.Nodup->(l.foldl (λacc k=>if k∈acc then acc else acc++[k]) acc).Nodup/\∀x,x∈l.foldl (λacc k=>if k∈acc then acc else acc++[k]) acc ↔ x∈acc\/x∈l
 |[],acc,h=>#v[h,λx=>#v[.inl,λh=>h.resolve_right (by simp)]]
 |k::l,acc,h=>by
  rw[jf];split
  .rename_i f;obtain⟨c,d⟩:=HI l acc h;refine#v[c,λx=>(d x).t #v[λh=>h.imp id (bb _),λh=>?_]];rcases h with h|h
   .exact .inl h
   .rcases aJ.1 h with rfl|h
    .exact .inl f
    .exact .inr h
  .rename_i f;obtain⟨c,d⟩:=HI l (acc++[k]) (cn.2 #v[h,dO.2 #v[bU,.nil],λa i b j e=>f (by rw[<-br.1 j,<- e];exact i)]);refine#v[c,λx=>(d x).t ?_];rw[aW,br,aJ,or_assoc]
set_option h false
def T4(l:List κ):(tX l).Nodup:=(HI l [] .nil).1
def Pm{l:List κ}{x:κ}:x∈tX l ↔ x∈l:=((HI l [] .nil).2 x).t #v[λh=>h.resolve_left (by simp),.inr]
end
end L4
namespace L4
open PySem PySem.Spec PySem.Calls PyProof.Rows PySem.W L2 L3
section
variable{prog:aL}{w:aC}{A:aQ}{E:ab->ae->Prop}{s:ae}
theorem Rf(h:Q 0xFCA86420 { s with toks:=s.toks+1 }):ao (model prog w) A (pyHash .none) Q E s:=by
 refine ah ?_;rw[cRoomFor,ak (by rw[show [Value.none].any Value.onHeap=δ from O];exact bG)];refine aq ?_;refine ah (je (kg s) jJ.lookup ?_);rw[ak (by rw[beq_builtin_none];exact bG)];refine ah (je (kg s) jJ.lookup ?_);refine ah (wpAny_callSpecialIfBoundUnlessNone?_slot (kg s) jJ
  (eQ jJ (kg s) F.entry_NoneType_hash
   (show ao _ _ (do ret (<-mkInt 0xFCA86420)) _ _ s from wpAny_ret_mkInt ?_) (F.args_NoneType_hash_1 _)))
 exact aq h
def Xj(h:Q γ s):ao (model prog w) A (eqBool .none .none) Q E s:=by refine cF ?_;rw[aj (show (Value.none==Value.none)=γ from O)];exact ah (gW (aq h))
def oIs:Option d?->ab->Bool
 |none,.none=>γ
 |none,_=>δ
 |some k,v=>HL k v
def Au(h:oIs k v=γ):(k=U/\v=.none)\/(∃i t,k=Z (Sum.inl i)/\v=Value.int i t)\/∃x t,k=Z (Sum.inr x)/\v=Value.str x t:=by
 cases k with
 |none=>cases v<;>first|exact .inl #v[O,O]|cases h
 |some k=>
  rcases wX h with ⟨i,t,rfl,rfl⟩|⟨x,t,rfl,rfl⟩
  .exact .inr (.inl #v[i,t,O,O])
  .exact .inr (.inr #v[x,t,O,O])
def Ms(prog:aL)(w:aC):rp prog w (Option d?) where
 is:=oIs
 hash:=λk=>match k with|none=>0xFCA86420|some k=>keyH w k
 inj:=λv a b ha hb=>by rcases Au ha with ⟨rfl,rfl⟩|⟨i,t,rfl,rfl⟩|⟨x,t,rfl,rfl⟩<;>rcases Au hb with ⟨rfl,e⟩|⟨j,u,rfl,e⟩|⟨y,u,rfl,e⟩<;>first|rfl|(cases e;rfl)|cases e
 byValue:=λk v h=>by rcases Au h with ⟨rfl,rfl⟩|⟨i,t,rfl,rfl⟩|⟨x,t,rfl,rfl⟩<;>rfl
 pyHash:=λ{A E s k v Q} c h=>by
  cases k with
  |some k=>exact(vU prog w).pyHash (k:=k) c h
  |none=>
   rcases Au c with ⟨_,rfl⟩|⟨i,t,e,_⟩|⟨x,t,e,_⟩
   .exact Rf h
   .cases e
   .cases e
 eqBool:=λ{A E s a b u v Q} d c h=>by
  rcases Au d with ⟨rfl,rfl⟩|⟨i,t,rfl,rfl⟩|⟨x,t,rfl,rfl⟩<;>rcases Au c with ⟨rfl,rfl⟩|⟨j,u,rfl,rfl⟩|⟨y,u,rfl,rfl⟩
  .exact Xj h
  .exact pF j u _ _ _ _ h
  .exact pG y u _ _ _ _ h
  .exact pH i t _ _ _ _ h
  .exact(vU prog w).eqBool (a:=Sum.inl i) (b:=Sum.inl j) d c (by simpa using h)
  .exact(vU prog w).eqBool (a:=Sum.inl i) (b:=Sum.inr y) d c (by simpa using h)
  .exact pI x t _ _ _ _ h
  .exact(vU prog w).eqBool (a:=Sum.inr x) (b:=Sum.inl j) d c (by simpa using h)
  .exact(vU prog w).eqBool (a:=Sum.inr x) (b:=Sum.inr y) d c (by simpa using h)
 «strs»:=λk x t v h=>by
  cases k with
  |none=>cases h
  |some k=>exact(vU prog w).strs k x t v h
def Xk{h:Heap}(m:h.MapOf (vU prog w) a f):h.MapOf (Ms prog w) a (λk=>match k with|none=>U|some k=>f k):=by
 obtain⟨o,p,l,q,r,u,j,y⟩:=m;refine#v[o,p,l,q,r,u,λe b=>?_,λk=>?_]
 .obtain⟨k,c,z⟩:=j e b;exact#v[Z k,c,z]
 .cases k with
  |some k=>exact y k
  |none=>
   unfold findBy;rw[Array.find?_eq_none.2 λe b=>?_]
   .rfl
   .obtain⟨k,c,_⟩:=j e b;rcases wX c with ⟨i,t,_,d⟩|⟨x,t,_,d⟩<;>(rw[d];exact bG)
end
section
variable{X:Cx}{G:Bg}{H:Hp}{pins:cN}{σ:St}{s:ae}
def ach(I:bt X pins σ H s)(e:Rd H a (.dK kvs))(h:∀c,bt X pins σ H c->Q .none c):ao (model X.prog X.w) A (call (.builtin "dict.get") [.ref a,.none]) Q E s:=by obtain⟨z,hd,d,rel,b⟩:=GU I.ew e;exact iG fQ b.typeIs jc (mE _ _) (qY (Ms X.prog X.w) a (k:=U) O hd) #v[_,Xk b.mapOf,h _ (I.rl _)]
def aci(d ty:TE):TE:=λσ H Q=>d σ H λx c=>∃a,x=.ref a/\IsD c a/\ty σ c λy b=>(∃o,pa b a y o/\Q (o.getD .O) b)\/(y=.O/\(∃kvs,Rd b a (.dK kvs))/\Q .O b)
def T5(B:X.A.units+1<cLine)(z:PE X o R)(w:PE X e ty)(m:M1 X o "get" apos e cpos):PE X (.Call (.Attribute o "get" apos) [e] [] cpos) (aci R ty):=by
 intro pins s σ H Q I h;refine jQ m.a5 m.few m.line jR fQ mS (e0 (z pins s σ H _ I h) λu J c=>?_);obtain⟨x,r,l,F,a,t,d,E⟩:=c;subst t;obtain rfl:u=Value.ref a:=F;obtain⟨N,P,_⟩:=KE l d;refine#v[N,P,?_];rw[m.Fs];refine ig O (ip (eK (e0 (w pins J σ r _ l E) λC T c=>gq ?_)));obtain⟨y,j,p,q,⟨S,g,f⟩|⟨rfl,⟨kvs,e⟩,f⟩⟩:=c
 .exact Sd B p g q λW M b i=>#v[_,j,b,i,f]
 .obtain rfl:C=.none:=q;exact ach p e λM b=>#v[.O,j,b,O,f]
def MN:D->D->Option D:=λx y=>match y with
 |.O=>match x with
  |.Y _ _=>Z .O
  |_=>U
 |y=>Dh x y
def T6(hu:X.A.units+1<cLine)(ha:PE X a (tF G f))(hb:PE X b (tF G f'))(m:M1 X a "get" apos b cpos):PE X (.Call (.Attribute a "get" apos) [b] [] cpos) (tF G (c2 MN f f')):=PE.b4 (T5 hu ha hb m) λσ H Q hh=>by
 obtain⟨F,ρ,P,d,C,R,e,k⟩:=hh;obtain⟨x,y,l,Y,e2,c⟩:=E8 e;cases x with
 |Y M W=>
  refine#v[F,ρ,P,_,l,R,Y,λv S T B E r1=>?_];have t:=r1;obtain⟨p,ob,xs,rfl,r,h2,h3⟩:=t;refine#v[p,O,.inl #v[_,.inr #v[_,E.sub _ _ r]],F,l,S,y,C,E,e2,λu o h i R2 N=>?_];by_cases J:y=.O
  .subst J;cases c;subst N;exact .inr #v[O,#v[_,.inr #v[_,R2.sub _ _ (i _ _ r)]],k _ o h (B.t i) R2 Ad]
  .left;have c:=by
    unfold MN at c;split at c
    .exact ar O J
    .exact c
   unfold Dh at c;cases q:BS y with
   |none=>simp only[q]at c;cases c
   |some j=>
    simp only[q]at c;cases c;have lv:=DB j (a6.mono i _ _ h3) h2;refine#v[za (M.zip xs) j,?_,?_]
    .rw[Cj N q];exact pa.kf (R2.sub _ _ (i _ _ r))
    .cases I:xj M W j with
     |none=>rw[I]at lv k;rw[lv];exact k _ o h (B.t i) R2 Ad
     |some z=>rw[I]at lv k;obtain⟨w,w1,w2⟩:=lv;rw[w1];exact k _ o h (B.t i) R2 w2
 |_=>
  unfold MN at c;split at c
  .cases c
  .unfold Dh at c;cases c
end
section
variable{X:Cx}{B:Bz}{k:Nat}{e e':Expr}{f f':FE}{apos pos:Pos}
def acj [C:Cz X B k](d:ZE X B e f)(h:ZE X B e' f')(b:Az X e "get")(c:Ez apos pos)(a:S1 X e'):ZE X B (.Call (.Attribute e "get" apos) [e'] [] pos) (c2 MN f f'):=#v[T6 (LZ C.r) d.p h.p #v[b,by rw[a];rfl,c,by rw[a];rfl]]
end
section
variable{X:Cx}{G:Bg}
def dStrI:D->Option D
 |.int i=>if i.natAbs.log2<1920 then Z (.str (toString i))else U
 |_=>U
def iR2(f c:FE):FA:=λd=>match f d with
 |some (.int i,a)=>match c a with
  |some (.int j,b)=>if (-1000000<=i/\i<=1000000)/\-1000000<=j/\j<=1000000 then Z (Im i (j - i).toNat,b)else U
  |_=>U
 |_=>U
set_option h true
def L?(h:PI X u e (X8 (q? G (ax f (ax r vO))))):PI X u e (M? G (iR2 f r)):=PI.b4 h λN H R t=>by
 obtain⟨F,w,l,B,x,R,e,k⟩:=t;unfold iR2 at e;split at e
 .rename_i i y p;split at e
  .rename_i j z q;split at e
   .rename_i C;cases e;refine#v[F,w,l,[.int i,.int j],_,R,by unfold ax;rw[p];simp only[q];rfl,λM A m s o rs=>?_];unfold a6 at rs;obtain⟨v,E,rfl,d,c⟩:=rs;unfold a6 at c;obtain⟨J,I,rfl,b,a⟩:=c;unfold a6 at a;subst a;unfold cb at d b;subst d b;refine#v[i,j,O,#v[by omega,by omega,by omega,by omega],?_];exact k _ _ _ s o Mi
   .cases e
  .cases e
 .cases e
end
set_option h false
section
variable{X:Cx}{B:Bz}{k:Nat}{e e' tg:Expr}{f f':FE}{p p2 p3 pos apos:Pos}
def zr_r2I [C:Cz X B k][N:Nb B "range"](h:Gz X "range")(b:aF [e,e'] X.a4=[(δ,eval e X.a4),(δ,eval e' X.a4)])(a:S1 X e')(c:ZE X B e f)(d:ZE X B e' f'):ZI X B tg (.Call (.Name "range" p) [e,e'] [] pos) (iR2 f f'):=#v[L? (Qk h (C.mg▸N.p) (xy c.p (xy d.p yB a) (by rw[b,a])) b a)]
end
def θ(t a:Ty->Option Bool):Ty->Option Bool:=λy=>match t y with
 |some γ=>match a y with
  |some _=>Z γ
  |none=>U
 |some δ=>a y
 |none=>U
def N2{c c':Ty}(h:∀y b,t y=Z b->cJ G.K (y.val G) (c.val G)=Z b)(i:∀y b,f y=Z b->cJ G.K (y.val G) (c'.val G)=Z b)(l:∀j b,t (.c j)=Z b->Jw G.K (G.ca j)):O7 G [c,c'] (θ t f):=by
 refine#v[λy b e=>?_,λj b e=>?_]
 .unfold θ at e;show kitAny G.K (y.val G) [c.val G,c'.val G]=Z b;unfold kitAny;cases a:t y with
  |none=>simp only[a]at e;cases e
  |some v=>
   simp only[a]at e;rw[h y v a];cases v with
   |true=>
    cases d:f y with
    |none=>simp only[d]at e;cases e
    |some w=>simp only[d]at e;cases e;rfl
   |false=>simp only at e;unfold kitAny;simp only;rw[i y b e];cases b<;>rfl
 .unfold θ at e;cases a:t (.c j)with
  |none=>simp only[a]at e;cases e
  |some v=>exact l j v a
section
variable{X:Cx}{B:Bz}{k:Nat}{e:Expr}{f:FE}{p p2 p3 p4 pos:Pos}{x y:Str}
def zr_i2I{h}[Q:Ic B x t][q:Ic B y F][C:Cz X B k][N:Nb B "isinstance"](w:Gz X "isinstance")(u:Gz X x)(j:Gz X y)(m:aF [e,.Tuple [.Name x p2,.Name y p3] h p4] X.a4=[(δ,eval e X.a4),(δ,eval (.Tuple [.Name x p2,.Name y p3] h p4) X.a4)])(a:S1 X (.Tuple [.Name x p2,.Name y p3] h p4))(l:aF [.Name x p2,.Name y p3] X.a4=[(δ,eval (.Name x p2) X.a4),(δ,eval (.Name y p3) X.a4)])(b:S1 X (.Name y p3))(r:ZE X B e f)(hd:Dz x)(i:Dz y):ZE X B (.Call (.Name "isinstance" p) [e,.Tuple [.Name x p2,.Name y p3] h p4] [] pos) (c1 (wI (θ t F)) f):=by
 obtain⟨c,o,z⟩:=Q.p;obtain⟨d,A,E⟩:=q.p;refine#v[Mq (cs:=[.c c,.c d]) (Do (IA (N2 (c:=.c c) (c':=.c d) o.1 A.1 o.2) C.K) w (C.mg▸N.p) j4 (xA r.p (xA (NB (xA (HB (v:=.ref (B.G.ca c)) u (C.mg▸z) O hd) (xA (HB (v:=.ref (B.G.ca d)) j (C.mg▸E) O i) zz b) ?_)) zz a) ?_) (by decide) (by decide) ?_ ?_) (by show 2<=1000;decide)]
 .rw[l,b]
 .rw[m,a]
 .rw[m,a]
 .rw[a];rfl
end
section
variable{P:aL}{w:aC}{mg:Str->Option ab}{a5:Heap}{G:Bg}{x:Str}
def GX(K:av)(x s:Str):Prop:=∃t:Tok,nsIn K bL x=Z (Z (.str s t))
def P?(X:G.K.In h)(a:h.Ns bL mg)(e:nsIn G.K bL x=Z (Z (.str z t))):Ba G mg x (.str z):=
 #v[.str z,_,js X a e,#v[_,O],λy=>Ac _]
def Yw.cx(y:Yw P w mg a5 G)(q:GX G.K x s):Ba G mg x (.str s):=by obtain⟨h,X,a⟩:=y.m;obtain⟨t,e⟩:=q;exact P? X a e
end
section
variable{X:Cx}{G:Bg}
theorem Dx{K:av}:∀{l:List L3.Dq} {f:bF} {c:List ab},L3.a6 K H l f->cm f c->(∀u∈c,∃e∈l,∃x,L3.cb K H e x/\dd x u)/\∀e∈l,∃u∈c,∃x,L3.cb K H e x/\dd x u
 |[],f,c,r,v=>by unfold L3.a6 at r;subst r;cases v;exact#v[λu b=>(by cases b),λe a=>(by cases a)]
 |d::l,f,c,r,v=>by
  unfold L3.a6 at r;obtain⟨x,q,rfl,h,j⟩:=r;cases v with
  |cons i p=>
   obtain⟨m,o⟩:=Dx j p;refine#v[λu b=>?_,λe a=>?_]
   .rcases aJ.1 b with rfl|b
    .exact#v[d,ba,x,h,i]
    .obtain⟨e,a,z⟩:=m u b;exact#v[e,bb _ a,z]
   .rcases aJ.1 a with rfl|a
    .exact#v[_,ba,x,h,i]
    .obtain⟨u,b,z⟩:=o e a;exact#v[u,bb _ b,z]
end
section
variable{X:Cx}{B:Bz}{k i:Nat}{e:Expr}{f:FE}{a:FA}{x:Str}{p p2 p3 pos apos:Pos}
def zr_xeI [C:Cz X B k](h:vr X i x=γ)(d:Az X (.Name x p) "extend")(j:Ez apos pos)(b:S1 X e)(c:ZN X B e a):ZE X B (.Call (.Attribute (.Name x p) "extend" apos) [e] [] pos) (Ii i a):=
 #v[QH (bmI d j b ja jM pY Qu (O? h) (xA c.p zz b))]
end
def sOf:ab->Str
 |.str x _=>x
 |_=>""
structure ij(w:aC)(h:Heap)(S:Addr)(ss:aE)(led:Bool)(o:Obj)(es:Array (Int×ab))(ep:Nat)(t:bS):Prop where
 f?:h.get? S=Z o
 ex:o.ExactSet
 d:o.data=.set es ep t
 f:t.fits es.size=γ
 led:t.led=led
 pl:0<ss.length->t.plain=δ
 el:∀e∈es.toList,∃x tk,e=(hashStr w x,Value.str x tk)
 p:(es.toList.map λe=>sOf e.2).Perm ss
def ij.sz{w:aC}{h:Heap}{S:Addr}{a:aE}{led:Bool}{o:Obj}{es:Array (Int×ab)}{ep:Nat}{t:bS}(x:ij w h S a led o es ep t):es.size=a.length:=by have:=x.p.length_eq;rw[af,bR]at this;exact this
set_option h true
def lay_led(t:bS)(a:Array (Int×ab))(h:Int)(x:ab):(layNew t a h x).2.1.led=t.led/\(t.plain=δ->(layNew t a h x).2.1.plain=δ):=by
 unfold layNew;split
 .rename_i b c e;show ((t.put b).1.orStandIn _).led=_/\(_->((t.put b).1.orStandIn _).plain=δ);unfold SetTable.orStandIn;split
  .exact#v[O,id]
  .exact#v[O,λy=>O]
 .exact#v[O,λy=>O]
def P0(t:bS)(a:Array (Int×ab))(n:Nat):(relayAll t a n).2.1.led=t.led/\(t.plain=δ->(relayAll t a n).2.1.plain=δ):=by
 unfold relayAll;split
 .rename_i c order e;obtain⟨b,_,e⟩:=Option.bind_eq_some_iff.1 e;cases e;dsimp only;split
  .exact#v[O,id]
  .exact#v[O,λy=>O]
 .exact#v[O,λy=>O]
section
variable{prog:aL}{w:aC}{A:aQ}{E:ab->ae->Prop}{s:ae}{S:Addr}{o:Obj}{es:Array (Int×ab)}{ep:Nat}{t:bS}{ss:aE}{led:Bool}
set_option h false
def ij.elems(x:ij w s.heap S ss led o es ep t):ElemsOf (fo prog w) es.toList:=λe a=>by obtain⟨z,b,rfl⟩:=x.el e a;exact#v[#v[z,by simp[fo,iA],O],O]
def ij.mem(x:ij w s.heap S ss led o es ep t)(z:Str):z∈ss ↔ ∃e∈es.toList,(fo prog w).is z e.2=γ:=by
 rw[<-x.p.mem_iff,aw];constructor
 .rintro⟨e,a,rfl⟩;obtain⟨y,b,rfl⟩:=x.el e a;exact#v[_,a,by simp[fo,iA,sOf]]
 .rintro⟨e,a,h⟩;obtain⟨y,b,rfl⟩:=x.el e a;exact#v[_,a,by simpa [fo,iA,sOf]using h]
def ij.stored(x:ij w s.heap S ss led o es ep t){a:Array (Int×ab)}{c:bS}{b:aE}(f:c.fits a.size=γ)(l:c.led=led)(pl:0<b.length->c.plain=δ)(el:∀e∈a.toList,∃x tk,e=(hashStr w x,Value.str x tk))(p:(a.toList.map λe=>sOf e.2).Perm b):
  ij w (s.heap.update S (kq a c)) S b led { o with data:=.set a (ep+1) c } a (ep+1) c:=
 #v[N0 x.f? x.d,x.ex,O,f,l,pl,el,p]
def ι{g:Bool->Sem Unit}(hg:∀(b:Bool) (i:ae) (C:Unit->ae->Prop),C () i->ao (model prog w) A (g b) C E i)(X:ij w s.heap S ss led o es ep t)
  {a:Array (Int×ab)} {c:bS} {m:aE} (f:c.fits a.size=γ) (l:c.led=led) (pl:c.plain=δ) (el:∀e∈a.toList,∃x tk,e=(hashStr w x,Value.str x tk)) (p:(a.toList.map λe=>sOf e.2).Perm m) (hb:a.size<scanBound)
  {wasDummy:Bool} {R:Option Bool->ae->Prop} (h:∀h' H y u I,ee S s.heap h'->ij w h' S m led H y u I->R (Z γ) { s with heap:=h' }):
  ao (model prog w) A (do
    storeSet S a c
    if (!wasDummy&&c.tooFull)=γ then do
      g (relayAll c a (d8 a.size)).2.2
      storeSet S (relayAll c a (d8 a.size)).1 (relayAll c a (d8 a.size)).2.1
      pure (Z γ)
     else pure (Z γ)) R E s:=by
 refine ah (jS X.f? X.d ?_ (qk hb));have q:=X.stored f l (λn=>pl) el p;have hsb1:=dH s.heap S (kq a c);split
 .have j:=relayAll_perm c a (d8 a.size);have hfr:=relayAll_fits c a (d8 a.size);have r:=P0 c a (d8 a.size);generalize relayAll c a (d8 a.size)=F at j hfr r ⊢;obtain⟨z,J,gave2⟩:=F;dsimp only at j hfr r ⊢;have B:z.size=a.size:=by rw[<-bR,j.length_eq,bR]
  refine ah (hg _ _ _ ?_);refine ah (jS q.f? q.d ?_ (qk (by rw[B];exact hb)));exact aq (h _ _ _ _ _ (hsb1.t (dH _ S _)) (ij.stored q hfr (r.1.t l) (λn=>r.2 pl) (λe G=>el e (j.mem_iff.1 G)) ((j.map _).t p)))
 .exact aq (h _ _ _ _ _ hsb1 q)
set_option h true
def add_x(X:ij w s.heap S ss led o es ep t)(hb:ss.length+1<scanBound)
  (h1:x∈ss->Q δ s)
  (h2:x∉ss->∀h' m h c q,ee S s.heap h'->ij w h' S (ss++[x]) led m h c q->Q γ { s with heap:=h' }):ao (model prog w) A (setAddHashed S (.str x tk) (hashStr w x)) Q E s:=by
 have sz:=X.sz;have hkey:(fo prog w).is x (.str x tk)=γ:=by simp[fo,iA]
 refine cF (ah (dt X.f? X.d X.f ?_));dsimp only;rw[byScan_of (knd:=fo prog w) O (by omega) X.elems];simp only[↓reduceIte];refine ah ?_;refine ah (gW ?_);refine ah (wpAny_setScan_of hkey X.f? X.d X.f X.elems ?_);cases hr:List.findIdx? (λe=>(fo prog w).is x e.2) es.toList with
 |some j=>obtain⟨G,hpj,_⟩:=List.findIdx?_eq_some_iff_getElem.1 hr;exact aq (aq (h1 ((X.mem x).2 #v[es.toList[j],gv G,hpj])))
 |none=>
  dsimp only;have nin:x∉ss:=λI=>by obtain⟨e,i,H⟩:=(X.mem x).1 I;have:=List.findIdx?_eq_none_iff.1 hr e i;rw[H]at this;exact Bool.noConfusion this
  have hgw:∀(b:Bool) {a:ae} {r:Unit->ae->Prop},r () a->ao (model prog w) A (match b with|true=>rule "set.scan.the-table-gave-way" |false=>pure ()) r E a:=
   λb a r l=>by cases b<;>first|exact aq l|exact gW l
  have hperm:=layNew_perm t es (hashStr w x) (.str x tk);have hfits:=layNew_fits t es (hashStr w x) (.str x tk);have hled:=lay_led t es (hashStr w x) (.str x tk);generalize layNew t es (hashStr w x) (.str x tk)=L at hperm hfits hled ⊢;obtain⟨y,J,wasDummy,gave⟩:=L;dsimp only at hperm hfits hled ⊢;rw[mI]at hperm;have u:∀e∈y.toList,∃x tk,e=(hashStr w x,Value.str x tk):=λe i=>by
   rcases aW.1 (hperm.mem_iff.1 i)with i|i
   .exact X.el e i
   .rw[br]at i;exact#v[x,tk,i]
  have F:=by have:=hperm.map λe:Int×ab=>sOf e.2;rw[aV]at this;exact this.t (X.p.append_right _)
  have z:y.size<scanBound:=by rw[<-bR,hperm.length_eq,aA,bR,sz];exact hb
  refine ah (hgw _ ?_);have end_:∀(h':Heap) (m:Obj) (h:Array (Int×ab)) (c:Nat) (q:bS),ee S s.heap h'->ij w h' S (ss++[x]) led m h c q->Q γ { s with heap:=h' }:=h2 nin;split
  .refine ah ?_;rw[hashByValue_scannable 8 O];refine aq ?_;refine ι ?_ X (SetTable.fits_plain_off hfits) (hled.1.t X.led) O u F z ?_
   .intro b a r l;cases b<;>first|exact aq l|exact gW l
   .intro h' m h c q C B;dsimp only;exact aq (end_ h' m h c q C B)
  .rename_i hpl;refine ah (aq ?_);simp only[↓reduceIte];refine ι ?_ X hfits (hled.1.t X.led) (by simpa using hpl) u F z ?_
   .intro b a r l;cases b<;>first|exact aq l|exact gW l
   .intro h' m h c q C B;dsimp only;exact aq (end_ h' m h c q C B)
end
set_option h false
section
variable{prog:aL}{w:aC}{A:aQ}{E:ab->ae->Prop}{s:ae}{S:Addr}{o:Obj}{es:Array (Int×ab)}{ep:Nat}{t:bS}
theorem iter_X(x:ij w s.heap S ss (!w.params.followText "set-order") o es ep t)(B:ss.length<64)
  (hQ:∀(h':Heap) (I TP:Addr) (ix:List ab) (d:Drawn),s.heap.objs.size<=I->I<h'.objs.size->TP≠I->(TP=S\/s.heap.objs.size<=TP)->(∀b o,s.heap.get? b=Z o->h'.get? b=Z o)->ItS w I S TP ix o es ep t 0 h'->ix.Perm (es.toList.map b8)->Q (.ref I) { s with heap:=h',drawn:=d }):
  ao (model prog w) A (pyIter (.ref S)) Q E s:=by
 have hf:=x.f;have ty:s.TypeIs (.ref S) "set" := #v[o,x.f?,x.ex.1];have hlt:=a9 x.f?;refine qj ty qQ (eQ qQ ty K8 ?_ (F.args_set_iter_1 _));refine ah (aq ?_);refine ah ?_;refine ah (ah (dt x.f? x.d hf (aq ?_)));refine aq ?_;refine ah ?_;refine ah (dt x.f? x.d hf ?_);refine ah (Gs ?_);refine aq ?_;have plain0:(w.params.followText "set-order" = γ\/(w.params.followText "set-order" = δ/\es.size<=1))->ao (model prog w) A.in1 (do
   let first<-pure (rawInt 0)
   let e<-setEpoch S;let r<-newFields "set_iterator" [first,rawInt 0,Value.ref S,rawInt ↑es.size,rawInt ↑e]
   ret r) (λfin i=>∃v,fin=Fin.done (Flow.ret v)/\∃a r,i.TypeIs v a/\typeLookup (Value.type a) (jj "__next__")=pure (Z r)/\Q v i) E s:=λc=>by
  refine ah (aq ?_);refine ah (ql x.f? x.d hf ?_);refine ah (cU ?_);have h:∀(l:Obj) (b:Addr) (o:Obj),s.heap.get? b=Z o->(s.heap.push l).get? b=Z o:=λl b o e=>aR _ e;have it:∀ix,Md w (s.heap.push { cls:=.type "set_iterator", data:=.fields [rawInt 0,rawInt 0,Value.ref S,rawInt ↑es.size,rawInt ↑ep].toArray }) S S 0 ix es ep t (.int 0 0)->ix.Perm (es.toList.map b8)->_:=λix m p=>aq (M:=model prog w) (A:=A.in1) (E:=E) (Q:=λfin i=>∃v,fin=Fin.done (Flow.ret v)/\∃a r,i.TypeIs v a/\typeLookup (Value.type a) (jj "__next__")=pure (Z r)/\Q v i) #v[.ref s.heap.objs.size,O,"set_iterator", _,#v[_,bw _ O,O],zg.lookup,hQ _ s.heap.objs.size S ix s.drawn (aH _) (by rw[c9];exact dM _) (bg hlt) (.inl O) (h _) #v[#v[_,.int 0 0,bw _ O,O,O,m],h _ _ _ x.f?,x.d,hf] p];rcases c with c|⟨c1,c2⟩
  .exact it _ (.txt c O) ((J3 _ es).map _)
  .exact it _ (.one c1 c2 (by rw[x.led,c1];rfl) (λn=>O) (λj e=>by cases e) O) (.refl _)
 cases c:w.params.followText "set-order" with
 |true=>rw[ak (by simp)];exact plain0 (.inl c)
 |false=>
  by_cases h1:es.size<=1
  .rw[ak λy=>by
    have:(!δ&&(!t.plain&&decide (es.size > 1)))=γ:=y;simp at this;omega]
   exact plain0 (.inr #v[c,h1])
  .have pl:=x.pl (by have:=x.sz;omega);rw[aj (by show (!δ&&(!t.plain&&decide (es.size > 1)))=γ;rw[pl];simp;omega)];refine ah (Pj es.size _ s bK λz d p=>?_);refine ah (q9 ?_ (by
    rw[af,p.length_eq,bK,x.sz,bV];omega))
   refine ah (ql (aR _ x.f?) x.d hf ?_);refine ah (cU ?_);have h:∀(q u:Obj) (b:Addr) (o:Obj),s.heap.get? b=Z o->((s.heap.push q).push u).get? b=Z o:=λq u b o e=>aR _ (aR _ e);have ix:(z.filterMap λp=>es[p]?.map b8).Perm (es.toList.map b8):=by refine(p.filterMap _).t ?_;rw[show (aB es.size).filterMap (λp=>es[p]?.map b8)=((aB es.size).filterMap λp=>es[p]?).map b8 from(pZ ..).symm,lj]
   refine aq #v[_,O,"set_iterator", _,#v[_,bw _ O,O],zg.lookup,hQ _ _ s.heap.objs.size _ d ?_ ?_ ?_ (.inr (aH _)) (h _ _) #v[#v[_,.ref s.heap.objs.size,bw _ O,O,O,.drw c (aR _ (bw _ O)) O O O p O],h _ _ _ _ x.f?,x.d,hf] ix]
   .rw[c9];exact dw _
   .exact Nat.lt_of_lt_of_eq (dM _) (c9 _ _).symm
   .rw[c9];exact bg (dM _)
end
section
variable{prog:aL}{w:aC}{A:aQ}{E:ab->ae->Prop}{s:ae}{S:Addr}{o:Obj}{es:Array (Int×ab)}{ep:Nat}{t:bS}{ss:aE}
def ij.fu{h h':Heap}{led:Bool}(x:ij w h S ss led o es ep t)(k:∀o,h.get? S=Z o->h'.get? S=Z o):ij w h' S ss led o es ep t:={ x with f?:=k _ x.f? }
theorem T3(C:A.handled=U)(x:ij w s.heap S ss (!w.params.followText "set-order") o es ep t)(G:ss.length<64)
  (hQ:∀h2 d d2 acc,s.heap.objs.size<=h2.objs.size->(∀b o,s.heap.get? b=Z o->h2.get? b=Z o)->acc.Perm (es.toList.map b8)->Q acc { s with heap:=h2,toks:=d,drawn:=d2 }):ao (model prog w) A (collect (.ref S)) Q E s:=by
 have hlt:=a9 x.f?;have H:es.size<=63:=by have:=x.sz;omega
 let lO:Obj:={ cls:=.type "list", data:=.seq ([]:List ab).toArray };refine ah (qZ (d6 F.entry_proto_collect ?_));rw[eJ F.plain_proto_collect _];refine ah (cU ?_);refine aq #v[gM qm _,d6 F.entry_list_iadd ?_];rw[eJ qm _];show ao _ A.in1 (tR (.ref s.heap.objs.size) (.ref S) (.ref s.heap.objs.size)) _ _ _;have h:(s.heap.push lO).objs.size=s.heap.objs.size+1:=c9 _ _;have l:ij w (s.heap.push lO) S ss (!w.params.followText "set-order") o es ep t:=x.fu λo e=>aR _ e;have q:ny { s with heap:=s.heap.push lO } (.ref S) "set" := #v[o,l.f?,x.ex.1];refine ah (gR q ?_);rw[ak (by
  have:oW (.ref s.heap.objs.size) (.ref S)=δ:=by simp[oW];exact λe=>ar e (gQ hlt)
  rw[this];decide)]
 refine ah (iter_X l G λh3 I TP ix r hI1 hI2 hTI hTP i it po=>?_);have hI:s.heap.objs.size+1<=I:=by rw[<-h];exact hI1
 have L3:=i _ _ (bw _ O);have a:ny { s with heap:=h3,drawn:=r } (.ref S) "set" := #v[o,it.f?,x.ex.1];have m:=λb o e=>i b o (aR _ e);refine ah (cF ?_);refine ah (je a F.slot_set_len.lookup ?_);generalize hid:("set.__len__" : String)=c;wp_delta;rw[show splitId c=Z ("set", "__len__") from by subst hid;decide +kernel];subst hid;refine ah (qD a sub_set_self ?_);rw[ak (by decide),aj (by decide +kernel)];refine ah (gR a ?_);refine aq ?_;rw[aj (by decide +kernel)];refine ah (gW ?_);refine ah ?_;refine ah (mU L3 O ?_);have f:=gm (eC (·.push Value.none)) L3 O
 refine mU f O ?_;have p:=gm (eC (·.pop)) f O
 have oth:∀b o,b≠s.heap.objs.size->h3.get? b=Z o->((h3.update s.heap.objs.size (eC (·.push Value.none))).update s.heap.objs.size (eC (·.pop))).get? b=Z o:=
  λb o hb e=>(iW _ _ (dS hb)).t ((iW _ _ (dS hb)).t e)
 have hSI:=bg (cw hlt (qo hI));have hSf:s.heap.objs.size∉[I,S,TP]:=by
  intro z;rcases aJ.1 z with z|z
  .exact ar z (bg hI)
  .rcases aJ.1 z with z|z
   .exact ar z (gQ hlt)
   .rw[br]at z;rcases hTP with e|e
    .exact ar (z.t e) (gQ hlt)
    .rw[<-z,h]at e;exact ar e (Nat.not_succ_le_self _)
 have W:=ab9 (prog:=prog) (w:=w) (A:=A.in1) (ix:=ix) (o:=o) (es:=es) (ep:=ep) (t:=t) (by simp[C]) hSI hTI;have P:ix.length<=63:=by rw[po.length_eq,af,bR];exact H
 refine aq #v[gM F.plain_extend_loop _,codeAny_extend_loopS W.toS (by rw[bV];omega) _ hSf _ ix.length 0 _ _ _ O (bT _)
  (W.frame 0 h3 _ #v[it,bT _] λb hb o e=>oth b o (λz=>hSf (by rw[<-z];exact hb)) e) p (ItemsOf.nil _) λJ acc' M hm hS' hacc=>?_]
 refine ah (wpAny_load hS' ?_);have u:acc'.toList=ix:=by
  apply mx;intro j;cases e:acc'.toList[j]? with
  |none=>rw[List.getElem?_eq_none_iff,bR,hacc.1]at e;exact(gj e).symm
  |some v=>rw[il]at e;exact(hacc.2 j v e).symm
 obtain⟨h2,g2,d2,d,N⟩:=J;have y:=hm.gens;have B:=hm.os;subst y B;refine aq (hQ h2 d d2 acc'.toList (iC (a9 hS')) (λb o e=>?_) (by rw[u];exact po));have hb:=a9 e;exact hm.heap b o (λz=>by
  rcases aJ.1 z with z|z
  .exact ar z (bg hb)
  .exact ar (br.1 z) (bg (cw hb (qo hI)))) (oth b o (bg hb) (m b o e))
def Rk(W:WalksS prog w A.in1 I fp m GG n PP SS)(hSf:S∉fp)(ks:aE)(hn:ks.length=n)(G:n<64)
  (hval:∀i v,PP i v->∃x tk,ks[i]?=Z x/\v=.str x tk):∀(k i:Nat) (s:ae) (o:Obj) (es:Array (Int×ab)) (ep:Nat) (t:bS),n - i=k->i<=n->SS i s->ij w s.heap S (tX (ks.take i)) led o es ep t->
   (∀c o es ep t,Moved (S::m) GG s c->ij w c.heap S (tX ks) led o es ep t->R (.ok (.ret .none)) c)->
   cH (model prog w) A (.builtin "set.update.loop" #v[[.ref S,.ref I],[]]) R s:=by
 have hSw:=λz=>hSf ((W).sub _ z);have up:∀b∈m,b∈S::m:=λb z=>bb _ z;intro k
 induction k with
 |zero=>
  intro i s o es ep t H hi hst x hR;obtain rfl:i=n:=by omega
  refine d6 ie ?_;rw[eJ dY _];refine ah (W.done s _ _ hst λc hm=>?_);rw[gh (by omega)]at x;exact aq (hR c o es ep t (hm.mono up) { x with f?:=hm.heap S _ hSw x.f? })
 |succ k u=>
  intro i s o es ep t H hi hst x hR;have hlt:i<n:=by omega
  refine d6 ie ?_;rw[eJ dY _];refine ah (W.item i s _ _ hlt hst λv c hP hst' hm=>?_);obtain⟨q,tk,eq,rfl⟩:=hval i v hP;refine ah (cF ?_);unfold setAdd;refine cF ?_;refine ah (qu ?_);have split:tX (ks.take (i+1))=if q∈tX (ks.take i)then tX (ks.take i)else tX (ks.take i)++[q]:=by unfold tX;rw[gu,eq,qe];rfl
  have B:={ x with f?:=hm.heap S _ hSw x.f? };have P:=by have h1:=MI (T4 (ks.take i)) λz J=>Pm.1 J;rw[cA]at h1;omega
  refine add_x B (by unfold scanBound;omega) (λinn=>?_) λnin h' M F C N r y=>?_
  .have e:tX (ks.take (i+1))=tX (ks.take i):=by rw[split,aj inn]
   refine aq #v[gM dY _,u (i+1) _ o es ep t (by omega) hlt (W.frame _ c c.heap _ hst' (iu _ _) λb z o e=>e) (by rw[e];exact B) λh j f d l a p=>?_];exact hR h j f d l (kc W.gtrans ((hm.mono up).then_heap (iu _ _) λb o z e=>e) a) p
  have e:tX (ks.take (i+1))=tX (ks.take i)++[q]:=by rw[split,ak nin]
  refine aq #v[gM dY _,u (i+1) _ _ _ _ _ (by omega) hlt (W.frame _ c h' _ hst' (iu _ _) λb z o e=>?_) (by rw[e];exact y) λh j f d l a p=>?_]
  .rw[r.2 b (λy:b=S=>hSf (by rw[<-y];exact z))];exact e
  .refine hR h j f d l (kc W.gtrans ((hm.mono up).then_heap (iu _ _) λb o z e=>?_) a) p;rw[r.2 b (λy:b=S=>z (by rw[y];exact ba))];exact e
def set_X{ks:aE}(I:bt X pins σ H s)(N:A.handled=U)(P:fb X.K H a (ks.map V.str))(l:ks.length<64)
  (h:∀h2 d o es ep t,ij X.w h2 s.heap.objs.size (tX ks) (!X.w.params.followText "set-order") o es ep t->(∀b o,b<s.heap.objs.size->s.heap.get? b=Z o->h2.get? b=Z o)->Q (.ref s.heap.objs.size) { s with heap:=h2,toks:=d }):
  ao (model X.prog X.w) A (call (.type "set") [.ref a]) Q E s:=by
 have h3:A.in1.in1.in1.handled=U:=by simp[N]
 obtain⟨c,r,pp,_⟩:=I.list P;obtain⟨o,p,m,n,hd⟩:=pp.isList;have hlt:=a9 p;have hne:=bg (eO hlt);have q:=by have:=r.length;rw[af]at this;exact this
 refine Fi (PS:=λh2=>∃o es ep t,ij X.w h2 s.heap.objs.size (tX ks) (!X.w.params.followText "set-order") o es ep t) p m m6 lE (by decide)
  (λA Q E s1 e k=>ir #v[o,e,m,n,hd] k) (λtk' R hR=>?_) λh2 d #v[o,es,ep,t,x'] T=>h h2 d o es ep t x' T
 have y:∀{b:Addr} {B:Obj},s.heap.get? b=Z B->((s.heap.push (AF (!X.w.params.followText "set-order"))).push { cls:=.type "list_iterator", data:=.fields #[.ref a,.int 0 0] }).get? b=Z B:=λe=>aR _ (aR _ e);have it:((s.heap.push (AF (!X.w.params.followText "set-order"))).push { cls:=.type "list_iterator", data:=.fields #[.ref a,.int 0 0] }).get? (s.heap.objs.size+1)=Z { cls:=.type "list_iterator", data:=.fields #[.ref a,.int 0 0] }:=by rw[show s.heap.objs.size+1=(s.heap.push (AF (!X.w.params.followText "set-order"))).objs.size from(c9 _ _).symm];exact bw _ O
 have W:=(jo (prog:=X.prog) (w:=X.w) h3 (s.heap.objs.size+1) a hne c.toArray).toS;have notin:s.heap.objs.size∉[s.heap.objs.size+1,a]:=by
  intro z;rcases aJ.1 z with z|z
  .exact ar z (bg (dM _))
  .exact ar (br.1 z) (gQ hlt)
 refine Rk W notin ks (by rw[bf,q]) (by rw[bf,<- q];exact l) ?_ (c.toArray.size - 0) 0 _ (AF (!X.w.params.followText "set-order")) #[] 0 (.fresh 0 0 (!X.w.params.followText "set-order")) O (bT _) #v[#v[_,it,O,O],#v[o,y p,m,n,hd]] #v[aR _ (bw _ O),#v[O,O,O],O,O,O,λz=>ar z (fT 0),λe M=>(by cases M),.nil] λs2 Y j f t2 mv C=>?_
 .intro i v e;rw[jH]at e;have hi:i<ks.length:=by rw[q];exact(cj.1 e).1
  obtain⟨u,x,tk,ru⟩:=r.get (by rw[bq,aP hi];rfl);rw[e]at x;cases x;exact#v[ks[i],tk,aP hi,ru]
 .obtain⟨h2,g2,d2,d,o2'⟩:=s2;have G:=mv.gens;have F:=mv.drawn;have J:=mv.os;subst G F J;refine hR h2 d #v[Y,j,f,t2,C] λb o hb e=>mv.heap b o (λz=>?_) (y e);rcases aJ.1 z with z|z
  .exact ar z (bg hb)
  .exact ar (br.1 z) (bg (eO hb))
end
section
variable{prog:aL}{w:aC}{A:aQ}{E:ab->ae->Prop}{s:ae}
theorem F?:∀(l:List ab),(∀v∈l,∃x a,v=.str x a)->i4 l (l.map sOf)
 |[],_=>.nil
 |v::l,h=>by obtain⟨x,a,rfl⟩:=h v ba;exact .cons x a (F? l λu b=>h u (bb _ b))
def Rn(sa:i4 vs ss)(a:vs.length<64)(d:s.heap.get? l=Z (seqObj "list" vs.toArray n))
  (h:∀h' e out,D1 l s.heap h'->cm ((wZ ss).map V.str) out->h'.get? l=Z (seqObj "list" out.toArray e)->P (.done (.ret .none)) { s with heap:=h' }):
  ao (model prog w) A (fD.«list.sort» #v[[.ref l],[]]) P E s:=by
 refine list_sort_treeK strKind_oneLt d sa.keysOf (λf i et e=>keyKind_strs (by rw[<-e];exact sa)) a λc a1 j=>?_;obtain⟨t,m,p,q⟩:=sorted_out_str sa a1 j;obtain⟨e,r⟩:=sortedHeap_at d;refine h _ e ((arrOf c).map (·.2)).toList (λb o hb z=>by rw[sortedHeap_old hb (a9 z)];exact z) ?_ (by rw[Array.toArray_toList];exact r)
 rw[<-II p q];exact TH m
def Z?(m:A.handled=U)(X:ij w s.heap S ss (!w.params.followText "set-order") o es ep t)(h:ss.length<64)
  (hQ:∀(p:Addr) (h2:Heap) (d:Nat) (d2:Drawn) (e:Nat) (out:List ab),s.heap.objs.size<=p->(∀b o,s.heap.get? b=Z o->h2.get? b=Z o)->cm ((wZ ss).map V.str) out->h2.get? p=Z (seqObj "list" out.toArray e)->Q (.ref p) { s with heap:=h2,toks:=d,drawn:=d2 }):
  ao (model prog w) A (call (.builtin "sorted") [.ref S]) Q E s:=by
 refine oO kind_sorted plain_sorted entry_sorted (args_sorted1 _) ?_;refine ah (aq ?_);refine ah (T3 (by simp[m]) X h λg d d2 acc r i f=>?_);have l:acc.length<64:=by rw[f.length_eq,af,bR,X.sz];exact h
 have sa:=F? acc λv q=>by obtain⟨e,c,rfl⟩:=aw.1 (f.mem_iff.1 q);obtain⟨x,tk,rfl⟩:=X.el e c;exact#v[x,tk,O]
 have es:wZ (acc.map sOf)=wZ ss:=by
  have y:=by have:=f.map sOf;rw[aX]at this;exact this.t X.p
  exact lh (λa b n n=>IH a b) (iU Gp Fp _) (iU Gp Fp ss) ((dq _ sm).t (y.t (dq ss sm).symm))
 refine ah (nD ?_ (by rw[bV];omega));have on:(g.push (seqObj "list" acc.toArray 0)).get? g.objs.size=Z (seqObj "list" acc.toArray 0):=bw _ O;refine ah (cF (eQ ra #v[_,on,O] qN ?_ (rb _)));refine Rn sa l on λh' e out u j c=>?_;rw[es]at j;exact#v[_,O,aq #v[_,O,hQ g.objs.size h' d d2 e out r (λb o z=>u b o (bg (a9 (i b o z))) (aR _ (i b o z))) j c]]
end
section
variable{X:Cx}{G:Bg}
def χ(K:av)(d:TE):TE:=λe H Q=>d e H λx b=>∃(a:Addr) (c:aE),x=.ref a/\fb K b a (c.map V.str)/\c.length<64/\∀(p:Addr),b p=U->Q (.ref p) (eg b p (.a3 ((wZ (tX c)).map V.str)))
def X?{p2 p3:Pos}(i:X.l0=γ)(g1:Gl X "sorted")(P:X.mg "sorted" = U)(g2:Gl X "set")(R:X.mg "set" = U)(A:PE X e W)
  (l:autoParam (aF [Expr.Call (.Name "set" p2) [e] [] p3] X.a4=[(δ,eval (.Call (.Name "set" p2) [e] [] p3) X.a4)]) zA0._auto_1) (m:autoParam (aF [e] X.a4=[(δ,eval e X.a4)]) zA0._auto_1):PE X (.Call (.Name "sorted" p1) [.Call (.Name "set" p2) [e] [] p3] [] p4) (χ X.K W):=by
 intro pins s σ H Q I h;refine dZ (Cb I g1 P nQ ?_ (by decide) (by decide));refine callWith_builtin1 ?_ l O;rw[l];refine eK ?_;refine dZ (Cb I g2 R sj ?_ (by decide) (by decide));refine callWith_type1 (e0 (xA A zz m p3 pins s σ H (λvs H1=>match vs with
  |[x]=>∃(a:Addr) (ks:aE),x=.ref a/\fb X.K H1 a (ks.map V.str)/\ks.length<64/\∀(p:Addr),H1 p=U->Q (.ref p) (eg H1 p (.a3 ((wZ (tX ks)).map V.str)))
  |_=>False) I h) λus T B=>?_) m O
 obtain⟨vs,H1,d,r1,q1⟩:=B
 match vs,r1,q1 with
 |[x],r1,q1=>
 obtain⟨a,ks,y,C,c,q⟩:=q1;subst y;obtain⟨u,rfl,S⟩:=kb r1;cases S;have Y:=gn (MI (T4 ks) λz E=>Pm.1 E) c;refine set_X d (d.ok.hd i) C c λh2 F o es ep t x N=>?_;refine gq ?_;have f:bt X pins σ H1 { T with heap:=h2,toks:=F }:=d.fu λb o e=>N b o (a9 e) e;refine Z? (d.ok.hd i) x Y λp h3 J w e out j M vo hg=>?_;have r:=f.laid (t':=J) (o:=.a3 ((wZ (tX ks)).map V.str)) M j #v[by
  rw[af,bV,show (wZ (tX ks)).length=_ from(dq _ sm).length_eq];omega,out,e,vo,hg]
 exact#v[.ref p,_,bt.drw r w,O,q p (f.ew.fresh j)]
def p'(f:FE):FA:=λd=>match f d with
 |some (.a3 c,a)=>match BU c with
  |some b=>if b.length<64 then Z ((wZ (tX b)).map D.str,a)else U
  |none=>U
 |_=>U
set_option h true
def S3(h:PE X e (χ G.K (tF G f))):PE X e (tH G (p' f)):=PE.b4 h λI H Q u=>by
 obtain⟨F,y,j,C,z,R,e,k⟩:=u;unfold p' at e;split at e
 .rename_i m A o;cases d:BU m with
  |none=>simp only[d]at e;cases e
  |some x=>
   simp only[d]at e;split at e
   .rename_i i;cases e;refine#v[F,y,j,_,_,R,o,λv B l s b r=>?_];obtain⟨a,E,rfl,q,t⟩:=r;have w:=Cp t d;subst w;exact#v[a,x,O,fb.of (b.sub _ _ q),i,λp c=>k p _ _ _ s (b.ff c _) vE (b.ef c) (b.fm c) (b.apart c) (Cs _)]
   .cases e
 .cases e
end
set_option h false
section
variable{X:Cx}{B:Bz}{k:Nat}{e:Expr}{f:FE}{p p2 p3 pos:Pos}
def zr_wxI [C:Cz X B k][N:Nb B "sorted"][b:Nb B "set"](i:S1 X e)(h:Gz X "sorted")(a:Gz X "set")(d:ZE X B e f)(z:aF [Expr.Call (.Name "set" p2) [e] [] p3] X.a4=[(δ,eval (.Call (.Name "set" p2) [e] [] p3) X.a4)]):ZN X B (.Call (.Name "sorted" p) [.Call (.Name "set" p2) [e] [] p3] [] pos) (p' f):=#v[S3 (by rw[<-C.K];exact X? C.c h (C.mg▸N.p) a (C.mg▸b.p) d.p z i)]
end
end L4
namespace L4
open PySem PySem.Spec PyProof.Rows L2 L3
section
variable{B:Bz}[Y:Yb B]{x m qual:Str}{st s0:Stmt}{l:List Stmt}{k c c0 np n:Nat}{b:FS}{p:Str}{ps xs:aE}{N:aE}
omit Y in
end
end L4
namespace L4
open PySem PySem.Spec PySem.Calls PyProof.Rows PySem.W L2 L3
section
variable{X:Cx}{G:Bg}
def rEqN(K:av)(r:R2):R2:=λx y H Q=>(∃a b c,x=.ref a/\y=.ref b/\H a=Z (.a3 c)/\H b=Z (.a3 [])/\c≠[]/\Q (.X δ) H)\/r x y H Q
def op_eqN{r:R2}(C:X.A.units+64<cLine)(i:gi X (bC .Eq) r):gi X (bC .Eq) (rEqN X.K r):=by
 intro c s B H x y v u Q I e f h;rcases h with ⟨a,b,E,rfl,rfl,j,l,m,q⟩|h
 .cases e;cases f;obtain⟨o,w,p,_⟩:=I.list (.inl (.inl j));obtain⟨d,z,t,_⟩:=I.list (.inl (.inl l));cases z;refine oX p.isList t.isList ?_ (by omega) (wu I q O);cases w with
  |nil=>exact ar O m
  |cons _ _=>simp
 .exact i c s B H x y v u Q I e f h
def tm:D->D->Option D
 |.a3 (_::_),.a3 []=>Z (.X δ)
 |x,y=>b? δ x y
def od_eqN{r:R2}(j:i1 G r (b? δ)):i1 G (rEqN G.K r) tm:=λx y z i H v u Q e s c d k=>by
 unfold tm at e;split at e
 .cases e;have c:=cb.mono s _ _ c;have d:=cb.mono s _ _ d;unfold cb at c d;obtain⟨a,o,rfl,l,f⟩:=c;obtain⟨b,p,rfl,m,h⟩:=d;unfold a6 at f h;subst h;obtain⟨_,_,rfl,_⟩:=f;exact .inl #v[a,b,_,O,O,l,m,(by intro z;cases z),k _ λw w=>yh _]
 .exact .inr (j x y z i H v u Q e s c d k)
instance inN9:z? .Eq tm:=#v[λX G h u=>by
 obtain⟨r,a,b⟩:=in9.p X G h u;exact#v[rEqN G.K r,by rw[<-h];exact op_eqN u a,od_eqN b]]
end
end L4
namespace L4
open PySem PySem.Spec PyProof.Rows L2 L3
def dV(g:bp->Option (Option D)):bp->Option D:=λa=>match g a with
 |some (Z d)=>Z d
 |_=>U
mutual
def noFz:D->Bool
 |.mn _=>δ
 |.η _ _=>δ
 |.a7 a=>D' a
 |.a3 a=>D' a
 |.obj _ _ a=>D' a
 |.Y _ a=>D' a
 |_=>γ
def D':bp->Bool
 |[]=>γ
 |d::a=>noFz d&&D' a
end
section
variable{G:Bg}
def ψ:=dI (λy b=>decide (0<=b)) λa b=>.int (a / 2 ^ b.toNat)
def ε:=dI (λy y=>γ) λa b=>.int (j6 a b)
def od_shr:i1 G (rI (λy j=>0<=j) λi j=>.int (i / 2 ^ j.toNat)) ψ:=Ml (λa b h=>by simpa using h) λy y=>#v[O,O]
def od_and:i1 G (D? λi j=>.int (j6 i j)) ε:=EA λy y=>#v[O,O]
end
instance in104:ζ .RShift ψ:=#v[λy y=>#v[_,Zs,od_shr]]
instance in105:ζ .BitAnd ε:=#v[λy y=>#v[_,Zt,od_and]]
end L4
namespace L4
open PySem PySem.Spec PySem.Calls PyProof.Rows PySem.W L2 L3
def kN(K:av):Bool:=K.all λp=>p.2.dict.isNone
section
variable{X:Cx}{pins:cN}{σ:St}{H:Hp}{s:ae}
set_option h true
def H?(I:bt X pins σ H s)(i:kN X.K=γ){a:Addr}{d:bF}(h:e8 X.K H a d):∀o,s.heap.get? a=Z o->o.dict=U:=by
 rcases h with (h|⟨j,h⟩)|⟨o,p,n,c,_⟩
 .obtain⟨_,_,_,_,f⟩:=(show eo X.prog X.w H s.heap a (.a7 d) from I.ew a _ h);exact f
 .obtain⟨_,_,_,_,_,f⟩:=(show eo X.prog X.w H s.heap a (.mi j (.a7 d)) from I.ew a _ h);exact f
 .intro r e;rw[I.la a o c]at e;cases e;have l:(a,o)∈X.K:=by
   clear i;generalize X.K=K at c
   induction K with
   |nil=>cases c
   |cons q K m=>
    obtain⟨b,j⟩:=q;rw[eU]at c;split at c
    .rename_i e;cases c;rw[fW e];exact ba
    .exact bb _ (m c)
  have:=aK.1 i _ l;exact Option.isNone_iff_eq_none.1 this
end
set_option h false
class Hz(B:Bz):Prop where
 h:B.G.hs=tupleKeyHash (vU B.P B.w)
 k:kN B.G.K=γ
section
variable{X:Cx}{G:Bg}
def k8{a:Type}(l:List a)(n:Nat)(y:a):List a:=l.take n++y::l.drop n
inductive IrIns(x:V) (vs:bF) (H:Hp) (Q:VK):Prop
 |i (l xs y n) (h0:x=.ref l) (h1:vs=[.int n,y]) (h2:H l=Z (.a3 xs)) (h3:0<=n) (h4:n.toNat<=xs.length) (h5:xs.length<aI) (h6:Q .O (eg H l (.a3 (k8 xs n.toNat y)))):IrIns x vs H Q
def rIns:V->bF->Hp->VK->Prop:=λx a H Q=>IrIns x a H Q
def π{b:bF}{a:List ab}(h:cm b a){y:V}{u:ab}(r:dd y u)(n:Nat):cm (k8 b n y) (k8 a n u):=(h.take n).append (.cons r (h.drop n))
def cm.two{x y:V}{e:List ab}(h:cm [x,y] e):∃u v,e=[u,v]/\dd x u/\dd y v:=by
 cases h with
 |cons a b=>cases b with
  |cons c d=>cases d;exact#v[_,_,O,a,c]
theorem S2:MtM X "list.insert" rIns:=by
 intro i s N H x M v J Q I p o h;obtain⟨l,w,y,n,rfl,rfl,hH,A,C,E,q⟩:=h;cases p;obtain⟨u,c,rfl,j,b⟩:=cm.two o;obtain⟨t,rfl⟩:=j;obtain⟨z,a,m,r,B,e⟩:=I.Me hH;have d:a.length=w.length:=by have:=r.length;omega
 refine fV p0 #v[_,e,O] F.entry_list_insert (F.args_list_insert_3 _ _ _) (AutoSeq1.list_insert_list_int_val_1 l a.toArray m n t c (by simp[fitsIndex_both (show -(2 ^ 63)<=n by omega) (show n<2 ^ 63 by have:=bV;omega)]) (by rw[bf];omega)) #v[e,?_];refine#v[.O,_,I.lset (its':=k8 a n.toNat c) hH e ?_ (π r b _) ?_,O,q]
 .show (a.toArray.extract 0 (if n<0 then (n+(a.toArray.size:Int)).toNat else min n.toNat a.toArray.size)).push c++a.toArray.extract (if n<0 then (n+(a.toArray.size:Int)).toNat else min n.toNat a.toArray.size)=_;rw[ak (by omega),bf,gA (by omega)];apply Array.toList_inj.1;simp[k8];exact gh (by simp)
 .unfold k8;rw[aA,aS,cA,cW];omega
def Q?(i:Nat)(f e:FE):FE:=λd=>match yp d i with
 |some _=>match f d with
  |some (.int n,c)=>match e c with
   |some (y,a)=>match yp a i with
    |some b=>if 0<=n/\n.toNat<=b.length/\b.length<1000 then Z (.O,putAt a i (k8 b n.toNat y))else U
    |none=>U
   |none=>U
  |_=>U
 |none=>U
def ZY{H:Hp}{a:bp}{b:bF}{d:D}{v:V}(n:Nat)(h:a6 G H a b)(r:cb G H d v):a6 G H (k8 a n d) (k8 b n v):=xp (Ga n h) (wB r (F9 n h))
set_option h true
def Pr(h:PE X e (tBM G.K "list" rIns (Et i) (q? G (ax f (ax J vO))))):PE X e (tF G (Q? i f J)):=PE.b4 h λσ H Q M=>by
 obtain⟨F,w,x,d,Y,R,e,k⟩:=M;unfold Q? at e;cases c:yp w i with
 |none=>simp only[c]at e;cases e
 |some B=>
  simp only[c]at e;split at e
  .rename_i n ρ1 C;split at e
   .rename_i y p E;split at e
    .rename_i ds I;split at e
     .rename_i j;cases e;obtain⟨a,W,t,N,s3,_⟩:=zO R c;refine#v[.ref a,t,.inl #v[O,W,fb.of N],F,w,x,[.int n,y],p,R,by unfold ax;rw[C];simp only[E];rfl,λys H1 z s A rs=>?_];unfold a6 at rs;obtain⟨v,r0,rfl,r,q⟩:=rs;unfold a6 at q;obtain⟨T,r1,rfl,l,b⟩:=q;unfold a6 at b;subst b;unfold cb at r;subst r;obtain⟨a',o,u,P,m,S⟩:=zO A I;rw[t]at u;cases u;exact#v[a,o,T,n,O,O,P,j.1,by rw[<-vC m];exact j.2.1,by rw[<-vC m];exact BP (iC j.2.2),k _ _ _ s (S _ _ (ZY _ m l)) Ad]
     .cases e
    .cases e
   .cases e
  .cases e
end
set_option h false
section
variable{X:Cx}{B:Bz}{k i:Nat}{x:Str}{e e':Expr}{f f':FE}{p p2 pos apos:Pos}
theorem zr_insI [C:Cz X B k](h:vr X i x=γ)(j:ZE X B e f)(l:ZE X B e' f')(c:Az X (.Name x p) "insert")(d:Ez apos pos)(b:aF [e,e'] X.a4=[(δ,eval e X.a4),(δ,eval e' X.a4)])(a:S1 X e'):ZE X B (.Call (.Attribute (.Name x p) "insert" apos) [e,e'] [] pos) (Q? i f f'):=
 #v[Pr (NM B.G.K ja p0 F.type_list_insert S2 (O? h) (xy j.p (xy l.p yB a) (by rw[b,a])) c (by rw[b];rfl) d (by rw[b,a]) (by rw[a];rfl) C.K)]
end
end L4
namespace L4
open PySem PySem.Spec PySem.Calls PySem.SeqAt PyProof.Rows PySem.W L2 L3
section
variable{X:Cx}{G:Bg}
def rSpl:V->bF->Hp->VK->Prop:=λx a H Q=>∃z y:Str,x=.str z/\a=[.str y]/\(y.length==0)=δ/\z.length+2<=aI/\∀l,H l=U->Q (.ref l) (eg H l (.a3 ((cZ z y).map V.str)))
def ξ(f c:FE):FA:=λd=>match f d with
 |some (.str z,a)=>match c a with
  |some (.str y,b)=>if (y.length==0)=δ/\z.length<=100000 then Z ((cZ z y).map D.str,b)else U
  |_=>U
 |_=>U
set_option h true
def pfn_spl(h:PE X e (tBM G.K "str" rSpl (tF G f) (q? G (ax u vO)))):PE X e (tH G (ξ f u)):=PE.b4 h λS H Q x=>by
 obtain⟨F,C,j,M,E,R,e,k⟩:=x;unfold ξ at e;split at e
 .rename_i z a r;split at e
  .rename_i y I t;split at e
   .rename_i w;cases e;refine#v[F,C,j,.str z,a,R,r,λv l m A q c=>?_];unfold cb at c;subst c;refine#v[O,F,a,l,[.str y],_,q,by unfold ax;rw[t];rfl,λP J o B R2 rs=>?_];unfold a6 at rs;obtain⟨v,N,rfl,i,d⟩:=rs;unfold a6 at d;subst d;unfold cb at i;subst i;exact#v[z,y,O,O,w.1,by rw[bV];omega,λp b=>k p _ _ _ (A.t B) (R2.ff b _) vE (R2.ef b) (R2.fm b) (R2.apart b) (Cs _)]
   .cases e
  .cases e
 .cases e
set_option h false
def vu(l:Addr)(items:Array ab)(n:Nat)(p:Option Addr)(sl:Array (Option ab))(x:ab)(e:ab->Bool)(j:Nat)(r:j<items.size)(hit:e items[j]=γ)(hno:∀m (hm:m<items.size),m<j->e items[m]=δ):
  Meets (fD.«tuple.index» #v[[.ref l,x],[]])
   (λA R s=>s.heap.get? l=Z { cls:=.type "tuple", dict:=p,data:=.seq items n,slots:=sl }/\(∀y,y∈items->EqAt A.in1 s y x (e y))/\R (.ok (.ret (.int j s.toks))) { s with toks:=s.toks+1 }):=
 .of_wp λprog w A R s h=>by
  obtain⟨z,g,d,tk,os⟩:=s;obtain⟨t,q,h⟩:=h
  wp_walk using wpAny_loadPart' t
  show ao _ _ (forIn [:_] _ _) _ _ _;have hr:∀{β:Type} (n:Nat) (b:β) (f:Nat->β->Sem (ForInStep β)),forIn [:n] b f=forIn (sr 0 n 1) b f:=λn b f=>by rw[tN];simp[uG]
  rw[hr,gS];refine jW _ (λet b o=>b.1=U/\o=#v[z,g,d,tk,os]/\∃i,et=sr i (items.size - i)/\i<=j) _ ?_ ?_ _ _ #v[O,O,0,O,bT _]
  .rintro m et ⟨b,u⟩ o ⟨hb,rfl,i,a,hi⟩;have hlt:i<items.size:=gn hi r;obtain⟨k,c⟩:∃k,items.size - i=k+1:=#v[items.size - i - 1,by omega];rw[c,qE]at a;injection a with h1 h2;subst h1 h2;have hg:items[m]?=Z items[m]:=by simp[hlt]
   simp only[hg];refine ah (q _ (Array.getElem_mem hlt) prog w _ _ ?_);rcases Nat.lt_or_ge m j with hm|hm
   .rw[hno m hlt hm]
    wp_walk
    exact#v[O,O,m+1,by rw[show items.size - (m+1)=k by omega],hm]
   .have:m=j:=by omega
    subst this;rw[hit]
    wp_walk
    exact#v[_,O,h]
  .rintro⟨b,u⟩ o ⟨hb,rfl,i,a,hi⟩;obtain⟨k,c⟩:∃k,items.size - i=k+1:=#v[items.size - i - 1,by omega];rw[c,qE]at a;cases a
inductive D4(K:av) (x:V) (vs:bF) (H:Hp) (Q:VK):Prop
 |i (l:Addr) (ss:aE) (k:Str) (h0:x=.ref l) (h1:vs=[.str k]) (h2:e8 K H l (ss.map V.str)) (h3:ss.length<=1000) (h4:k∈ss) (h5:Q (.int (ss.idxOf k:Nat)) H):D4 K x vs H Q
def M'(K:av):V->bF->Hp->VK->Prop:=λx a H Q=>D4 K x a H Q
theorem S':MtR X "tuple.index" (M' X.K):=by
 intro m s P H x N v M Q I C B h;obtain⟨l,b,k,rfl,rfl,w,J,r,q⟩:=h;cases C;obtain⟨u,rfl,A⟩:=B.one;obtain⟨t,rfl⟩:=A;obtain⟨a,o,pl,_⟩:=I.tuple w;have d:=IJ o;have c:b.length=a.length:=by have:=o.length;rw[af]at this;exact this
 obtain⟨⟨cls,p,data,E⟩,i,f,n,hd⟩:=id pl;simp only at f hd;subst f hd;have e:b.idxOf k<b.length:=jC.2 r;refine fV p6 #v[_,i,O] F.entry_tuple_index (F.args_tuple_index_2 _ _)
  (vu l a.toArray n p E (.str k t) (isStrOf k) (b.idxOf k) (by simpa [c]using e) ?_ ?_) #v[i,λy z=>(eq_isStrOf k t d y (by simpa using z)).at _ _,?_]
 .show isStrOf k a[b.idxOf k]=γ;rw[ED k d _ (by omega) e];simpa using p8 e
 .intro j hjs hlt;show isStrOf k a[j]=δ;rw[ED k d j (by simpa using hjs) (by omega)];exact IK hlt _
 .exact#v[.int (b.idxOf k:Nat),_,I.rl _,#v[_,O],q]
def tBU(K:av)(r:V->bF->Hp->VK->Prop)(to:TE)(t:TA):TE:=λc H Q=>to c H λx b=>(∃p a,x=.ref p/\e8 K b p a)/\t c b λa d=>r x a d Q
def pe_bu{id:String}(C:kN X.K=γ)(E:ko "tuple")(slot:Slot "tuple" name id)(hty:typeOf (.builtin id)=pure (.type "method_descriptor"))(w:MtR X id r)(y:PE X o to)(q:PA X (e::c) t)
  (hbase:fi o name X.a4 (eval o X.a4)=eval o X.a4)
  (hfew:((bO cpos (aF (e::c) X.a4)).all (λx=>!x.1)&&(backToKw cpos (dQ [] X.a4)).all (λx=>x.1.isSome)
   && decide ((e::c).length+([]:List eF).length+(if ([]:List eF).isEmpty then 0 else 1)<30))=γ)
  (hline:(apos.endLine==cpos.line)=γ) (z:aF (e::c) X.a4=(δ,eval e X.a4)::aF c X.a4) (hplain:(bO cpos (aF c X.a4)).any (·.1)=δ):
  PE X (.Call (.Attribute o name apos) (e::c) [] cpos) (tBU X.K r to t):=by
 intro b s i H Q I h;refine o6 hbase hfew hline O (e0 (y b s i H _ I h) λv P zz=>?_);obtain⟨x,j,d,M,⟨p,Y,A,hT⟩,F⟩:=zz;subst A;cases M;obtain⟨B,W,pl,_⟩:=d.tuple hT;obtain⟨f,hob,u,_⟩:=pl;refine#v["tuple", id,E,slot,hty,#v[f,hob,u],λa e=>by cases e;exact#v[f,hob,H? d C hT f hob],?_];have hA:=q cpos b P i j _ d F;rw[z]at hA ⊢;refine ig (by show (δ||(bO cpos (aF c X.a4)).any (·.1))=δ;rw[hplain]<;>rfl) (ip ?_)
 exact e0 hA λS R #v[T,l,m,N,J]=>w b R i l (.ref p) T _ S Q m O N J
def o?:D->D->Option D:=λx y=>match x,y with
 |.a7 b,.str k=>match BU b with
  |some a=>if k∈a/\a.length<=1000 then Z (.int (a.idxOf k:Nat))else U
  |none=>U
 |_,_=>U
set_option h true
def Pa(h:PE X e (tBU G.K (M' G.K) (tF G f) (q? G (ax J vO)))):PE X e (tF G (c2 o? f J)):=PE.b4 h λσ H Q N=>by
 obtain⟨F,W,w,d,j,R,e,k⟩:=N;obtain⟨x,y,c,E,I,b⟩:=E8 e;unfold o? at b;split at b
 .rename_i C p;cases eq:BU C with
  |none=>simp only[eq]at b;cases b
  |some T=>
   simp only[eq]at b;split at b
   .rename_i o;cases b;refine#v[F,W,w,_,c,R,E,λv z A S l q=>?_];unfold cb at q;obtain⟨a,xs,rfl,m,M⟩:=q;have P:=Cp M eq;subst P;refine#v[#v[a,_,O,e8.mono l.sub m],F,c,z,[.str p],j,l,by unfold ax;rw[I];rfl,λys B i u R2 rs=>?_];unfold a6 at rs;obtain⟨v,Y,rfl,t,r⟩:=rs;unfold a6 at r;unfold cb at t;subst r t;exact#v[a,T,p,O,O,e8.mono (u.t R2.sub) m,o.2,o.1,k _ B i (S.t u) R2 (xN _)]
   .cases b
 .cases b
inductive IrInU(K:av) (x:V) (y:V) (H:Hp) (Q:VK):Prop
 |i (p xs d l) (h0:y=.ref p) (h1:e8 K H p xs) (h2:L3.cb K H d x) (h3:L3.a6 K H l xs) (h4:fc d<=20) (h5:(∀e∈l,fc e<=20)) (h6:Q (.X (l.any λe=>pk e d)) H):IrInU K x y H Q
set_option h false
def rInU(K:av):R2:=λx y H Q=>IrInU K x y H Q
def op_inU(T:X.A.units+64<cLine):gi X (bC .In) (rInU X.K):=by
 intro C s σ H x y v u Q I R S h;obtain⟨p,Y,d,l,rfl,F,N,P,hd,E,q⟩:=h;cases S;obtain⟨j,r,pl,W⟩:=I.tuple F;obtain⟨J,M⟩:=Dx P r;have B:∀e∈l,∀z w,L3.cb X.K H e z->dd z w->jm X.A.in1 s w v (pk e d):=λe a z w b c=>Sj I e d z x w v X.A.in1 b N c R (by have:=E e a;show X.A.units+1+_+_<_;omega);let f:ab->Bool:=λw=>@decide (∃e∈l,∃z,L3.cb X.K H e z/\dd z w/\pk e d=γ) (iV _);refine qy f pl (λw o=>?_) #v[.X _,H,I,O,?_]
 .by_cases m:∃e∈l,∃z,L3.cb X.K H e z/\dd z w/\pk e d=γ
  .have t:f w=γ:=@aY _ (iV _) m;obtain⟨e,a,z,b,c,i⟩:=m;have:=B e a z w b c;rw[i]at this;rw[t];exact this
  .have t:f w=δ:=@aZ _ (iV _) m;obtain⟨e,a,z,b,c⟩:=J w (by simpa using o);have:=B e a z w b c;rw[i9.2 λi=>m #v[e,a,z,b,c,i]]at this;rw[t];exact this
 .have eq:j.toArray.any f=l.any λe=>pk e d:=by
   rw[show j.toArray.any f=j.any f by simp];refine d5.2 ?_;rw[fP,fP];constructor
   .rintro⟨w,o,m⟩;obtain⟨e,a,z,b,c,i⟩:=@bj _ (iV _) m;exact#v[e,a,i]
   .rintro⟨e,a,i⟩;obtain⟨w,o,z,b,c⟩:=M e a;exact#v[w,o,@aY _ (iV _) #v[e,a,z,b,c,i]]
  rw[eq];exact q
def R':D->D->Option D:=λx y=>match y with
 |.a7 a=>match i? x,xY a with
  |some d,Z l=>if decide (fc d<=20)&&l.all (λe=>decide (fc e<=20))then Z (.X (l.any λe=>pk e d))else U
  |_,_=>U
 |_=>U
set_option h true
def od_inU:i1 G (rInU G.K) R':=λx y z r H v u Q e s q c k=>by
 unfold R' at e;split at e
 .rename_i i;cases b:i? x with
  |none=>simp only[b]at e;cases e
  |some d=>
   cases f:xY i with
   |none=>simp only[b,f]at e;cases e
   |some l=>
    simp only[b,f]at e;split at e
    .rename_i h;cases e;rw[aT,bE,aK]at h;have c:=cb.mono s _ _ c;unfold cb at c;obtain⟨a,j,rfl,m,o⟩:=c;exact#v[a,j,d,l,O,m,HE x v d (cb.mono s _ _ q) b,Fd i j l o f,h.1,λe p=>bj (h.2 e p),k _ λw w=>yh _]
    .cases e
 .cases e
set_option h false
instance inU2:z? .In R':=#v[λX G h a=>#v[_,by rw[<-h];exact op_inU a,od_inU]]
end
section
variable{X:Cx}{B:Bz}{k i:Nat}{x:Str}{e e':Expr}{f f':FE}{p p2 pos apos:Pos}
theorem zr_plI [C:Cz X B k](d:ZE X B e f)(h:ZE X B e' f')(b:Az X e "split")(c:Ez apos pos)(a:S1 X e'):ZN X B (.Call (.Attribute e "split" apos) [e'] [] pos) (ξ f f'):=#v[pfn_spl (bmI b c a F.plainAttrs_str jV F.type_str_split Sm d.p (xy h.p yB a))]
theorem zr_iuI [C:Cz X B k][N:Hz B](d:ZE X B e f)(h:ZE X B e' f')(b:Az X e "index")(c:Ez apos pos)(a:S1 X e'):ZE X B (.Call (.Attribute e "index" apos) [e'] [] pos) (c2 o? f f'):=#v[Pa (C.K▸pe_bu (by rw[C.K];exact N.k) F.plainAttrs_tuple p6 F.type_tuple_index S' d.p (xy h.p yB a) b (by rw[a];rfl) c a O)]
end
end L4
namespace HT
open PySem PySem.Spec PyProof.Rows
section
variable{prog:aL}{w:aC}{A:aQ}{E:ab->ae->Prop}{s:ae}
def qt{a:Addr}{u:Tok}{n:Nat}{Q:Int×Int×Nat->ae->Prop}(b:s.heap.IsSliceOf a .none .none (.int (-1) u))
  (h:Q ((n:Int) - 1,-1,n) s):ao (model prog w) A (jA (.ref a) (pure (n:Int))) Q E s:=by
 obtain⟨os,hos,hcs,hds⟩:=id b;unfold jA oN;refine ah (ah (iI hos hds (x:=.none) O (ah (iI hos hds (x:=.none) O (ah (iI hos hds (x:=.int (-1) u) O (aq ?_)))))));refine ah (rA ?_);show ao _ _ (if ((-1:Int)==0)=γ then _ else _) _ _ s;rw[ak (by decide)];refine ah (j7 (ah (j7 (ah (aq ?_)))));show ao _ _ (pure ((n:Int) - 1,(-1:Int),gf ((n:Int) - 1) (-1) (-1))) _ _ s;rw[show gf ((n:Int) - 1) (-1) (-1)=n by
  unfold gf;rw[ak (by decide)];split
  .rw[show (- (-1:Int))=1 from O,rM];omega
  .omega]
 exact aq h
theorem Dw{f g:Nat->Option ab}:∀{l:List Nat},(∀k∈l,f k=g k)->l.filterMap f=l.filterMap g
 |[],_=>rfl
 |a::l,h=>by rw[dG,dG,h a (.head l),Dw λk m=>h k (.tail a m)]
def Y'(a:Array ab):((aB a.size).filterMap λ(k:Nat)=>a[((a.size:Int) - 1+(k:Int) * -1).toNat]?).toArray=a.toList.reverse.toArray:=by have:=LQ a.toList.reverse.toArray 0 a.size;rw[ro,gh (by simp)]at this;rw[<-this];refine bD _ (Dw λk b=>?_);have b:=bx.1 b;rw[show ((a.size:Int) - 1+(k:Int) * -1).toNat=a.size - 1 - k by omega,show (((0:Nat):Int)+(k:Int) * 1).toNat=k by omega];refine Eq.t ?_ (show a.toList.reverse[k]?=a.toList.reverse.toArray[k]? by simp);rw[List.getElem?_reverse (by rw[bR];exact b),bR,il]
def oy{t sl:Addr}{items:Array ab}{u:Tok}{Q:ab->ae->Prop}(a:fF s.heap t items)(hs:s.heap.IsSliceOf sl .none .none (.int (-1) u))
  (h:Q (.ref s.heap.objs.size) { s with heap:=s.heap.push { cls:=.type "tuple", data:=.seq items.toList.reverse.toArray } })
  (b:items.size<=aI):ao (model prog w) A (getItem (.ref t) (.ref sl)) Q E s:=by
 have htake:sizeOk (.seq items.toList.reverse.toArray):=by show items.toList.reverse.toArray.size<=aI;rw[bf,lX,bR];exact b
 obtain⟨os,hos,hcs,hds⟩:=id hs;have hTs:s.TypeIs (.ref sl) "slice" := #v[os,hos,hcs];unfold getItem
 try with_reducible refine cF ?_
 first|refine ah (aq ?_)|skip
 refine ah (mC a.typeIs (by decide) ?_);refine ah (jE (name:=jj "__getitem__") a.typeIs dX
  (eQ dX a.typeIs lK ?_ (l5 _ _)))
 show ao _ _ (k7 (.ref t)>>=_) _ _ s;refine ah (ni a ?_);refine ah (gR hTs ?_);rw[aj (by decide)];refine ah (qt hs ?_);show ao _ _ (if (((items.size:Int) - 1==0)&&(-1:Int)==1&&items.size==items.size)=γ then _ else _) _ _ s;rw[ak (by rw[show ((-1:Int)==1)=δ from O,mX,qW];decide),Y']
 first
  |exact ah (m:=fJ _) (cU (aq #v[_,O,aq h]) htake)
  |exact ah (m:=fJ _) (cU (ah (aq (aq #v[_,O,aq h]))) htake)
  |exact ah (ah (m:=fJ _) (cU (aq (aq #v[_,O,aq h])) htake))
  |exact ah (ah (m:=fJ _) (cU (aq #v[_,O,aq h]) htake))
end
end HT
namespace L2
open PySem PySem.Spec PyProof.Rows
section
variable{X:Cx}
def tRev(X:Cx)(f h:TE):TE:=λd H Q=>f d H λx e=>h d e λo b=>∃a c,o=.int (-1)/\x=.ref a/\e8 X.K b a c/\∀p,b p=U->Q (.ref p) (eg b p (.a7 c.reverse))
def pe_rev{m ts:TE}{e st:Expr}{p2 pos:Pos}(B:PE X e m)(hs:PE X st ts):PE X (.Subscript e (.Slice U U (Z st) p2) pos) (tRev X m ts):=by
 intro pins s σ H Q I h;refine km (e0 (B pins s σ H _ I h) λv F zz=>?_);obtain⟨x,H1,t,r1,q1⟩:=zz;refine wpAny_Slice ?_;rw[nu,rB];refine aq (aq (e0 (hs pins F σ H1 _ t q1) λvs c zz=>?_));obtain⟨o,p,y,E,a,xs,z,ex,C,q⟩:=zz;subst z ex;cases r1;obtain⟨u,rfl⟩:=E;have f:bt X pins σ p { c with heap:=c.heap.push { cls:=.type "slice", data:=.fields #[.none,.none,.int (-1) u] } }:=y.fu (t':=c.toks) λb ob q=>aR _ q;obtain⟨i,r,j,l⟩:=f.tuple C;have d:i.toArray.size=xs.length:=by rw[bf];exact r.length.symm
 show ao (model X.prog X.w) X.A (subscriptTail e (.Slice U U (Z st) p2) (.ref a) (.ref c.heap.objs.size)) (EP X pins σ Q) X.xe { c with heap:=c.heap.push { cls:=.type "slice", data:=.fields #[.none,.none,.int (-1) u] } };exact nY (ops:=[.ref a,.ref c.heap.objs.size]) j.typeIs dX.lookup (HT.oy j (pU ..) #v[.ref (c.heap.push { cls:=.type "slice", data:=.fields #[.none,.none,.int (-1) u] }).objs.size,_,f.laid (t':=c.toks) (o:=.a7 xs.reverse) (λb ob q=>aR _ q) (aH _)
  #v[by rw[lX];exact l,_,r.reverse,ky _ _,λo e=>by rw[bw _ O]at e;cases e;rfl],O,q _ (f.ew.fresh (aH _))] (by rw[d];exact l)) (by with_unfolding_all rfl)
end
end L2
namespace L4
open PySem PySem.Spec PyProof.Rows L2 L3
def C?:D->Option D
 |.a7 a=>Z (.a7 a.reverse)
 |_=>U
section
variable{X:Cx}{G:Bg}{H:Hp}
theorem E?:∀{b:bp} {a:bF},a6 G H b a->a6 G H b.reverse a.reverse
 |[],a,h=>by unfold a6 at h;subst h;exact wj
 |d::b,a,h=>by obtain⟨v,r,rfl,c,e⟩:=h;rw[jP,jP];exact xp (E? e) (wB c wj)
set_option h true
def pf_rev{e st:Expr}{f:FE}{p2 pos:Pos}(h:PE X e (tF G f))(C:PE X st (tF G (c1 Fq (cC (.int 1)))))(hK:X.K=G.K):PE X (.Subscript e (.Slice U U (Z st) p2) pos) (tF G (c1 C? f)):=PE.b4 (pe_rev h C) λP H Q B=>by
 obtain⟨F,I,o,d,b,R,e,k⟩:=B;obtain⟨x,y,c⟩:=DY e;unfold C? at c;split at c
 .rename_i M;cases c;refine#v[F,I,o,_,_,R,y,λv q t s w r=>#v[F,b,q,.int (-1),b,w,O,λN J u m R2 j=>?_]];have l:=cb.mono m _ _ r;unfold cb at l j;obtain⟨a,E,rfl,z,A⟩:=l;exact#v[a,E,j,O,by rw[hK];exact e8.mono R2.sub z,λp i=>k _ _ _ ((s.t m).t (vK (R2.ef i) _)) (R2.rh i _) (A9 (e8.of vE) (a6.mono (vK (R2.ef i) _) _ _ (E? A)))]
 .cases c
end
set_option h false
end L4
namespace L4
open PySem PySem.Spec PySem.Calls PyProof.Rows PySem.W L2 L3
section
variable{X:Cx}{B:Bz}{k:Nat}{e:Expr}{f:FE}{p p2 p3 p4 pos:Pos}{x y:Str}
def zr_rvI{b c:Pos}[C:Cz X B k](a:ZE X B e f):ZE X B (.Subscript e (.Slice U U (Z (.UnaryOp .USub (.Constant (.int 1) j b) c)) p2) pos) (c1 C? f):=#v[pf_rev a.p (TJ So) C.K]
def zr_i3I{i}[Q:KtC x T][o:KtC y j][C:Cz X B k][N:Nb B "isinstance"][r:Nb B x][t:Nb B y](A:Gz X "isinstance")(w:Gz X x)(l:Gz X y)(q:aF [e,.Tuple [.Name x p2,.Name y p3] i p4] X.a4=[(δ,eval e X.a4),(δ,eval (.Tuple [.Name x p2,.Name y p3] i p4) X.a4)])(a:S1 X (.Tuple [.Name x p2,.Name y p3] i p4))(m:aF [.Name x p2,.Name y p3] X.a4=[(δ,eval (.Name x p2) X.a4),(δ,eval (.Name y p3) X.a4)])(h:S1 X (.Name y p3))(u:ZE X B e f)(hd:Nz x)(d:Nz y):ZE X B (.Call (.Name "isinstance" p) [e,.Tuple [.Name x p2,.Name y p3] i p4] [] pos) (c1 (wI (θ (w5 T) (w5 j))) f):=by
 simp only[aT,bE,c7]at hd d;refine#v[Mq (cs:=[.b T,.b j]) (Do (IA (N2 (c:=.b T) (c':=.b j) (C.K▸Q.p.1 X B.G) (C.K▸o.p.1 X B.G) λs s z=>by cases z) C.K) A (C.mg▸N.p) j4 (xA u.p (xA (NB (xA (Kp w (C.mg▸r.p) Q.p.2 O hd.1 hd.2) (xA (Kp l (C.mg▸t.p) o.p.2 O d.1 d.2) zz h) ?_)) zz a) ?_) (by decide) (by decide) ?_ ?_) (by show 2<=1000;decide)]
 .rw[m,h]
 .rw[q,a]
 .rw[q,a]
 .rw[a];rfl
end
end L4
namespace L4
inductive Al{α β:Type} (P:α->β->Prop):List α->List β->Prop
 |nil:Al P [] []
 |cons (h:P x y) (t:Al P l m):Al P (x::l) (y::m)
theorem Al.at{c d:Type}{P:c->d->Prop}:∀{l:List c} {m:List d} {x:c} {y:d} (n:Nat),Al P l m->l[n]?=Z x->m[n]?=Z y->P x y
 |_,_,_,_,0,.cons h _,a,b=>by cases a;cases b;exact h
 |_,_,_,_,n+1,.cons _ t,a,b=>t.at n a b
end L4
namespace K43x
open PySem L2 L3 L4
abbrev D:=L4.D
def top(i:Nat):Stmt:=PySem.Challenge.pw_tellworld_k43_phrases.main.body.getD i (.Pass ⟨0,0,0,0⟩)
set_option r "BW 14;BX 13;yd 2;Gv 9;yw 2;El 14;AJ 14;xG 14;DF 14;Bu 14" in def ϑ0:Nat->Bool:=λc=>c==ϑ1
def AK:Nat->Bool:=λc=>c==1
def Bb:Nat->Bool:=λc=>c==14
def vT:Nat->Bool:=λc=>c==0||c==1||c==2
set_option r "La 10;Gw 10;yx 2" in def ϑ0:Nat->Bool:=λc=>c==ϑ1
set_option r "zS 13;zh 14;BY 14;BZ 14" in def ϑ0:Nat->Bool:=λc=>c==ϑ1
def B2:Nat->Bool:=λc=>c==3||c==4||c==5||c==6||c==7||c==11||c==12
set_option r "D3 13;Fu 13;AL 14" in def ϑ0:Nat->Bool:=λc=>c==ϑ1
set_option r "wq 0 7;D2 3 11;xf 0 1;D5 6 12" in def ϑ0:Nat->Bool:=λc=>c==ϑ1||c==ϑ2
set_option r "zi 13;Bc 14;IM 8;xP 0;Bv 14" in def ϑ0:Nat->Bool:=λc=>c==ϑ1
set_option r "t_At 3;Oe 10;Yt 4;T7 7;Yu 15;T8 1;MO 6;T9 11;Ua 9;Yv 12;Ub 13;Uc 5;Pn 0;Ud 2;Ue 8" in abbrev ϑ0:Ty->Option Bool:=ze 16 ϑ1
def DG:L4.D:=(D.int 8)
def DH:L4.D:=(D.int 12)
def IP:L4.D:=(D.a7 [(D.str "it"),(D.str "other"),(D.str "here"),(D.str "the"),(D.str "a"),(D.str "undo"),(D.str "restart")])
def Di:L4.D:=(D.str "Nothing comes of it.")
def G9:L4.D:=(D.str "That cannot be.")
def Fv:L4.D:=(D.a7 [(D.str "room"),(D.str "plain"),(D.str "fixed"),(D.str "box"),(D.str "lamp"),(D.str "you")])
def Bd:L4.D:=(D.a7 [(D.str "room"),(D.str "box"),(D.str "you")])
set_option r "IQ the a;Be box lamp;Em room you" in def ϑ0:L4.D:=(D.a7 [(D.str "ϑ1"),(D.str "ϑ2")])
set_option r "Fw 5;Fy 4;He 4;FB 60;Bf 3;FC 5;En 7;Ct 4;DI 3;Hf 10;FD 6;Cu 4" in def ϑ0:L4.D:=(D.int ϑ1)
set_option r "Po alone one two way;AM the a undo restart" in def ϑ0:L4.D:=(D.a7 [(D.str "ϑ1"),(D.str "ϑ2"),(D.str "ϑ3"),(D.str "ϑ4")])
def FH:L4.D:=(D.int 20)
abbrev aa:=(cV 0)
abbrev ag:=(cV 1)
abbrev ay:=(cC (.int 1))
def yV:=dr 2 2 (vw (wM (c1 (wI (w5 "str")) aa) (wM (yL zQ zQ ay (c1 wY aa) ag) (c1 zR (cL (vy 1 [] (iS aa) (gN 0) wG (yL SL SL (cS "a") aa (cS "z"))))))))
def y3:=dr 1 1 (vw (wM (vq yV (ax aa (a1 (cC DG)))) (c2 (j2 γ) aa (cC IP))))
abbrev kH:=(cC IQ)
def yF:=dr 1 1 (vw (wM (vq yV (ax aa (a1 (cC DH)))) (c2 (j2 γ) aa kH)))
def wF:=dr 2 2 (vw (wM (c1 (wI (w5 "str")) aa) (c2 (j2 δ) aa ag)))
def AN:=dr 1 1 (vw (wM (c1 (wI (w5 "int")) aa) (Ht (c1 (wI (w5 "bool")) aa))))
def wK:=dr 2 2 (vw (wM (c1 (wI (w5 "list")) aa) (c2 zQ (c1 wY aa) ag)))
def EF:=dr 1 1 (vw (mq (cT (c1 (wI (w5 "list")) aa)) (cL (yj aa)) aa))
abbrev ai:=(cV 2)
abbrev au:=(cV 3)
abbrev aG:=(cV 4)
def Cv:FS:=(a0 (wD 0 0 "name" ag)
 (a0 (wD 0 0 "words" ai)
 (a0 (wD 0 0 "kind" au)
 (wD 0 0 "start" aG))))
def Ah:=rr 0 4 5 Cv
def Hg:=rr 1 3 4 (a0 (wD 1 0 "name" ag)
 (a0 (wD 1 0 "start" ai)
 (wD 1 0 "most" au)))
abbrev aN:=(cC D.O)
def DJ:FS:=(a0 (wD 2 0 "name" ag)
 (a0 (wD 2 0 "others" (mq (cT (c2 zw ai aN)) (vM vO) ai))
 (a0 (wD 2 0 "form" au)
 (wD 2 0 "joining" aG))))
def xU:=rr 2 4 5 DJ
def D6:=rr 3 2 3 (a0 (wD 3 0 "term" ag)
 (wD 3 0 "place" ai))
set_option r "q 6 value;V 7 kind" in def xϑ0:=rr ϑ1 2 3 (a0 (wD ϑ1 0 "term" ag)
 (wD ϑ1 0 "ϑ2" ai))
set_option r "Cw 4 term;Hh 5 term;DK 8 word;x6 9 inner" in def ϑ0:=rr ϑ1 1 2 (wD ϑ1 0 "ϑ2" ag)
set_option r "Hk 10 one other;y4 11 term place;zD 12 term value" in def ϑ0:=rr ϑ1 2 3 (a0 (wD ϑ1 0 "ϑ2" ag)
 (wD ϑ1 0 "ϑ3" ai))
abbrev bc:=(cV 5)
abbrev cv:=(a1 ai)
abbrev fH:=(a1 au)
def DL:FS:=(a0 (wD 13 0 "verb" ag)
 (a0 (wD 13 0 "tests" (vq EF cv))
 (a0 (wD 13 0 "deeds" (vq EF fH))
 (a0 (wD 13 0 "text" aG)
 (wD 13 0 "refuses" bc)))))
def xW:=rr 13 5 6 DL
def B3:=dr 1 1 (vw (c2 (j2 δ) (c1 (vA wq "kind") aa) (cC Bd)))
def wR:Nat->Option (List D->Option D):=λc=>match c with
 |0=>Z B3
 |_=>U
def B4:=dr 1 1 (vw (c2 (j2 δ) (c1 (vA wq "kind") aa) (cC Be)))
def xQ:Nat->Option (List D->Option D):=λc=>match c with
 |0=>Z B4
 |_=>U
def AO:=dr 1 1 (vw (c2 (j2 γ) (c1 (vA wq "kind") aa) (cC Em)))
def wL:Nat->Option (List D->Option D):=λc=>match c with
 |0=>Z AO
 |_=>U
def vG:=dr 2 2 (en (w9 (cT aa)) QR vz)
def Cy:=dr 2 2 (vw (c1 wY (cL (vy 1 [1] (iL aa) (gN 0) (cT (c2 (b? δ) (c1 (vA wq "kind") aa) ag)) aa))))
def zj:=qi 1 1 (wQ (vy 1 [] (iL aa) (gN 0) (cT (vR wL "is_plainly" aa vO)) aa))
abbrev az:=(cC (.int 0))
abbrev cg:=(cC (.X δ))
def Gx:FS:=(a0 (en (xC (w9 (cT (c1 (wI T8) aa))) (xC (w9 (cT (vq AN (a1 (c1 (vA xf "start") aa))))) (w9 (cT (vq AN (a1 (c1 (vA AK "most") aa))))))) (vw cg) vz)
 (vw (wM (yL zQ zQ ay (c1 (vA AK "most") aa) (cC DI)) (yL zQ zQ az (c1 (vA xf "start") aa) (c1 (vA AK "most") aa)))))
def Gy:=dr 1 1 Gx
abbrev cz:=(cS "room")
abbrev hU:=(cS "you")
abbrev bI:=(a1 aa)
def AQ:FS:=(a0 (vI 1 (wM (c1 (wI (w5 "list")) aa) (c1 zR (cL (vy 1 [] (iL aa) (gN 0) wG (c1 (wI Pn) aa))))))
 (a0 (v8 (vq vG (ax ag (a1 (cS "things are a list of things")))))
 (a0 (v8 (vq vG (ax (c1 zR (cL (vy 1 [] (iL aa) (gN 0) wG (vq wF (ax (c1 (vA wq "kind") aa) (a1 (cC Fv))))))) (a1 (cS "a thing is of no kind")))))
 (a0 (v8 (vq vG (ax (yL zQ zQ ay (vq Cy (ax aa (a1 cz))) (cC FC)) (a1 (cS "a world has 1 to 5 rooms")))))
 (a0 (v8 (vq vG (ax (c2 (b? δ) (vq Cy (ax aa (a1 hU))) ay) (a1 (cS "a world has just one you")))))
 (v8 (vq vG (ax (c2 zQ (c1 wY (cL (wm zj bI))) (cC En)) (a1 (cS "a world has at most 7 things beside rooms and you"))))))))))
def AR:=dr 1 2 AQ
def Bw:FS:=(a0 (vI 1 (wM (vq wK (ax aa (a1 (cC Ct)))) (c1 zR (cL (vy 1 [] (iL aa) (gN 0) wG (vq Gy bI))))))
 (v8 (vq vG (ax ag (a1 (cS "marks are a list of at most 4 marks, each from 0 to at most 3"))))))
def BA:=dr 1 2 Bw
def xI:=dr 1 1 (vw (c2 (b? δ) (c1 (Fj Gu) aa) (c1 wY aa)))
def BB:=dr 2 3 (a0 (vI 2 (cL (xi (cL (vy 1 [] (iL aa) (gN 0) wG (c1 (vA vT "name") aa))) (cL (vy 1 [] (iL ag) (gN 0) wG (c1 (vA vT "name") aa))))))
 (a0 (v8 (vq vG (ax (c1 zR (cL (vy 1 [] (iL ai) (gN 0) wG (vq y3 bI)))) (a1 (cS "a name is no name")))))
 (v8 (vq vG (ax (vq xI cv) (a1 (cS "two things or marks have one name")))))))
def zl:=qi 2 2 (wQ (xi (cL (vy 1 [] (iL aa) (gN 0) (cT (vR xQ "has_mark" aa vO)) (c1 (vA vT "name") aa))) (cL (vy 1 [] (iL ag) (gN 0) wG (c1 (vA vT "name") aa)))))
def EG:FS:=(a0 (en (cT (c2 (b? δ) (c1 (vA wq "kind") ag) cz)) (vw (c2 zw (c1 (vA xf "start") ag) aN)) vz)
 (a0 (en (cT (c2 (b? δ) (c1 (vA wq "kind") ag) hU)) (vw (vq wF (ax (c1 (vA xf "start") ag) (a1 (cL (vy 1 [] (iL aa) (gN 0) (cT (c2 (b? δ) (c1 (vA wq "kind") aa) cz)) (c1 (vA vT "name") aa))))))) vz)
 (vw (vq wF (ax (c1 (vA xf "start") ag) (a1 (cL (vy 1 [] (iL aa) (gN 0) (cT (vR wR "can_hold" aa vO)) (c1 (vA vT "name") aa)))))))))
def EH:=dr 2 2 EG
abbrev dB:=(cC (.X γ))
def z5:=dr 2 4 (a0 (vI 2 (c2 Ei aa ag))
 (a0 (yb (u3 (c1 wY aa)) (gN 3) (a0 (en (cT (c2 zw ai aN)) (vw dB) vz)
 (vI 2 (c2 Ei aa ai))))
 (vw (c2 zw ai aN))))
abbrev fI:=(ax ag bI)
def AS:=dr 1 3 (a0 (v8 (vq vG (ax (c1 zR (cL (vy 1 [0] (iL aa) (gN 0) wG (vq EH fI)))) (a1 (cS "a start is none")))))
 (a0 (Iw 1)
 (a0 (yb (iL aa) (gN 2) (zC 1 (c1 (vA vT "name") ai) (c1 (vA xf "start") ai)))
 (v8 (vq vG (ax (c1 zR (cL (vy 1 [1] (iD (rm 1)) (gN 0) wG (vq z5 fI)))) (a1 (cS "a thing starts within itself"))))))))
def zT:=dr 1 1 (a0 (en (xC (w9 (cT (c1 (wI (w5 "tuple")) aa))) (w9 (cT (yL zQ zQ ay (c1 wY aa) (cC Cu))))) (vw cg) vz)
 (vw (wM (c1 zR (cL (vy 1 [] (iT aa) (gN 0) wG (vq yF bI)))) (vq xI bI))))
def Av:=dr 2 2 (vw (c1 zR (cL (vy 1 [0] (iT ag) (gN 0) wG (c2 (j2 δ) aa ag)))))
def z6:=dr 2 3 (a0 (vI 2 (cL (vy 1 [1] (iL aa) (gN 0) (cT (c2 (b? γ) (c1 (vA vT "name") aa) (c1 (vA vT "name") ag))) aa)))
 (vw (Ht (c1 Hv (cL (vy 1 [1] (iL ai) (gN 0) wG (vq Av (ax (c1 (vA xP "words") aa) (a1 (c1 (vA xP "words") ag))))))))))
def xR:=dr 1 2 (a0 (v8 (vq vG (ax (c1 zR (cL (vy 1 [] (iL aa) (gN 0) wG (vq zT (a1 (c1 (vA xP "words") aa)))))) (a1 (cS "a thing has 1 to 4 unlike words, as a tuple")))))
 (a0 (vI 1 (cL (wm zj bI)))
 (v8 (vq vG (ax (c1 zR (cL (vy 1 [1] (iL ag) (gN 0) wG (vq z6 fI)))) (a1 (cS "one thing has all words of another")))))))
abbrev cI:=(ax aa (a1 ag))
def CA:FS:=(a0 (vI 2 (wM (c1 (wI (w5 "list")) aa) (wM (c1 zR (cL (vy 1 [1] (iL aa) (gN 0) wG (vq wF cI)))) (vq xI bI))))
 (v8 (vq vG (ax ai (a1 (cS "dark is a list of rooms' names, each once"))))))
def CB:=dr 2 3 CA
set_option r "bA 2;bH 3;ck 4" in abbrev ϑ0:=(cC (.int ϑ1))
abbrev bQ:=(a1 ag)
abbrev hZ:=(a1 (c2 b1 aa ay))
abbrev tI:=(ax (c2 b1 aa bH) cv)
def IR:=dr 3 4 (a0 (en (xC (w9 (cT (c1 (wI (w5 "tuple")) aa))) (cT (c2 (b? γ) (c1 wY aa) ck))) (vw cg) vz)
 (a0 (vI 3 (H4 (c2 zw (c2 b1 aa bH) aN) (vq wF tI)))
 (vw (wM (vq wF (ax (c2 b1 aa az) bQ)) (wM (vq yF hZ) (wM (vq wF (ax (c2 b1 aa bA) bQ)) au))))))
abbrev cu:=(ax ag (a1 ai))
abbrev ia:=(ax aa cu)
def CC:=dr 3 4 (a0 (vI 3 (wM (vq wK (ax aa (a1 (cC Hf)))) (c1 zR (cL (vy 1 [1,2] (iL aa) (gN 0) wG (vq IR ia))))))
 (a0 (v8 (vq vG (ax au (a1 (cS "ways are a list of at most 10 tuples (room, word, room, mark)")))))
 (v8 (vq vG (ax (vq xI (a1 (cL (vy 1 [] (iL aa) (gN 0) wG (vM (ax (c2 b1 aa az) hZ)))))) (a1 (cS "two ways lead from one room by one word")))))))
abbrev dh:=(cS "two")
abbrev oj:=(a1 (c1 (vA vT "name") aa))
abbrev sV:=(a1 (c1 (vA yw "joining") aa))
def J4:=dr 1 1 (a0 (en (xC (w9 (cT (c1 (wI Ud) aa))) (xC (w9 (cT (vq y3 oj))) (w9 (cT (c1 (wI (w5 "tuple")) (c1 (vA yx "others") aa)))))) (vw cg) vz)
 (a0 (en (xC (w9 (cT (c1 zR (cL (vy 1 [] (iT (c1 (vA yx "others") aa)) (gN 0) wG (vq y3 bI)))))) (w9 (cT (vq wF (ax (c1 (vA yd "form") aa) (a1 (cC Po))))))) (vw cg) vz)
 (vw (mq (cT (c2 (b? δ) (c1 (vA yd "form") aa) dh)) (vq yF sV) (c2 zw (c1 (vA yw "joining") aa) aN)))))
def zJ:=dr 1 2 (a0 (vI 1 (wM (vq wK (ax aa (a1 (cC FD)))) (c1 zR (cL (vy 1 [] (iL aa) (gN 0) wG (vq J4 bI))))))
 (v8 (vq vG (ax ag (a1 (cS "verbs are a list of at most 6 verbs"))))))
def zU:=dr 2 2 (vw (Ht (c1 Hv (cL (vy 1 [1] (iL aa) (gN 0) wG (c2 (j2 δ) aa ag))))))
abbrev bu:=(cV 6)
abbrev b9:=(cV 7)
abbrev kT:=(a1 (c1 (vA vT "name") bu))
def yW:=dr 3 8 (a0 (ya 3 (vJ vO))
 (a0 (yb (iL (cL (wm zj bI))) (gN 4) (v8 (Ej 3 (c1 (vA xP "words") aG))))
 (a0 (ya 5 (vJ vO))
 (a0 (yb (iL ai) (gN 6) (v8 (Ej 5 (Fg (vM kT) (c1 (vA yx "others") bu)))))
 (a0 (vI 7 (cL (xi (cL (vy 1 [] (iL ai) (gN 0) (cT (c2 yc (c1 (vA yw "joining") aa) aN)) (c1 (vA yw "joining") aa))) (cL (vy 1 [] (iL ag) (gN 0) wG (c2 b1 aa ay))))))
 (a0 (v8 (vq vG (ax (vq xI (a1 (rm 5))) (a1 (cS "two verbs' names are alike")))))
 (a0 (v8 (vq vG (ax (vq zU (ax (cL (xi (rm 5) b9)) (a1 (rm 3)))) (a1 (cS "a verb's, way's or joining word is a word of a thing")))))
 (a0 (v8 (vq vG (ax (vq zU (ax (cL (xi (rm 5) b9)) (a1 (cC AM)))) (a1 (cS "the, a, undo or restart is a word of the world")))))
 (v8 (vq vG (ax (vq zU (ax b9 (a1 (rm 5)))) (a1 (cS "a way's or joining word is a verb's name")))))))))))))
abbrev cM:=(a1 aG)
def BC:=dr 6 7 (a0 (v8 (vq AR bI))
 (a0 (v8 (vq BA bQ))
 (a0 (v8 (vq BB cI))
 (a0 (v8 (vq AS bI))
 (a0 (v8 (vq xR bI))
 (a0 (vI 6 (cL (vy 1 [] (iL aa) (gN 0) (cT (c2 (b? δ) (c1 (vA wq "kind") aa) cz)) (c1 (vA vT "name") aa))))
 (a0 (v8 (vq CB (ax ai (a1 bu))))
 (a0 (v8 (vq CC (ax au (ax bu (a1 (cL (wm zl cI)))))))
 (a0 (v8 (vq zJ cM))
 (v8 (vq yW (ax aa (ax au (a1 (cL (xi aG bc))))))))))))))))
def AU:=dr 4 4 (vw (wg 13 (λa=>xW (a++[])) (ax aa (ax ag (ax ai (ax au (a1 cg)))))))
def w6:=dr 3 3 (vw (wg 13 (λa=>xW (a++[])) (ax aa (ax ag (ax (cL (vJ vO)) (ax ai (a1 dB)))))))
abbrev cK:=(cS "it")
abbrev f7:=(a1 cK)
abbrev jw:=(cS "take")
def CD:=qi 1 1 (wQ (vJ (ax (vq w6 (ax jw (ax (cL (vJ (a1 (wg 7 (λa=>xV (a++[])) (ax cK (a1 (cS "fixed"))))))) (a1 (cS "That stays."))))) (ax (vq w6 (ax jw (ax (cL (vJ (a1 (wg 3 (λa=>D6 (a++[])) (ax cK bI))))) (a1 (cS "You have that."))))) (ax (vq AU (ax jw (ax (cL (vJ vO)) (ax (cL (vJ (a1 (wg 11 (λa=>y4 (a++[])) (ax cK bI))))) (a1 (cS "Taken.")))))) (ax (vq AU (ax (cS "drop") (ax (cL (vJ (a1 (wg 4 (λa=>Cw (a++[])) f7)))) (ax (cL (vJ (a1 (wg 11 (λa=>y4 (a++[])) (ax cK (a1 (cS "here"))))))) (a1 (cS "Dropped.")))))) (a1 (vq w6 (ax (cS "drop") (ax (cL (vJ vO)) (a1 (cS "You lack that."))))))))))))
abbrev iN:=(cS "other")
abbrev dU:=(cS "box")
abbrev hG:=(cS "put")
def DM:=qi 0 0 (wQ (vJ (ax (vq w6 (ax hG (ax (cL (vJ (a1 (wg 9 (λa=>x6 (a++[])) (a1 (wg 4 (λa=>Cw (a++[])) f7)))))) (a1 (cS "You lack that."))))) (ax (vq w6 (ax hG (ax (cL (vJ (a1 (wg 9 (λa=>x6 (a++[])) (a1 (wg 7 (λa=>xV (a++[])) (ax iN (a1 dU)))))))) (a1 (cS "It holds nothing."))))) (ax (vq w6 (ax hG (ax (cL (vJ (a1 (wg 6 (λa=>xq (a++[])) (ax iN (a1 az)))))) (a1 (cS "It is shut."))))) (a1 (vq AU (ax hG (ax (cL (vJ vO)) (ax (cL (vJ (a1 (wg 11 (λa=>y4 (a++[])) (ax cK (a1 iN)))))) (a1 (cS "Done."))))))))))))
abbrev kW:=(ax cK (a1 ay))
abbrev kX:=(ax cK (a1 az))
abbrev jx:=(cS "open")
def DN:=qi 0 0 (wQ (vJ (ax (vq w6 (ax jx (ax (cL (vJ (a1 (wg 9 (λa=>x6 (a++[])) (a1 (wg 7 (λa=>xV (a++[])) (ax cK (a1 dU)))))))) (a1 (cS "It has no lid."))))) (ax (vq w6 (ax jx (ax (cL (vJ (a1 (wg 6 (λa=>xq (a++[])) kW)))) (a1 (cS "It is open."))))) (ax (vq AU (ax jx (ax (cL (vJ vO)) (ax (cL (vJ (a1 (wg 12 (λa=>zD (a++[])) kW)))) (a1 (cS "Opened.")))))) (ax (vq w6 (ax (cS "shut") (ax (cL (vJ (a1 (wg 9 (λa=>x6 (a++[])) (a1 (wg 7 (λa=>xV (a++[])) (ax cK (a1 dU)))))))) (a1 (cS "It has no lid."))))) (ax (vq w6 (ax (cS "shut") (ax (cL (vJ (a1 (wg 6 (λa=>xq (a++[])) kX)))) (a1 (cS "It is shut."))))) (a1 (vq AU (ax (cS "shut") (ax (cL (vJ vO)) (ax (cL (vJ (a1 (wg 12 (λa=>zD (a++[])) kX)))) (a1 (cS "Shut."))))))))))))))
abbrev fZ:=(cS "lamp")
def BD:=qi 0 0 (wQ (vJ (ax (vq w6 (ax (cS "light") (ax (cL (vJ (a1 (wg 9 (λa=>x6 (a++[])) (a1 (wg 7 (λa=>xV (a++[])) (ax cK (a1 fZ)))))))) (a1 (cS "It burns not."))))) (ax (vq w6 (ax (cS "light") (ax (cL (vJ (a1 (wg 6 (λa=>xq (a++[])) kW)))) (a1 (cS "It is lit."))))) (ax (vq AU (ax (cS "light") (ax (cL (vJ vO)) (ax (cL (vJ (a1 (wg 12 (λa=>zD (a++[])) kW)))) (a1 (cS "Lit.")))))) (ax (vq w6 (ax (cS "douse") (ax (cL (vJ (a1 (wg 9 (λa=>x6 (a++[])) (a1 (wg 7 (λa=>xV (a++[])) (ax cK (a1 fZ)))))))) (a1 (cS "It burns not."))))) (ax (vq w6 (ax (cS "douse") (ax (cL (vJ (a1 (wg 6 (λa=>xq (a++[])) kX)))) (a1 (cS "It is out."))))) (a1 (vq AU (ax (cS "douse") (ax (cL (vJ vO)) (ax (cL (vJ (a1 (wg 12 (λa=>zD (a++[])) kX)))) (a1 (cS "Doused."))))))))))))))
abbrev oo:=(a1 (c2 b1 ag az))
def DO:=qi 2 3 (a0 (ya 2 (vJ (ax (wg 3 (λa=>D6 (a++[])) (ax aa oo)) (a1 (wg 8 (λa=>DK (a++[])) (a1 (c2 b1 ag ay)))))))
 (a0 (en (cT (c2 yc (c2 b1 ag bH) aN)) (v8 (Ae 2 (wg 9 (λa=>x6 (a++[])) (a1 (wg 6 (λa=>xq (a++[])) (ax (c2 b1 ag bH) (a1 az))))))) vz)
 (wQ (Ge 2))))
abbrev n8:=(a1 (c2 b1 aa bA))
def EI:=qi 2 3 (a0 (vI 2 (cL (vy 1 [0] (iL ag) (gN 0) wG (vq AU (ax (cS "go") (ax (cL (wm DO fI)) (ax (cL (vJ (a1 (wg 11 (λa=>y4 (a++[])) (ax ag n8))))) (a1 (cS "You go.")))))))))
 (wQ (xi ai (cL (vJ (a1 (vq w6 (ax (cS "go") (ax (cL (vJ vO)) (a1 (cS "No way there.")))))))))))
def FI:=qi 0 0 (wQ (vJ (a1 (vq AU (ax (cS "wait") (ax (cL (vJ vO)) (ax (cL (vJ vO)) (a1 (cS "Time goes by.")))))))))
def AV:=qi 2 2 (wQ (xi (cL (xi (cL (xi (cL (xi (cL (xi (cL (wm CD bI)) (cL (wm DM vO)))) (cL (wm DN vO)))) (cL (wm BD vO)))) (cL (wm EI cI)))) (cL (wm FI vO))))
abbrev sG:=(ax jw (ax (cS "drop") (ax jx (ax (cS "shut") (ax (cS "light") (a1 (cS "douse")))))))
abbrev dD:=(cS "way")
abbrev iP:=(cS "alone")
abbrev sT:=(ax hG (ax (vM vO) (ax dh (a1 (cS "in")))))
def zm:=qi 0 0 (wQ (xi (cL (vy 1 [] (iT (vM sG)) (gN 0) wG (wg 2 (λa=>xU (a++[D.O,(D.str "one"),D.O])) bI))) (cL (vJ (ax (wg 2 (λa=>xU (a++[])) sT) (ax (wg 2 (λa=>xU (a++[D.O])) (ax (cS "go") (ax (vM vO) (a1 dD)))) (a1 (wg 2 (λa=>xU (a++[D.O])) (ax (cS "wait") (ax (vM vO) (a1 iP)))))))))))
def GA:=dr 1 3 (a0 (Iw 1)
 (a0 (yb (iL aa) (gN 2) (zC 1 (c1 (vA vT "name") ai) ai))
 (vw (rm 1))))
def z7:=dr 2 5 (a0 (Iw 2)
 (a0 (yb (iL aa) (gN 3) (en (cT (vR xQ "has_mark" au vO)) (zC 2 (c1 (vA vT "name") au) ay) vz))
 (a0 (yb (iL ag) (gN 4) (zC 2 (c1 (vA vT "name") aG) (c1 (vA AK "most") aG)))
 (vw (rm 2)))))
def yR:=dr 1 4 (a0 (Iw 1)
 (a0 (yb (iL aa) (gN 2) (yb (iT (Fg (vM (a1 (c1 (vA vT "name") ai))) (c1 (vA yx "others") ai))) (gN 3) (zC 1 au ai)))
 (vw (rm 1))))
def J5:FS:=(N6 (vA zi "verb"))
def J6:=dr 1 3 J5
def Dj:=dr 2 2 (wQ (vy 1 [1] (iL (c1 (vA xG "kept_things") aa)) (gN 0) (cT (c2 (b? δ) (c1 (vA wq "kind") aa) ag)) (c1 (vA vT "name") aa)))
def yP:Nat->Option (List D->Option D):=λc=>match c with
 |14=>Z Dj
 |_=>U
def Bh:=dr 1 1 (wQ (xi (c1 (vA DF "kept_verbs") aa) (c1 (vA BZ "shared_verbs") aa)))
def yS:Nat->Option (List D->Option D):=λc=>match c with
 |14=>Z Bh
 |_=>U
def zp:=dr 2 2 (vw (wM (c1 (wI (w5 "str")) aa) (c2 (b? δ) aa ag)))
def GB:=dr 1 1 (vw (wg 13 (λa=>xW (a++[])) (ax (c1 (vA zi "verb") aa) (ax (c1 (vA D3 "tests") aa) (ax (c1 (vA BX "deeds") aa) (ax (c1 (vA Fu "text") aa) (a1 (c1 (vA zS "refuses") aa))))))))
def xS:=dr 2 2 (vw (c2 MN (c1 (vA AL "things_by_name") aa) ag))
def vV:Nat->Option (List D->Option D):=λc=>match c with
 |14=>Z xS
 |_=>U
def ye:=dr 2 2 (vw (c2 Dh (c1 (vA Bb "mosts_by_name") aa) ag))
def xt:Nat->Option (List D->Option D):=λc=>match c with
 |14=>Z ye
 |_=>U
def yf:=dr 2 2 (vw (c2 Dh (c1 (vA Bc "verbs_by_word") aa) ag))
def xh:Nat->Option (List D->Option D):=λc=>match c with
 |14=>Z yf
 |_=>U
def MP:=dr 1 1 (vw (c1 (vA Bv "your_name") aa))
def Aw:Nat->Option (List D->Option D):=λc=>match c with
 |14=>Z MP
 |_=>U
abbrev iO:=(cS "one")
abbrev kY:=(ax iO (a1 dh))
def wV:=dr 2 2 (a0 (en (cT (vq zp (ax ag f7))) (vw (c2 (j2 δ) aa (vM kY))) vz)
 (vw (wM (vq zp (ax ag (a1 iN))) (c2 (b? δ) aa dh))))
def zF:=dr 2 2 (vw (wM (c2 yc aa aN) (vq zp (ax ag (a1 (cS "here"))))))
def Bi:=dr 2 2 (vw (mq (cT (c1 (wI (w5 "str")) ag)) (vR vV "thing_of" aa bQ) aN))
def Ai:=dr 3 3 (vw (wM (c2 yc (vq Bi cI) aN) (c2 (b? δ) (c1 (vA wq "kind") (vq Bi cI)) ai)))
abbrev dj:=(ax aa cv)
def B5:=dr 3 3 (vw (H4 (vq wV cu) (H4 (vq zF cu) (c2 yc (vq Bi dj) aN))))
def CG:=dr 3 3 (a0 (en (xC (cT (vq wV cu)) (cT (vq zF cu))) (vw dB) vz)
 (vw (wM (c2 yc (vq Bi dj) aN) (vR wR "can_hold" (vq Bi dj) vO))))
def EJ:=dr 3 3 (a0 (en (cT (vq wV cu)) (vw dB) vz)
 (vw (wM (c2 yc (vq Bi dj) aN) (Ht (vq Ai (ax aa (ax ai (a1 cz))))))))
def yT:=dr 4 5 (a0 (en (xC (w9 (cT (vq AN fH))) (cT (c2 NQ au az))) (vw cg) vz)
 (a0 (en (cT (vq wV cu)) (vw (c2 zQ au (cC Bf))) vz)
 (a0 (vI 4 (mq (cT (c1 (wI (w5 "str")) ai)) (vR xt "most_of" aa cv) aN))
 (vw (wM (c2 yc aG aN) (c2 zQ au aG))))))
set_option r "kO B2 term;sS D2 place" in abbrev ϑ0:=(ax aa (ax ag (a1 (c1 (vA ϑ1 "ϑ2") ai))))
def GE:=dr 3 3 (a0 (en (xC (w9 (cT (vq EJ kO))) (w9 (cT (vq CG sS)))) (vw cg) vz)
 (vw (H4 (c2 (b? γ) (c1 (vA B2 "term") ai) (vR Aw "you" aa vO)) (vq Ai (ax aa (ax (c1 (vA D2 "place") ai) (a1 cz)))))))
def B6:=dr 1 1 (vw (wM (c1 (wI (w5 "str")) aa) (yL zQ zQ ay (c1 wY aa) (cC FB))))
def AW:=dr 2 2 (vw (wM (vq y3 bQ) (wM (c2 yc (vR xh "verb_of" aa bQ) aN) (c2 (b? δ) (c1 (vA vT "name") (vR xh "verb_of" aa bQ)) ag))))
def zq:=dr 1 1 (vw (wM (c1 (wI (w5 "bool")) (c1 (vA zS "refuses") aa)) (H4 (Ht (c1 (vA zS "refuses") aa)) (c2 tm (c1 (vA BX "deeds") aa) (cL (vJ vO))))))
abbrev sM:=(ax aa (ax ag (ax (c1 (vA B2 "term") ai) (a1 (c1 (vA D5 "value") ai)))))
def z8:=dr 3 3 (a0 (en (cT (c1 (wI t_At) ai)) (vw (wM (vq B5 kO) (vq CG sS))) vz)
 (a0 (en (cT (c1 (wI (θ Yt Uc)) ai)) (vw (vq B5 kO)) vz)
 (a0 (en (cT (c1 (wI MO) ai)) (vw (vq yT sM)) vz)
 (a0 (en (cT (c1 (wI T7) ai)) (vw (wM (vq B5 kO) (vq wF (ax (c1 (vA wq "kind") ai) (a1 (cC Fv)))))) vz)
 (a0 (en (cT (c1 (wI Ue) ai)) (vw (wM (c2 (b? δ) ag dD) (vq yF (a1 (c1 (vA IM "word") ai))))) vz)
 (vw (c1 (wI Yu) ai)))))))
abbrev om:=(a1 (c2 Eh au ay))
def B7(g:List D->Option D):FS:=(a0 (en (cT (c2 (b? δ) au az)) (vw cg) vz)
 (a0 (en (cT (c1 (wI Ua) ai)) (vw (vq g (ax aa (ax ag (ax (c1 (vA Gv "inner") ai) om))))) vz)
 (a0 (en (cT (c1 (wI Oe) ai)) (vw (wM (vq g (ax aa (ax ag (ax (c1 (vA La "one") ai) om)))) (vq g (ax aa (ax ag (ax (c1 (vA Gw "other") ai) om)))))) vz)
 (vw (vq z8 ia)))))
def y6:Nat->List D->Option D
 |0=>dr 4 4 QR
 |n+1=>dr 4 4 (B7 (y6 n))
def GF:=dr 3 3 (a0 (en (cT (c1 (wI Yv) ai)) (vw (vq yT sM)) vz)
 (vw (wM (c1 (wI T9) ai) (vq GE ia))))
def DP:=dr 3 3 (vw (wM (vq wK (ax ai (a1 (cC Fw)))) (c1 zR (cL (vy 1 [0,1] (iL ai) (gN 0) wG (vq (y6 4) (ax ag (ax ai (ax aa (a1 (cC He)))))))))))
abbrev jz:=(ax ag (ax ai bI))
def DQ:=dr 3 3 (vw (wM (vq wK (ax ai (a1 (cC Fy)))) (c1 zR (cL (vy 1 [0,1] (iL ai) (gN 0) wG (vq GF jz))))))
abbrev sX:=(a1 (c1 (vA zi "verb") ag))
def GH:=dr 2 3 (a0 (en (xC (w9 (cT (c1 (wI Ub) ag))) (xC (w9 (cT (vq AW (ax aa sX)))) (w9 (cT (vq B6 (a1 (c1 (vA Fu "text") ag))))))) (vw cg) vz)
 (a0 (vI 2 (c1 (vA yd "form") (vR xh "verb_of" aa sX)))
 (vw (wM (vq DP (ax aa (ax ai (a1 (c1 (vA D3 "tests") ag))))) (wM (vq DQ (ax aa (ax ai (a1 (c1 (vA BX "deeds") ag))))) (vq zq bQ))))))
def Aj:FS:=(a0 (v8 (vq BC (ax ag (ax ai (ax au (ax aG (ax bc (a1 (cL (wm zm vO))))))))))
 (a0 (wD 14 0 "kept_things" (cL (yj ag)))
 (a0 (wD 14 0 "kept_marks" (cL (yj ai)))
 (a0 (wD 14 0 "kept_dark" (cL (yj au)))
 (a0 (wD 14 0 "kept_ways" (cL (yj aG)))
 (a0 (wD 14 0 "kept_verbs" (cL (yj bc)))
 (a0 (wD 14 0 "shared_verbs" (cL (wm zm vO)))
 (a0 (wD 14 0 "your_name" (Ek 16 (c2 b1 (vR yP "of_kind" aa (a1 hU)) az)))
 (a0 (wD 14 0 "things_by_name" (vq GA bQ))
 (a0 (wD 14 0 "mosts_by_name" (vq z7 cu))
 (a0 (wD 14 0 "verbs_by_word" (Ek 16 (vq yR (a1 (vR yS "all_verbs" aa vO)))))
 (a0 (vI 7 (Ek 16 (wM (vq wK (ax bu (a1 (cC FH)))) (c1 zR (cL (vy 1 [0] (iL bu) (gN 0) wG (vq GH fI)))))))
 (a0 (v8 (vq vG (ax b9 (a1 (cS "rules are a list of at most 20 rules, each as it may be")))))
 (a0 (wD 14 0 "kept_rules" (cL (yj bu)))
 (a0 (wD 14 0 "shared_rules" (Ek 16 (cL (wm AV (ax (c1 (vA Bv "your_name") aa) cM)))))
 (a0 (wD 14 0 "copied_rules" (cL (vy 1 [] (iL bu) (gN 0) wG (vq GB bI))))
 (wD 14 0 "rules_by_verb" (Ek 16 (vq J6 (a1 (cL (xi (c1 (vA BW "copied_rules") aa) (c1 (vA BY "shared_rules") aa)))))))))))))))))))))))
def Ak:=rr 14 6 8 Aj
def Hw:=dr 2 2 (vw (c2 (j2 δ) ag (c1 (vA El "kept_dark") aa)))
def FJ:=dr 1 1 (wQ (yj (c1 (vA AJ "kept_marks") aa)))
def Eo:=dr 1 1 (wQ (vy 1 [] (iL (c1 (vA xG "kept_things") aa)) (gN 0) wG (c1 (vA vT "name") aa)))
def Bj:=dr 1 1 (wQ (p' (cL (vy 1 [] (iL (c1 (vA Bu "kept_ways") aa)) (gN 0) wG (c2 b1 aa ay)))))
def xJ:=dr 2 2 (wQ (yj (DC (c1 (vA zh "rules_by_verb") aa) ag (cL (vJ vO)))))
abbrev hJ:=(cS "at")
abbrev kI:=(cS "mark")
abbrev sN:=(ax (c1 (vA xG "kept_things") aa) (a1 (c1 (vA AJ "kept_marks") aa)))
def BE:=dr 1 3 (a0 (vI 1 (cL (vy 1 [] (iL (c1 (vA xG "kept_things") aa)) (gN 0) (cT (c2 (b? γ) (c1 (vA wq "kind") aa) cz)) (vM (ax hJ oj)))))
 (a0 (vI 2 (cL (vy 1 [] (iL (cL (wm zl sN))) (gN 0) wG (vM (ax kI bI)))))
 (wQ (Gr (cL (xi ag ai))))))
set_option r "zK Hw;z9 FJ;yy Eo;yg Bj;yX xJ;Bk BE" in def ϑ0:Nat->Option (List D->Option D):=λc=>match c with
 |14=>Z ϑ1
 |_=>U
def CH:=dr 1 3 (a0 (Iw 1)
 (a0 (yb (iL (vR z9 "own_marks" aa vO)) (gN 2) (zC 1 (c1 (vA vT "name") ai) (c1 (vA xf "start") ai)))
 (vw (rm 1))))
def yQ:=dr 3 3 (a0 (en (cT (c2 (b? δ) (c2 b1 ai az) hJ)) (vw (c1 (vA xf "start") (vR vV "thing_of" aa (a1 (c2 b1 ai ay))))) vz)
 (vw (DC ag (c2 b1 ai ay) az)))
abbrev tL:=(ax aa (a1 (vq yQ jz)))
def BF:=dr 1 2 (a0 (vI 1 (vq CH bI))
 (vw (zd (cL (vy 1 [0,1] (iL (vR Bk "parts" aa vO)) (gN 0) wG (vM tL))))))
def CJ:=dr 2 3 (a0 (yb (iT aa) (gN 2) (en (cT (c2 (b? δ) (c2 b1 ai az) ag)) (vw (c2 b1 ai ay)) vz))
 (vw aN))
abbrev tJ:=(a1 (vM (ax hJ bQ)))
def Bl:=dr 2 2 (vw (vq CJ (ax aa tJ)))
abbrev tK:=(a1 (vM (ax kI bQ)))
def Ax:=dr 2 2 (vw (vq CJ (ax aa tK)))
def Bm:=dr 3 3 (vw (zd (cL (vy 1 [1,2] (iT aa) (gN 0) wG (mq (cT (c2 (b? δ) (c2 b1 aa az) ag)) (vM cu) aa)))))
abbrev k6:=(ax ag cM)
def yG:=qi 3 5 (a0 (ya 3 (vJ vO))
 (a0 (vI 4 (vq Bl cu))
 (a0 (whL (cT (c2 yc aG aN)) (a0 (v8 (Ae 3 aG))
 (vI 4 (vq Bl k6))) 50)
 (wQ (Ge 3)))))
abbrev tG:=(a1 (vR Aw "you" aa vO))
def Ay:=dr 2 2 (vw (vq Bl (ax ag tG)))
def Ug:=dr 3 3 (vw (c2 (j2 δ) (vR Aw "you" aa vO) (cL (wm yG ia))))
def zG:=dr 3 3 (vw (wM (c2 (b? δ) (c1 (vA wq "kind") (vR vV "thing_of" aa cv)) dU) (c2 (b? δ) (vq Ax cu) az)))
abbrev oG:=(ax aa k6)
def zH:=dr 4 5 (a0 (yb (iL (cL (wm yG ia))) (gN 4) (a0 (en (cT (c2 (b? δ) aG au)) (vw dB) vz)
 (en (cT (vq zG oG)) (vw cg) vz)))
 (vw cg))
abbrev kP:=(ax ag (ax ai (a1 au)))
abbrev ox:=(ax aa kP)
def AX:=dr 4 4 (vw (wM (c2 (b? δ) (vq Ax cu) ay) (vq zH ox)))
abbrev tD:=(ax ag (ax ai (ax aa fH)))
def FK:=dr 2 3 (a0 (vI 2 (vq Ay cI))
 (a0 (en (w9 (cT (vR zK "is_dark" aa cv))) (vw dB) vz)
 (vw (c1 Hv (cL (vy 1 [0,1,2] (iL (vR yP "of_kind" aa (a1 fZ))) (gN 0) wG (vq AX tD)))))))
abbrev sQ:=(ax aa (ax ag (ax ai tG)))
abbrev tu:=(ax aa (ax ag (ax ai (a1 (vq Ay cI)))))
def xx:=dr 3 4 (a0 (vI 3 (vR vV "thing_of" aa cv))
 (a0 (en (xC (cT (c2 zw au aN)) (w9 (cT (vR wL "is_plainly" au vO)))) (vw cg) vz)
 (a0 (en (cT (vq zH sQ)) (vw dB) vz)
 (vw (wM (vq zH tu) (vq FK cI))))))
def EK:=qi 2 2 (wQ (Cr (cL (vy 1 [0,1] (iL (vR yy "names" aa vO)) (gN 0) (cT (vq xx jz)) aa))))
def Bn:=dr 2 3 (a0 (vI 2 (mq (cT (c2 zw ag aN)) aN (vR xh "verb_of" aa oo)))
 (vw (wM (c2 yc ai aN) (c2 (b? δ) (c1 (vA yd "form") ai) dD))))
abbrev dW:=(a1 aN)
abbrev sU:=(ax (c2 b1 ag ay) (a1 (c2 b1 ag bA)))
abbrev iQ:=(ax aN dW)
def xu:=dr 2 2 (a0 (en (xC (cT (c2 zw ag aN)) (cT (vq Bn cI))) (vw (vM iQ)) vz)
 (vw (vM sU)))
def xb:=dr 4 4 (a0 (en (cT (c2 (b? δ) au (cS "here"))) (vw (vq Ay cI)) vz)
 (a0 (en (cT (c2 (b? δ) au cK)) (vw (c2 b1 (vq xu dj) az)) vz)
 (a0 (en (cT (c2 (b? δ) au iN)) (vw (c2 b1 (vq xu dj) ay)) vz)
 (vw au))))
def EL:=dr 2 3 (a0 (vI 2 (vR vV "thing_of" aa bQ))
 (vw (mq (xC (cT (c2 zw ai aN)) (cT (c2 (b? δ) (c1 (vA wq "kind") ai) cz))) (cL (vJ vO)) (cL (vJ tJ)))))
def Am:=dr 2 2 (vw (mq (cT (c2 zw (vR xt "most_of" aa bQ) aN)) (cL (vJ vO)) (cL (vJ tK))))
def FL:=dr 3 4 (a0 (vI 3 (vR vV "thing_of" aa cv))
 (vw (wM (c2 (b? γ) (vq EL cI) (cL (vJ vO))) (wM (c2 yc au aN) (wM (vR wR "can_hold" au vO) (c2 (b? γ) ai ag))))))
def EM:=dr 3 3 (vw (wM (c2 (b? γ) (vq Am cI) (cL (vJ vO))) (c2 zQ ai (vR xt "most_of" aa bQ))))
set_option r "hX B2 term;oe D2 place" in abbrev ϑ0:=(ax ag (ax ai (ax au (a1 (c1 (vA ϑ1 "ϑ2") aa)))))
def EN:=dr 4 6 (a0 (vI 4 (vq xb hX))
 (a0 (vI 5 (vq Bl (ax ai cM)))
 (vw (wM (c2 yc bc aN) (c2 (b? δ) bc (vq xb oe))))))
abbrev ou:=(ax ai (a1 (vq xb hX)))
def Hl:=dr 4 4 (vw (vq Ug (ax ag ou)))
def FM:=dr 4 4 (vw (vq xx (ax ag ou)))
def AY:=dr 4 5 (a0 (vI 4 (vq Ax ou))
 (vw (wM (c2 yc aG aN) (c2 (b? δ) aG (c1 (vA D5 "value") aa)))))
def FN:=dr 4 5 (a0 (vI 4 (vR vV "thing_of" ag (a1 (vq xb hX))))
 (vw (wM (c2 yc aG aN) (c2 (b? δ) (c1 (vA wq "kind") aG) (c1 (vA wq "kind") aa)))))
def FP:=dr 4 4 (vw (wM (vq Bn (ax ag fH)) (c2 (b? δ) (c2 b1 au ay) (c1 (vA IM "word") aa))))
def Hm:=dr 4 4 (vw (vq FK cu))
def zV(g:Nat->Option (List D->Option D)):FS:=(vw (Ht (vR g "holds" (c1 (vA Gv "inner") aa) kP)))
def zr(g:Nat->Option (List D->Option D)):FS:=(vw (wM (vR g "holds" (c1 (vA La "one") aa) kP) (vR g "holds" (c1 (vA Gw "other") aa) kP)))
def CK:Nat->Option (List D->Option D):=λc=>match c with
 |3=>Z EN
 |4=>Z Hl
 |5=>Z FM
 |6=>Z AY
 |7=>Z FN
 |8=>Z FP
 |15=>Z Hm
 |_=>U
def wz:Nat->Nat->Option (List D->Option D)
 |0=>CK
 |n+1=>λc=>match c with
  |9=>Z (dr 4 4 (zV (wz n)))
  |10=>Z (dr 4 4 (zr (wz n)))
  |c=>CK c
abbrev kR:=(ax ag (ax ai (a1 bc)))
abbrev kU:=(a1 bc)
abbrev oA:=(ax aG kU)
def Bo:=dr 4 6 (a0 (vI 4 (vq xb hX))
 (a0 (vI 5 (vq xb oe))
 (a0 (en (xC (w9 (cT (vq FL (ax ag oA)))) (cT (c2 (j2 δ) aG (cL (wm yG kR))))) (vw aN) vz)
 (vw (vq Bm (ax ai (ax (vM (ax hJ cM)) kU)))))))
abbrev og:=(a1 (c1 (vA D5 "value") aa))
def EO:=dr 4 5 (a0 (vI 4 (vq xb hX))
 (a0 (en (w9 (cT (vq EM (ax ag (ax aG og))))) (vw aN) vz)
 (vw (vq Bm (ax ai (ax (vM (ax kI cM)) og))))))
def CL:Nat->Option (List D->Option D):=λc=>match c with
 |11=>Z Bo
 |12=>Z EO
 |_=>U
def zW:=dr 2 3 (a0 (vI 2 (mq (cT (c1 (wI (w5 "str")) ag)) (vR vV "thing_of" aa bQ) aN))
 (vw (wM (c2 yc ai aN) (vR wL "is_plainly" ai vO))))
def DR:=dr 4 4 (a0 (en (cT (c2 (b? δ) ag dh)) (vw (wM (vq zW dj) (vq zW (ax aa fH)))) vz)
 (a0 (en (cT (c2 yc au aN)) (vw cg) vz)
 (a0 (en (cT (c2 (b? δ) ag dD)) (vw (wM (c1 (wI (w5 "str")) ai) (c2 (j2 δ) ai (vR yg "way_words" aa vO)))) vz)
 (vw (mq (cT (c2 (b? δ) ag iP)) (c2 zw ai aN) (vq zW dj))))))
def CM:=dr 2 3 (a0 (en (xC (w9 (cT (c1 (wI (w5 "tuple")) ag))) (xC (cT (c2 (b? γ) (c1 wY ag) bH)) (w9 (cT (c1 (wI (w5 "str")) (c2 b1 ag az)))))) (vw cg) vz)
 (a0 (vI 2 (vR xh "verb_of" aa oo))
 (vw (wM (c2 yc ai aN) (wM (c2 (b? δ) (c1 (vA vT "name") ai) (c2 b1 ag az)) (vq DR (ax aa (ax (c1 (vA yd "form") ai) sU))))))))
def yU:=dr 2 2 (en (w9 (cT (vq CM cI))) QR vz)
def Lb:=dr 4 5 (a0 (yb (iL (c1 (vA D3 "tests") au)) (gN 4) (en (w9 (cT (vR (wz 3) "holds" aG ia))) (vw cg) vz))
 (vw dB))
abbrev sY:=(a1 (c1 (vA Fu "text") au))
def D7:=dr 4 6 (a0 (en (cT (c1 (vA zS "refuses") au)) (vw (vM (ax (vM (ax (cS "refused") sY)) bQ))) vz)
 (a0 (vI 4 ag)
 (a0 (yb (iL (c1 (vA BX "deeds") au)) (gN 5) (a0 (vI 4 (vR CL "done" bc (ax aa (ax aG cv))))
 (en (cT (c2 zw aG aN)) (vw (vM (ax (vM (ax (cS "refused") (a1 (cC G9)))) bQ))) vz)))
 (vw (vM (ax (vM (ax (cS "told") sY)) cM))))))
def ER:=dr 4 6 (a0 (yb (iT (vq xu dj)) (gN 4) (en (xE (cT (c2 yc aG aN)) (cT (c2 (j2 γ) aG au))) (vw (vM (ax (vM (ax (cS "unseen") cM)) bQ))) vz))
 (a0 (yb (iL (vR yX "rules_to_try" aa (a1 (c2 b1 ai az)))) (gN 5) (en (cT (vq Lb (ax aa kR))) (vw (vq D7 (ax aa kR))) vz))
 (vw (vM (ax (vM (ax (cS "refused") (a1 (cC Di)))) bQ)))))
def Lc:=dr 3 4 (a0 (v8 (vq yU dj))
 (a0 (vI 3 (cL (vy 1 [0,1] (iT (vq xu dj)) (gN 0) (cT (vq xx jz)) aa)))
 (vw (vq ER ox))))
def yH:FS:=(a0 (en (cT (c2 (b? δ) ag iP)) (wQ (vJ (a1 (vM iQ)))) vz)
 (a0 (en (cT (c2 (b? δ) ag dD)) (wQ (vy 1 [] (iL (vR yg "way_words" aa vO)) (gN 0) wG (vM (ax aa dW)))) vz)
 (a0 (vI 2 (cL (vy 1 [0] (iL (vR yy "names" aa vO)) (gN 0) (cT (vR wL "is_plainly" (vR vV "thing_of" ag bI) vO)) aa)))
 (a0 (en (cT (c2 (b? δ) ag iO)) (wQ (vy 1 [] (iL ai) (gN 0) wG (vM (ax aa dW)))) vz)
 (a0 (ya 3 (vJ vO))
 (a0 (yb (iL ai) (gN 4) (v8 (Ii 3 (vy 1 [4] (iL ai) (gN 0) wG (vM fI)))))
 (wQ (Ge 3))))))))
def yI:=qi 2 5 yH
abbrev kE:=(wx (gN 0) (wx (gN 1) Dg))
abbrev kQ:=(ax aa (a1 (c1 (vA yd "form") ai)))
abbrev kZ:=(ax (c1 (vA vT "name") ai) cI)
def ES:FS:=(a0 (ya 1 (vJ vO))
 (a0 (yb (iL (vR yS "all_verbs" aa vO)) (gN 2) (v8 (Ii 1 (vy 2 [2] (iL (cL (wm yI kQ))) (gT kE 2) wG (vM kZ)))))
 (wQ (Ge 1))))
def ET:=qi 1 3 ES
abbrev di:=(cS "")
def CN:=dr 1 1 (vw (zd (cL (vy 1 [] (iL (cL (ξ aa (cS " ")))) (gN 0) (xE (cT (c2 (b? γ) aa di)) (cT (c2 (j2 γ) aa kH))) aa))))
abbrev sO:=(ax (BV aa tz (mr ai)) (a1 (BV aa (mr (c2 wH ai ay)) tz)))
def Dl:FS:=(a0 (en (cT (c2 (j2 γ) ag aa)) (vw aN) vz)
 (a0 (vI 2 (c2 o? aa ag))
 (a0 (vI 3 (vM sO))
 (vw (mq (cT (c2 R' (vM vO) au)) aN au)))))
def Aa:=dr 2 4 Dl
def CO:=dr 2 2 (a0 (en (cT (c2 (b? δ) (c1 (vA yd "form") aa) iP)) (vw (mq (cT (c2 (b? δ) (c1 wY ag) az)) (vM vO) aN)) vz)
 (a0 (en (cT (c2 (b? δ) (c1 (vA yd "form") aa) dh)) (vw (vq Aa (ax ag sV))) vz)
 (a0 (en (cT (c2 (b? δ) (c1 (vA yd "form") aa) dD)) (vw (mq (cT (c2 (b? δ) (c1 wY ag) ay)) (vM bQ) aN)) vz)
 (vw (mq (cT (c2 Gg (c1 wY ag) az)) (vM bQ) aN)))))
def y7:=dr 3 3 (vw (c1 zR (cL (vy 1 [1,0] (iT ai) (gN 0) wG (c2 (j2 δ) aa (c1 (vA xP "words") (vR vV "thing_of" ai bQ)))))))
abbrev kJ:=(cS "command")
def IS:=dr 3 3 (a0 (en (cT (c2 (j2 γ) ai (vR yg "way_words" aa vO))) (vw (vM (ax (cS "noway") cv))) vz)
 (vw (vM (ax kJ (a1 (vM (ax (c1 (vA vT "name") ag) (ax ai dW))))))))
abbrev bP:=(cV 8)
def BG:=dr 4 9 (a0 (vI 4 (cL (wm EK cI)))
 (a0 (ya 5 (vJ vO))
 (a0 (yb (iT au) (gN 6) (a0 (vI 7 (cL (vy 1 [0,6] (iL aG) (gN 0) (cT (vq y7 (ax ag dj))) aa)))
 (a0 (en (cT (c2 (b? δ) (c1 wY b9) az)) (vw (vM (ax (cS "none") (a1 bu)))) vz)
 (a0 (en (cT (c2 Gg (c1 wY b9) ay)) (vw (vM (ax (cS "which") (ax bu (a1 (zd b9)))))) vz)
 (v8 (Ae 5 (c2 b1 b9 az)))))))
 (a0 (vI 8 (cL (xi (rm 5) (cL (vJ iQ)))))
 (vw (vM (ax kJ (a1 (vM (ax (c1 (vA vT "name") ai) (ax (c2 b1 bP az) (a1 (c2 b1 bP ay)))))))))))))
abbrev oq:=(ax bc (a1 bu))
def Of:=dr 3 7 (a0 (vI 3 (vq CN cv))
 (a0 (vI 4 (mq (cT (c2 Gg (c1 wY au) az)) (c2 b1 au az) di))
 (a0 (vI 5 (vR xh "verb_of" aa cM))
 (a0 (en (cT (c2 zw bc aN)) (vw (vM (ax (cS "noverb") cM))) vz)
 (a0 (vI 6 (vq CO (ax bc (a1 (K4 au (Z 1) U)))))
 (a0 (en (cT (c2 zw bu aN)) (vw (vM (ax (cS "noform") (a1 (c1 (vA vT "name") bc))))) vz)
 (a0 (en (cT (c2 (b? δ) (c1 (vA yd "form") bc) dD)) (vw (vq IS (ax aa (ax bc (a1 (c2 b1 (c2 b1 bu az) az)))))) vz)
 (vw (vq BG (ax aa (ax ag oq)))))))))))
def yz:=dr 2 2 (a0 (en (cT (c2 NQ ag (c1 wY aa))) (vw (c2 b1 aa ag)) vz)
 (vw az))
abbrev n4:=(cC (.int 2147483647))
def yJ:=qi 2 6 (a0 (ya 2 (vJ vO))
 (a0 (vI 3 aa)
 (a0 (yb (u3 ag) (gN 4) (en (xE (cT (c2 dGeI aa (c2 SK (cC (.int 10)) (cC (.int 18))))) (cT (c2 Gg au az))) (a0 (v8 (Ae 2 (c2 vX au (cC (.int 10007)))))
 (vI 3 (c2 wW au (cC (.int 10007))))) (a0 (vI 5 (c2 vX (c2 yZ (c2 wH (c2 wH (c2 vX aa n4) (c2 yZ (cC (.int 7919)) aG)) ay) (cC (.int 48271))) n4))
 (a0 (vI 5 (c2 vX (c2 yZ bc (c2 wH (c2 wW bc (cC (.int 1009))) (cC (.int 69621)))) n4))
 (v8 (Ae 2 (c2 vX (c2 yZ bc (c2 wH (c2 wW bc (cC (.int 2003))) (cC (.int 40692)))) (cC (.int 2147483399)))))))))
 (wQ (Ge 2)))))
def CP:=dr 1 3 (a0 (vI 1 (cL (vJ (ax (cS "b") (ax (cS "ba") (ax (cS "bab") (ax (cS "babe") (ax (cS "c") (ax (cS "cab") (ax (cS "not") (ax jw (ax (cS "lit") (ax fZ (ax (cS "x") (ax (cS "xx") (ax jx (ax (cS "both") (a1 (cS "zz")))))))))))))))))))
 (a0 (vI 1 (cL (xi ag (cL (vJ (ax (cS "hall") (a1 (cS "seen"))))))))
 (a0 (vI 2 (c2 b1 (cL (vJ (ax di (ax di (ax (cS "q") (a1 (cS "ek"))))))) (c2 vX (c2 b1 aa az) ck)))
 (wQ (vy 1 [2,1,0] (u3 (cC (.int 14))) (gN 0) wG (c2 Dy ag (c2 b1 ai (c2 vX (c2 wH (c2 b1 au ay) (c2 yZ aa (c2 wH ay (c2 vX (c2 b1 au bA) (cC (.int 16)))))) (cC (.int 17))))))))))
set_option r "cD 5;dg 7;fX 8;fY 6" in abbrev ϑ0:=(cC (.int ϑ1))
abbrev sL:=(ax ay (ax ay (ax bA (ax bA (ax ck (ax fY (ax dg (a1 (cC (.int 24))))))))))
def CQ:=dr 2 7 (a0 (vI 2 (cL (vJ (ax (cS "red") (ax (cS "re") (ax (cS "taken") (ax (cS "old") (a1 (cS "openly")))))))))
 (a0 (vI 3 (cL (vJ (ax (cS "key") (ax (cS "keys") (ax (cS "bowl") (ax (cS "b") (a1 (cS "nothing")))))))))
 (a0 (vI 4 (c2 vX (c2 wH (c2 b1 aa bH) (c2 yZ ag (c2 b1 (cL (vJ sL)) (c2 vX (c2 b1 aa ck) fX)))) (cC (.int 25))))
 (a0 (vI 5 (c2 b1 (cL (vJ (ax di (ax (cS "q") (a1 (cS "zu")))))) (c2 vX (c2 b1 aa cD) bH)))
 (a0 (ya 6 (vJ (ax (c2 Dy (c2 b1 ai (c2 vX aG cD)) bc) (a1 (c2 Dy (c2 b1 au (c2 wW aG cD)) bc)))))
 (a0 (en (cT (c2 (b? δ) (c2 vX (c2 wW (c2 b1 aa fY) (c2 wH ay ag)) bH) az)) (v8 (Q? 6 (c2 vX (c2 wW (c2 b1 aa dg) (c2 wH ay ag)) bH) (c2 b1 (cL (vJ (ax (cS "x") (ax (cS "dusty") (a1 (cS "most")))))) (c2 vX (c2 wW (c2 b1 aa fX) (c2 wH ay ag)) bH)))) vz)
 (vw (zd (rm 6)))))))))
abbrev kK:=(cC (.int 12))
abbrev fG:=(cV 9)
abbrev jy:=(a1 b9)
def zL:=dr 2 10 (a0 (vI 2 (cL (Fh ag tz (mr (c2 wH ay (c2 vX (c2 b1 aa (cC (.int 9))) bH))))))
 (a0 (vI 3 (c2 b1 ag bH))
 (a0 (ya 4 (vy 1 [] (iL ai) (gN 0) wG (vM (ax aa (ax (vM (a1 cz)) (ax cz dW))))))
 (a0 (vI 5 (c2 b1 ai (c2 vX (c2 b1 aa (cC (.int 10))) (c1 wY ai))))
 (a0 (v8 (Ae 4 (vM (ax au (ax (vM (ax (cS "me") (a1 (cS "myself")))) (ax hU kU))))))
 (a0 (ya 6 (xi ai (cL (vJ (ax au (ax bc (ax bc fH)))))))
 (a0 (yb (u3 (c2 vX (c2 b1 aa (cC (.int 11))) fY)) (gN 7) (a0 (vI 8 (c2 b1 (cL (vJ (ax (cS "plain") (ax dU (ax fZ (ax (cS "fixed") (a1 dU))))))) (c2 vX (c2 b1 aa (c2 wH kK b9)) cD)))
 (a0 (v8 (Ae 4 (vM (ax (c2 b1 ag (c2 wH ck b9)) (ax (vq CQ (ax aa jy)) (ax bP (a1 (KM (c2 b1 bu (c2 vX (c2 wW (c2 b1 aa (c2 wH kK b9)) cD) (c1 wY bu)))))))))))
 (en (cT (c2 (b? δ) bP dU)) (v8 (Ae 6 (c2 b1 ag (c2 wH ck b9)))) vz))))
 (a0 (vI 9 (KM (c2 vX (c2 b1 aa (cC (.int 18))) (c1 wY aG))))
 (wQ (xi (cL (Fh (rm 4) (mr fG) tz)) (cL (Fh (rm 4) tz (mr fG)))))))))))))
def An:=dr 2 5 (a0 (ya 2 (vJ vO))
 (a0 (yb (u3 (c2 vX (c2 b1 aa (cC (.int 19))) bH)) (gN 3) (a0 (vI 4 (c2 wH ay (c2 vX (c2 b1 aa (c2 wH (cC (.int 20)) au)) bH)))
 (v8 (Ae 2 (vM (ax (c2 b1 ag (c2 wH (cC (.int 10)) au)) (ax (c2 vX (c2 wW (c2 b1 aa (c2 wH (cC (.int 20)) au)) bH) (c2 wH aG ay)) cM)))))))
 (wQ (Ge 2))))
def zI:=dr 2 3 (a0 (vI 2 (cL (vy 1 [] (iL aa) (gN 0) (xC (cT (c2 (b? δ) (c2 b1 aa bA) dU)) (cT (c2 (b? δ) (c2 b1 aa bA) fZ))) (vM (ax (c2 b1 aa az) (a1 ay))))))
 (wQ (xi ai (cL (vy 1 [] (iL ag) (gN 0) wG (vM (ax (c2 b1 aa az) n8)))))))
abbrev f6:=(cV 10)
abbrev sW:=(ax bP (ax fG (a1 f6)))
def Bp:=dr 3 11 (a0 (vI 3 (cL (vJ (ax (cS "north") (ax (cS "up") (ax (cS "in") (ax (cS "n") (a1 (cS "upward")))))))))
 (a0 (ya 4 (vJ vO))
 (a0 (yb (u3 (c2 vX (c2 b1 aa (cC (.int 22))) cD)) (gN 5) (a0 (vI 6 (c2 b1 aa (c2 wH (cC (.int 23)) bc)))
 (a0 (E9 (vM (ax (c2 b1 ag (c2 vX bu (c1 wY ag))) (ax (c2 b1 au (c2 vX (c2 wW bu bH) cD)) (a1 (c2 b1 ag (c2 vX (c2 wW bu (cC (.int 15))) (c1 wY ag))))))) (gT (wx (gN 7) (wx (gN 8) (wx (gN 9) Dg))) 3))
 (a0 (vI 10 (c2 b1 (cL (xi (cL (vJ iQ)) (cL (vy 1 [] (iL ai) (gN 0) wG (c2 b1 aa az))))) (c2 vX (c2 wW bu (cC (.int 45))) (c2 wH bA (c1 wY ai)))))
 (en (GY (cT (c2 tm (cL (vy 1 [7,8] (iL aG) (gN 0) (cT (c2 (b? δ) (K4 aa U (Z 2)) (vM cu))) aa)) (cL (vJ vO))))) (v8 (Ae 4 (vM (ax b9 sW)))) vz)))))
 (wQ (Ge 4)))))
abbrev tE:=(ax (vM vO) (ax iP dW))
abbrev oE:=(ax iO dW)
def CS:=dr 1 2 (a0 (vI 1 (cL (vJ (ax (vM (ax (cS "give") (ax (vM (ax (cS "hand") (a1 (cS "g")))) (ax dh (a1 (cS "to")))))) (ax (vM (ax (cS "hum") tE)) (a1 (vM (ax (cS "push") (ax (vM (a1 (cS "shove"))) oE)))))))))
 (a0 (vI 1 (cL (xi ag (cL (vJ (ax (vM (ax (cS "sail") (ax (vM (a1 (cS "s"))) (ax dD dW)))) (ax (vM (ax (cS "tie") (ax (vM vO) (ax dh (a1 (cS "with")))))) (a1 (vM (ax (cS "l") (ax (vM (ax (cS "look") (a1 (cS "peer")))) oE)))))))))))
 (wQ (vy 1 [1,0] (u3 fY) (gN 0) (cT (c2 (b? δ) (c2 ε (c2 ψ (c2 b1 ai (cC (.int 28))) aa) ay) ay)) (c2 b1 ag aa)))))
def xK:=qi 0 2 (a0 (vI 0 (cL (vJ sG)))
 (a0 (vI 1 (cL (vy 1 [] (iL aa) (gN 0) wG (vM (ax aa (ax (vM vO) oE))))))
 (wQ (xi ag (cL (vJ (ax (vM sT) (ax (vM (ax (cS "go") (ax (vM vO) (ax dD dW)))) (a1 (vM (ax (cS "wait") tE)))))))))))
abbrev dE:=(cV 11)
abbrev kM:=(cC (.int 90))
abbrev sJ:=(wx (gN 9) (wx (gN 10) Dg))
abbrev oa:=(ax ag (ax ai (ax au (ax aG (a1 (c2 Eh bc ay))))))
abbrev jv:=(ax cK (ax iN (a1 cK)))
def Bq(g:List D->Option D):FS:=(a0 (vI 6 (cL (xi ai (DC (G6 [("one", (cL (vJ f7))),("two", (cL (vJ jv)))]) ag (cL (vJ vO))))))
 (a0 (vI 7 (c2 b1 bu (c2 vX (c2 wW aa (cC (.int 9))) (c1 wY bu))))
 (a0 (vI 8 (c2 vX aa (cC (.int 9))))
 (a0 (en (cT (c2 (b? δ) bP az)) (vw (vM (ax hJ (ax b9 (a1 (c2 b1 au (c2 vX (c2 wW aa kM) (c1 wY au)))))))) vz)
 (a0 (en (xC (cT (c2 (b? δ) bP ay)) (cT (c2 (b? δ) bP bA))) (vw (vM (ax (c2 b1 (cL (vJ (ax (cS "has") (a1 (cS "seen"))))) (c2 Eh bP ay)) jy))) vz)
 (a0 (en (xE (cT (c2 (b? δ) bP bH)) (cT (c2 (b? γ) aG (cL (vJ vO))))) (a0 (E9 (c2 b1 aG (c2 vX (c2 wW aa kM) (c1 wY aG))) (gT sJ 2))
 (vw (vM (ax (cS "marked") (ax fG (a1 (c2 vX (c2 wW aa (cC (.int 900))) (c2 wH f6 ay)))))))) vz)
 (a0 (en (cT (c2 (b? δ) bP ck)) (vw (vM (ax (cS "kind") (ax b9 (a1 (c2 b1 (cL (vJ (ax (cS "plain") (ax dU (ax fZ (a1 (cS "fixed"))))))) (c2 vX (c2 wW aa kM) ck))))))) vz)
 (a0 (en (xE (cT (c2 (b? δ) bP cD)) (cT (c2 (b? δ) ag dD))) (vw (vM (ax (cS "word") (a1 (c2 b1 (cL (vJ (ax (cS "north") (ax (cS "up") (a1 (cS "in")))))) (c2 vX (c2 wW aa kM) bH)))))) vz)
 (a0 (en (xE (cT (c2 (b? δ) bP fY)) (cT (c2 Gg bc ay))) (vw (vM (ax (cS "not") (a1 (vq g (ax (c2 wW aa dg) oa)))))) vz)
 (a0 (en (xE (cT (c2 (b? δ) bP dg)) (cT (c2 Gg bc ay))) (a0 (vI 11 (vq g (ax (c2 wW aa (cC (.int 11))) oa)))
 (vw (vM (ax (cS "both") (ax dE (a1 (vq g (ax (c2 wW aa (cC (.int 13))) oa)))))))) vz)
 (vw (vM (a1 (cS "lit"))))))))))))))
def xk:Nat->List D->Option D
 |0=>dr 6 12 QR
 |n+1=>dr 6 12 (Bq (xk n))
abbrev kF:=(cC (.int 50))
abbrev nZ:=(cS "move")
set_option r "5 u bc;6 P au" in abbrev nϑ0:=(ax nZ (ax bϑ1 (a1 (c2 b1 ϑ2 (c2 vX (c2 wW aa kF) (c1 wY ϑ2))))))
abbrev sR:=(ax hG (ax cK (a1 (c2 vX (c2 wW aa kF) ck))))
def zX:=dr 7 11 (a0 (vI 7 (cL (xi ai (DC (G6 [("one", (cL (vJ f7))),("two", (cL (vJ jv)))]) ag (cL (vJ vO))))))
 (a0 (vI 8 (c2 b1 b9 (c2 vX (c2 wW aa cD) (c1 wY b9))))
 (a0 (en (xE (cT (c2 (b? δ) (c2 vX aa cD) az)) (cT (c2 (b? γ) aG (cL (vJ vO))))) (a0 (E9 (c2 b1 aG (c2 vX (c2 wW aa kF) (c1 wY aG))) (gT sJ 2))
 (vw (vM (ax hG (ax fG (a1 (c2 vX (c2 wW aa (cC (.int 500))) (c2 wH f6 ay)))))))) vz)
 (a0 (en (xE (cT (c2 (b? δ) (c2 vX aa cD) ay)) (cT (c2 (j2 δ) ag (vM kY)))) (vw (vM sR)) vz)
 (a0 (en (cT (c2 (b? δ) bP bu)) (vw (vM n5)) vz)
 (vw (vM n6)))))))
abbrev sE:=(ax (cS "So be it.") (ax (cS " two  blanks ") (ax (cS "x") (ax (cS "refuses at it") (a1 (c2 Iy (cS "~") (cC (.int 60))))))))
abbrev sH:=(ax (cV 13) (ax (cV 17) (ax (cV 19) (ax (cV 20) (a1 (cV 18))))))
abbrev dF:=(cV 12)
def Ao:=dr 4 21 (a0 (vI 4 (cL (wm yJ (ax aa (a1 (cC (.int 40)))))))
 (a0 (vI 5 (cL (vy 1 [] (iL ag) (gN 0) (cT (c2 (b? δ) (c2 b1 aa bA) cz)) (c2 b1 aa az))))
 (a0 (vI 6 (c2 b1 (cL (vy 1 [] (iL ag) (gN 0) (cT (c2 (b? δ) (c2 b1 aa bA) hU)) (c2 b1 aa az))) az))
 (a0 (vI 7 (cL (vy 1 [] (iL ag) (gN 0) (cT (c2 (b? γ) (c2 b1 aa bA) cz)) (c2 b1 aa az))))
 (a0 (vI 8 (cL (xi (cL (xi bc (cL (vJ (ax bu (a1 (cS "here"))))))) (cL (vy 1 [] (iL ag) (gN 0) (cT (c2 (b? δ) (c2 b1 aa bA) dU)) (c2 b1 aa az))))))
 (a0 (vI 9 (cL (xi au (cL (wm xK vO)))))
 (a0 (ya 10 (vJ vO))
 (a0 (yb (u3 (c2 vX (c2 b1 aG az) cD)) (gN 11) (a0 (vI 12 (cL (Fh aG (mr (c2 wH ay (c2 yZ dg dE))) (mr (c2 wH fX (c2 yZ dg dE))))))
 (a0 (E9 (c2 b1 fG (c2 vX (c2 b1 dF az) (c1 wY fG))) (gT (wx (gN 13) (wx (gN 14) (wx (gN 15) (wx (gN 16) Dg)))) 4))
 (a0 (vI 17 (cL (vy 1 [15,7,8,2,12] (u3 (c2 vX (c2 b1 dF ay) bH)) (gN 0) wG (vq (xk 3) (ax (c2 b1 bc (c2 wH bA aa)) (ax ag (ax ai (ax au (ax aG (a1 bH))))))))))
 (a0 (vI 18 (c2 (b? δ) (c2 vX (c2 wW (c2 b1 dF ay) bH) ck) az))
 (a0 (vI 19 (cL (vy 1 [15,7,8,2,5,6,12] (u3 (c2 vX (c2 wW (c2 b1 dF ay) kK) bH)) (gN 0) wG (vq zX (ax (c2 b1 b9 (c2 wH ck aa)) (ax ag (ax ai (ax au (ax aG oq)))))))))
 (a0 (en (cT (cV 18)) (vI 19 (cL (vJ vO))) vz)
 (a0 (vI 20 (c2 b1 (cL (vJ sE)) (c2 vX (c2 b1 dF fY) cD)))
 (v8 (Ae 10 (vM sH)))))))))))
 (wQ (Ge 10))))))))))
def CT:=dr 1 10 (a0 (vI 1 (cL (wm yJ (ax (vq yz (ax aa (a1 az))) (a1 (cC (.int 32)))))))
 (a0 (vI 2 (vq CP bQ))
 (a0 (vI 3 (vq zL cu))
 (a0 (vI 4 (vq An cu))
 (a0 (vI 5 (cL (vy 1 [] (iL au) (gN 0) (cT (c2 (b? δ) (c2 b1 aa bA) cz)) (c2 b1 aa az))))
 (a0 (vI 6 (vq zI (ax au cM)))
 (a0 (vI 7 (cL (vy 1 [5,1] (u3 (c1 wY bc)) (gN 0) (cT (c2 (b? δ) (c2 vX (c2 wW (c2 b1 ai (cC (.int 29))) (c2 b1 (cL (vJ (ax ay (ax ck (a1 (cC (.int 16))))))) aa)) ck) ay)) (c2 b1 ag aa))))
 (a0 (vI 8 (vq CS bQ))
 (a0 (vI 9 (vq Ao (ax (vq yz (ax aa (a1 ay))) (ax au (ax bu (a1 bP))))))
 (vw (vM (ax au (ax aG (ax b9 (ax (vq Bp (ax ag oq)) (ax bP (a1 fG)))))))))))))))))
abbrev ju:=(ax (c2 b1 aa ay) (a1 (c2 b1 aa bA)))
def Ap(g:List D->Option D):FS:=(a0 (en (cT (c2 (b? δ) (c2 b1 aa az) hJ)) (vw (wg 3 (λa=>D6 (a++[])) ju)) vz)
 (a0 (en (cT (c2 (b? δ) (c2 b1 aa az) (cS "has"))) (vw (wg 4 (λa=>Cw (a++[])) hZ)) vz)
 (a0 (en (cT (c2 (b? δ) (c2 b1 aa az) (cS "seen"))) (vw (wg 5 (λa=>Hh (a++[])) hZ)) vz)
 (a0 (en (cT (c2 (b? δ) (c2 b1 aa az) (cS "marked"))) (vw (wg 6 (λa=>xq (a++[])) ju)) vz)
 (a0 (en (cT (c2 (b? δ) (c2 b1 aa az) (cS "kind"))) (vw (wg 7 (λa=>xV (a++[])) ju)) vz)
 (a0 (en (cT (c2 (b? δ) (c2 b1 aa az) (cS "word"))) (vw (wg 8 (λa=>DK (a++[])) hZ)) vz)
 (a0 (en (cT (c2 (b? δ) (c2 b1 aa az) (cS "not"))) (vw (wg 9 (λa=>x6 (a++[])) (a1 (vq g hZ)))) vz)
 (a0 (en (cT (c2 (b? δ) (c2 b1 aa az) (cS "both"))) (vw (wg 10 (λa=>Hk (a++[])) (ax (vq g hZ) (a1 (vq g n8))))) vz)
 (vw (cNew 15))))))))))
def x8:Nat->List D->Option D
 |0=>dr 1 1 QR
 |n+1=>dr 1 1 (Ap (x8 n))
def DS:=dr 1 1 (a0 (en (cT (c2 (b? δ) (c2 b1 aa az) nZ)) (vw (wg 11 (λa=>y4 (a++[])) ju)) vz)
 (vw (wg 12 (λa=>zD (a++[])) ju)))
def DT:=dr 1 7 (a0 (E9 aa (gT (wx (gN 1) (wx (gN 2) (wx (gN 3) (wx (gN 4) (wx (gN 5) Dg))))) 5))
 (a0 (vI 6 (cL (vy 1 [] (iL ai) (gN 0) wG (vq (x8 3) bI))))
 (a0 (en (w9 (cT bc)) (vw (wg 13 (λa=>xW (a++[(D.X δ)])) (ax ag (ax bu (ax (cL (vy 1 [] (iL au) (gN 0) wG (vq DS bI))) cM))))) vz)
 (vw (wg 13 (λa=>xW (a++[])) (ax ag (ax bu (ax (cL (vJ vO)) oA))))))))
def CU:=dr 1 14 (a0 (E9 aa (gT (wx (gN 1) (wx (gN 2) (wx (gN 3) (wx (gN 4) (wx (gN 5) (wx (gN 6) Dg)))))) 6))
 (a0 (ya 7 (vJ vO))
 (a0 (yb (iL ag) (gT (wx (gN 8) (wx (gN 9) (wx (gN 10) (wx (gN 11) Dg)))) 4) (en (cT (c2 zw dE aN)) (v8 (Ae 7 (wg 0 (λa=>Ah (a++[D.O])) sW))) (v8 (Ae 7 (wg 0 (λa=>Ah (a++[])) (ax bP (ax fG (ax f6 (a1 dE)))))))))
 (a0 (vI 12 (cL (vy 3 [] (iL ai) (gT (wx (gN 0) (wx (gN 1) (wx (gN 2) Dg))) 3) wG (wg 1 (λa=>Hg (a++[])) ia))))
 (a0 (vI 13 (cL (vy 4 [] (iL bc) (gT (wx (gN 0) (wx (gN 1) (wx (gN 2) (wx (gN 3) Dg)))) 4) wG (wg 2 (λa=>xU (a++[])) ox))))
 (vw (wg 14 (λa=>Ak (a++[])) (ax (rm 7) (ax dF (ax (cL (yj au)) (ax (cL (yj aG)) (ax (cV 13) (a1 (cL (vy 1 [] (iL bu) (gN 0) wG (vq DT bI))))))))))))))))
def zM:=dr 4 7 (a0 (vI 4 (vq BF bI))
 (a0 (vI 5 (cL (wm ET bI)))
 (a0 (yb (iR2 ai (c2 wH ai au)) (gN 6) (vI 4 (c2 b1 (vq Lc (ax aa (ax aG (a1 (c2 b1 bc (c2 vX (vq yz (ax ag (a1 bu))) (c1 wY bc))))))) ay)))
 (vw aG))))
def zt:=dr 2 5 (a0 (vI 2 (c2 Iy (cS " ") (c2 vX ag bH)))
 (a0 (yb (u3 (c1 wY aa)) (gN 3) (a0 (vI 4 (c2 b1 (cL (vJ (ax di (ax (cS "the ") (ax di (ax (cS "a  ") (ax (cS "the a ") (ax di (a1 di))))))))) (c2 vX (c2 wW ag (c2 wH cD (c2 yZ bH au))) dg)))
 (vI 2 (c2 Dy (c2 Dy (c2 Dy ai aG) (c2 b1 aa au)) (c2 Iy (cS " ") (c2 wH ay (c2 vX (c2 wW ag (c2 wH dg (c2 yZ cD au))) bA)))))))
 (vw (c2 Dy ai (c2 b1 (cL (vJ (ax di (ax (cS "the") (a1 (cS " a ")))))) (c2 vX (c2 wW ag bH) bH))))))
def zu:=dr 3 4 (a0 (en (cT (c2 (b? δ) aa iP)) (vw (c2 b1 (cL (vJ (ax (cL (vJ vO)) dW))) (c1 WI (c2 (b? γ) ai (vM vO))))) vz)
 (a0 (en (cT (c2 (b? δ) aa dh)) (a0 (vI 3 (cL (vy 1 [1,2] (u3 (c1 wY ai)) (gN 0) (cT (c2 (b? δ) (c2 b1 ai aa) ag)) aa)))
 (a0 (en (xC (cT (c2 (b? δ) au (cL (vJ vO)))) (xC (cT (c2 (b? δ) (c2 b1 au az) az)) (cT (c2 (b? δ) (c2 b1 au az) (c2 Eh (c1 wY ai) ay))))) (vw aN) vz)
 (wQ (vJ (ax (BV ai tz (mr (c2 b1 au az))) (a1 (BV ai (mr (c2 wH (c2 b1 au az) ay)) tz))))))) vz)
 (a0 (en (xC (cT (c2 (b? δ) ai (vM vO))) (xE (cT (c2 (b? δ) aa dD)) (cT (c2 Gg (c1 wY ai) ay)))) (vw aN) vz)
 (wQ (vJ cv)))))
abbrev sF:=(ax (vM (ax (cS "none") (a1 (cV 10)))) (a1 (vM (ax (cS "which") (ax (cV 10) (a1 (zd (cL (Cr (rm 11))))))))))
abbrev sI:=(wx (gN 6) (wx (gN 7) Dg))
abbrev sZ:=(wx (gN 4) (wx (gN 5) sI))
def DU:=dr 3 13 (a0 (en (cT (c2 (b? δ) ai (vM vO))) (vw (vM (ax (cS "noverb") (a1 di)))) vz)
 (a0 (vI 3 (cL (vy 1 [2] (iL (cL (xi (c2 b1 aa ck) (cL (wm xK vO))))) (gN 0) (xC (cT (c2 (b? δ) (c2 b1 ag az) (c2 b1 aa az))) (cT (c2 (j2 δ) (c2 b1 ag az) (c2 b1 aa ay)))) aa)))
 (a0 (en (cT (c2 (b? δ) au (cL (vJ vO)))) (vw (vM (ax (cS "noverb") (a1 (c2 b1 ai az))))) vz)
 (a0 (E9 (c2 b1 au az) (gT sZ 4))
 (a0 (vI 8 (vq zu (ax bu (ax b9 (a1 (K4 ai (Z 1) U))))))
 (a0 (en (cT (c2 zw bP aN)) (vw (vM (ax (cS "noform") cM))) vz)
 (a0 (en (cT (c2 (b? δ) bu dD)) (a0 (en (cT (c2 tm (cL (vy 1 [2] (iL (c2 b1 aa bH)) (gN 0) (cT (c2 (b? δ) (c2 b1 aa ay) (c2 b1 ag ay))) aa)) (cL (vJ vO)))) (vw (vM (ax (cS "noway") (a1 (c2 b1 ai ay))))) vz)
 (vw (vM (ax kJ (a1 (vM (ax aG (ax (c2 b1 ai ay) dW)))))))) vz)
 (a0 (ya 9 (vJ vO))
 (a0 (yb (iL bP) (gN 10) (a0 (ya 11 (vJ vO))
 (a0 (yb (iL (c2 b1 aa az)) (gN 12) (en (xE (cT (c2 (j2 δ) (c2 b1 dF az) ag)) (cT (c2 tm (cL (vy 1 [12] (iT f6) (gN 0) (cT (c2 (j2 γ) aa (c2 b1 ag ay))) aa)) (cL (vJ vO))))) (v8 (Ae 11 (c2 b1 dF az))) vz))
 (a0 (en (GY (cT (c2 (b? γ) (c1 wY dE) ay))) (vw (c2 b1 (cL (vJ sF)) (KM (c1 WI (c2 (b? γ) dE (cL (vJ vO))))))) vz)
 (v8 (Ae 9 (KM (c2 b1 dE az))))))))
 (vw (vM (ax kJ (a1 (Fg (vM cM) (zd (cL (P' (cL (xi (rm 9) (cL (vJ iQ)))) U (Z 2))))))))))))))))))
def xM:=dr 2 6 (a0 (vI 2 (cL (xi (cL (vy 1 [] (iL aa) (gN 0) (xE (cT (c2 (b? γ) (c2 b1 aa bA) cz)) (cT (c2 (b? γ) (c2 b1 aa bA) hU))) (c2 b1 aa ay))) (cL (vJ (a1 (vM (ax (cS "zzz") (a1 (cS "key"))))))))))
 (a0 (vI 3 (c2 b1 ai (c2 vX ag (c1 wY ai))))
 (a0 (vI 4 (c2 b1 ai (c2 vX (c2 wW ag dg) (c1 wY ai))))
 (a0 (vI 5 (cL (vJ (ax au (ax (BV au tz (mr ay)) (ax (BV au (mr (c1 Fq ay)) tz) (ax (c1 C? au) (ax (G8 au (BV au tz (mr ay))) (ax (G8 (BV au tz (mr ay)) (BV aG (mr (c1 Fq ay)) tz)) (ax (G8 (BV au (mr ay) tz) (BV au tz (mr ay))) (a1 (vM (a1 (cS "zzz"))))))))))))))
 (vw (c2 b1 bc (c2 vX (c2 wW ag (cC (.int 49))) fX)))))))
abbrev oF:=(ax aG cM)
def CV:=dr 2 9 (a0 (vI 2 (cL (wm yJ (ax ag (a1 fY)))))
 (a0 (vI 3 (cL (vy 1 [] (iL (cL (xi (c2 b1 aa ck) (cL (wm xK vO))))) (gN 0) (xC (cT (c2 (b? δ) (c2 b1 aa bA) iO)) (cT (c2 (b? δ) (c2 b1 aa bA) dh))) aa)))
 (a0 (E9 (c2 b1 au (c2 vX (c2 b1 ai az) (c1 wY au))) (gT sZ 4))
 (a0 (vI 8 (cL (P' (cL (Fh (cL (xi (cL (vJ oF)) (cL (yj bc)))) (mr (c2 vX (c2 b1 ai ay) (c2 wH bA (c1 wY bc)))) tz)) U (Z 1))))
 (a0 (vI 8 (cL (xi bP (cL (yj (vq xM (ax (c2 b1 aa az) (a1 (c2 b1 ai bA)))))))))
 (a0 (en (cT (c2 (b? δ) bu dh)) (vI 8 (cL (xi (cL (xi bP (cL (vJ jy)))) (cL (yj (vq xM (ax (c2 b1 aa az) (a1 (c2 b1 ai bH))))))))) vz)
 (vw (vM (ax bP (a1 (c2 b1 ai ck)))))))))))
abbrev oh:=(ax bH (ax ck (a1 fX)))
def Uh:FS:=(a0 (vI 1 (vq CT bI))
 (a0 (vI 2 (vq CU bQ))
 (a0 (vI 3 (vq zM (ax ai (ax aa (ax bA (a1 ck))))))
 (a0 (vI 4 (cL (wm EK (ax ai fH))))
 (a0 (yb (iL (cL (P' (cL (xi (cL (P' aa (Z 6) (Z 18))) (cL (vJ oh)))) U (Z 12)))) (gN 5) (a0 (E9 (vq CV (ax ag kU)) (gT sI 2))
 (a0 (vI 8 (vq Of (ax ai (ax au (a1 (vq zt (ax bu jy)))))))
 (a0 (en (cT (c2 (b? γ) bP (vq DU (ax ag (ax aG (a1 (zd bu))))))) (vw cg) vz)
 (a0 (en (w9 (cT (c1 (wI (w5 "tuple")) bP))) (vw cg) vz)
 (en (cT (c2 (b? γ) (cL (vy 1 [] (iT bP) (gN 0) (w9 (cT (c1 (wI (θ (w5 "str") (w5 "tuple"))) aa))) aa)) (cL (vJ vO)))) (vw cg) vz))))))
 (vw (c2 (b? δ) (cL (wm EK (ax ai fH))) aG)))))))
def Yy:=dr 1 9 Uh
section
variable{α:Type}
def x9(h:e ρ=Z (.X γ,ρ1)):v8 (vq vG (ax e (ax (cC m) vO))) ρ=Z (.nx ρ1):=xH (vm (vn h O) O)
def xw(d h:α->L4.D)(l:List α)(f:s ρ=Z (l.map d,ρ1))(e:l.length<=1000)(st:∀a∈l,∃b c,g (d a) (Hu k d3 ρ1)=Z b/\fe b=Z (h a,c)/\zx d3 (c.drop k) ρ1=Z ρ1):
  vy k d3 s g wG fe ρ=Z (l.map h,ρ1):=(O4 f (by rw[af];exact e)).t (W7 d h l st)
def xl(e h:α->L4.D)(p:α->Bool)(l:List α)(i:s ρ=Z (l.map e,ρ1))(f:l.length<=1000)
  (st:∀a∈l,∃c b,g (e a) (Hu k d3 ρ1)=Z c/\ft c=Z (p a,b)/\(p a=γ->∃d,fe b=Z (h a,d)/\zx d3 (d.drop k) ρ1=Z ρ1)/\(p a=δ->zx d3 (b.drop k) ρ1=Z ρ1)):
  vy k d3 s g ft fe ρ=Z ((l.filter p).map h,ρ1):=(O4 i (by rw[af];exact f)).t (IF e p h l st)
def zv(d:α->L4.D)(l:List α)(h:s ρ=Z (l.map d,ρ1))(f:l.length<=1000)(st:∀a∈l,∃b c,g (d a) (Hu k d3 ρ1)=Z b/\e b=Z (.X γ,c)/\zx d3 (c.drop k) ρ1=Z ρ1):
  c1 zR (cL (vy k d3 s g wG e)) ρ=Z (.X γ,ρ1):=
 we (wb (xw d (λy=>.X γ) l h f st)) ((KZ l λy=>γ).t (by rw[aK.2 λy y=>O]))
def Ui(e:α->L4.D)(l:List α)(i:s ρ=Z (l.map e,b))(h:l.length<=1000)(st:∀a∈l,∃c d,g (e a) (Hu k d3 b)=Z c/\f c=Z (.X δ,d)/\zx d3 (d.drop k) b=Z b):
  c1 Hv (cL (vy k d3 s g wG f)) ρ=Z (.X δ,b):=
 we (wb (xw e (λy=>.X δ) l i h st)) ((Pg l λy=>δ).t (by rw[qb.2 λy y=>bG]))
end
inductive Kd where
 |room|you|plain|fixed|box|lamp
deriving DecidableEq
def Kd.s:Kd->Str
 |.room=>"room" |.you=>"you" |.plain=>"plain" |.fixed=>"fixed" |.box=>"box" |.lamp=>"lamp"
def Kd.pl:Kd->Bool
 |.room=>δ|.you=>δ|_=>γ
def Kd.hd:Kd->Bool
 |.room=>γ|.you=>γ|.box=>γ|_=>δ
def Kd.mk:Kd->Bool
 |.box=>γ|.lamp=>γ|_=>δ
structure Th where
 n:Str
 w:aE
 k:Kd
 s:Option Str
def oS:Option Str->L4.D
 |none=>.O
 |some x=>.str x
def ey(t:Th):L4.D:=.obj 0 ["name", "words", "kind", "start"] [.str t.n,.a7 (t.w.map D.str),.str t.k.s,oS t.s]
def BH(t:Th):vA vT "name" (ey t)=Z (.str t.n):=rfl
def Ld(t:Th):vA xP "words" (ey t)=Z (.a7 (t.w.map D.str)):=rfl
def BI(t:Th):vA wq "kind" (ey t)=Z (.str t.k.s):=rfl
def HJ(t:Th):vA xf "start" (ey t)=Z (oS t.s):=rfl
def FQ(a b:Kd):b? δ (.str a.s) (.str b.s)=Z (.X (decide (a=b))):=by cases a<;>cases b<;>kernel_rfl
set_option r "Le B3 hd;Pp B4 mk;FR AO pl" in def ϑ0(t:Th):ϑ1 [ey t]=Z (.X t.k.ϑ2):=by obtain⟨n,w,k,s⟩:=t;cases k<;>kernel_rfl
def Xl(t:Th):wF [.str t.k.s,Fv]=Z (.X γ):=by obtain⟨n,w,k,s⟩:=t;cases k<;>kernel_rfl
abbrev TD(T:List Th):L4.D:=.a3 (T.map ey)
def D0(T:List Th)(a:T.length<=1000)(k:Kd):Cy [TD T,.str k.s]=Z (.int (T.filter λt=>decide (t.k=k)).length):=by refine vF (ρ:=[.I (TD T),.I (.str k.s)]) O ?_;refine vP (we (wb (xl ey ey (λt=>decide (t.k=k)) T O a λt y=>#v[[.I (ey t),.I (.str k.s)],[.I (ey t),.I (.str k.s)],O,v7 (vp (we O (BI t)) O (FQ t.k k)),λy=>#v[_,O,O],λy=>O])) ?_);show Z (D.int _)=_;rw[af]
def BJ(T:List Th)(a:T.length<=1000):zj [TD T]=Z ((T.filter λt=>t.k.pl).map ey):=by refine z4 (ρ:=[.I (TD T)]) O ?_;exact xB (xl ey ey (λt=>t.k.pl) T O a λt y=>#v[[.I (ey t)],[.I (ey t)],O,v7 (v5 O O O O (FR t)),λy=>#v[_,O,O],λy=>O])
def FU(h:a ρ=Z (.int x,ρ))(i:b ρ=Z (.int y,ρ))(j:c ρ=Z (.int z,d))(l:x<=y)(m:y<=z):yL zQ zQ a b c ρ=Z (.X γ,d):=by
 unfold yL;rw[h];simp only[i];have e:zQ (.int x) (.int y)=Z (.X γ):=by show Z (D.X (decide (x<=y)))=_;rw[aY l]
 have f:zQ (.int y) (.int z)=Z (.X γ):=by show Z (D.X (decide (y<=z)))=_;rw[aY m]
 simp only[e,j,f]
def Pq(c:a ρ=Z (.int x,ρ))(d:b ρ=Z (.int y,ρ))(e:x<=y):c2 zQ a b ρ=Z (.X γ,ρ):=vp c d (by
 show Z (D.X (decide (x<=y)))=_;rw[aY e])
def Hy(T:List Th)(a:T.length<=1000)(d:1<=(T.filter λt=>decide (t.k=.room)).length)(e:(T.filter λt=>decide (t.k=.room)).length<=5)(c:(T.filter λt=>decide (t.k=.you)).length=1)(f:(T.filter λt=>t.k.pl).length<=7):
  AR [TD T]=Z .O:=by
 let b:bh:=[.I (TD T),.I (.X γ)];refine Bs (ρ:=b) O ?_;unfold AQ;rw[vt (show _=Z (B'.nx b) from(wN ((vN O).t (zv ey T O a λt y=>#v[_,_,O,O,O]))).t O)];rw[vt (x9 O)];rw[vt (x9 (zv ey T O a λt y=>#v[[.I (ey t)],[.I (ey t)],O,vm (vn (we O (BI t)) O) (Xl t),O]))];rw[vt (x9 (FU O (vm O (D0 T a .room)) O (by omega) (by omega)))];rw[vt (x9 (vp (vm O (D0 T a .you)) O (by rw[c];rfl)))];refine x9 (Pq (x:=(T.filter λt=>t.k.pl).length) (we (wb (vm O (BJ T a))) ?_) O (by omega));show Z (D.int _)=_;rw[af]
structure Mk where
 n:Str
 st:Int
 mo:Int
def G'(m:Mk):L4.D:=.obj 1 ["name", "start", "most"] [.str m.n,.int m.st,.int m.mo]
def Mk.ok(m:Mk):Prop:=1<=m.mo/\m.mo<=3/\0<=m.st/\m.st<=m.mo
abbrev MD(M:List Mk):L4.D:=.a3 (M.map G')
def Lf(m:Mk):vA vT "name" (G' m)=Z (.str m.n):=rfl
def Og(m:Mk)(h:m.ok):Gy [G' m]=Z (.X γ):=by obtain⟨a,b,c,d⟩:=h;refine vF (ρ:=[.I (G' m)]) O ?_;unfold Gx;rw[vt (show _=Z (B'.nx [.I (G' m)]) from O)];exact vP ((vN (FU O O O a b)).t (FU O O O c d))
def IT(M:List Mk)(d:M.length<=4)(h:∀m∈M,m.ok):BA [MD M]=Z .O:=by
 let a:bh:=[.I (MD M),.I (.X γ)];refine Bs (ρ:=a) O ?_;unfold Bw;have b:wK [MD M,Ct]=Z (.X γ):=by refine vF (ρ:=[.I (MD M),.I (.int 4)]) O ?_;refine vP ((vN O).t (Pq (x:=M.length) ?_ O (by omega)));refine we O ?_;show Z (D.int _)=_;rw[af]
 rw[vt (show _=Z (B'.nx a) from(wN ((vN (vm O b)).t (zv G' M O (by omega) λm c=>#v[[.I (G' m)],[.I (G' m)],O,vm O (Og m (h m c)),O]))).t O)];exact x9 O
def smL:aE:=["b", "ba", "bab", "babe", "c", "cab", "not", "take", "lit", "lamp", "x", "xx", "open", "both", "zz", "hall", "seen"]
def ahL:aE:=["", "", "q", "ek"]
def Y?(a:Str):aE:=smL.map λx=>a++x
def υ:aE:=Y? "" ++ Y? "q" ++ Y? "ek"
def Nm(x:Str):Prop:=x∈υ
def ZX:Option L4.D->Bool
 |some (.X b)=>b
 |_=>δ
def CW(h:ZX o=γ):o=Z (.X γ):=by
 unfold ZX at h;split at h
 .rw[h]
 .cases h
def isF:Option L4.D->Bool
 |some (.X b)=>!b
 |_=>δ
def Uj(h:isF o=γ):o=Z (.X δ):=by
 unfold isF at h;split at h
 .rw[c7]at h;rw[h]
 .cases h
def Oh(h:Nm x):y3 [.str x]=Z (.X γ):=CW (aK.1 (show (υ.all λx=>ZX (y3 [.str x]))=γ by kernel_rfl) x h)
def EU{l:aE}(h:l.Nodup)(a:l.length<=1000):xI [.a3 (l.map D.str)]=Z (.X γ):=by
 refine vF (ρ:=[.I (.a3 (l.map D.str))]) O ?_;refine vP (vp (y:=.int l.length) (we O (WY (G7 h a))) (we O ?_) ?_)
 .show Z (D.int _)=_;rw[af]
 .rw[x4];simp
def Oi{l:aE}(h:l.Nodup)(a:l.length<=1000):xI [.a7 (l.map D.str)]=Z (.X γ):=by
 refine vF (ρ:=[.I (.a7 (l.map D.str))]) O ?_;refine vP (vp (y:=.int l.length) (we O (G7 h a)) (we O ?_) ?_)
 .show Z (D.int _)=_;rw[af]
 .rw[x4];simp
def IU(T:List Th)(M:List Mk)(hT:T.length<=400)(hM:M.length<=400)(h:∀x∈T.map Th.n++M.map Mk.n,Nm x)(l:(T.map Th.n++M.map Mk.n).Nodup):BB [TD T,MD M]=Z .O:=by
 have c:(T.map Th.n++M.map Mk.n).length<=1000:=by rw[aA,af,af];omega
 let a:bh:=[.I (TD T),.I (MD M),.un];let b:bh:=[.I (TD T),.I (MD M),.I (.a3 ((T.map Th.n++M.map Mk.n).map D.str))];refine Bs (ρ:=b) O ?_;have d:vy 1 [] (iL aa) (gN 0) wG (c1 (vA vT "name") aa) a=Z (T.map λt=>D.str t.n,a):=xw ey (λt=>D.str t.n) T O (by omega) λt y=>#v[_,_,O,we O (BH t),O];have e:vy 1 [] (iL ag) (gN 0) wG (c1 (vA vT "name") aa) a=Z (M.map λt=>D.str t.n,a):=xw G' (λt=>D.str t.n) M O (by omega) λt y=>#v[_,_,O,we O (Lf t),O];have f:=wN (i:=2) (wb (xn (wb d) (wb e) (by rw[af,af];omega)));refine(vt (ρ':=b) (f.t (by
  have:(T.map λt=>D.str t.n)++(M.map λt=>D.str t.n)=(T.map Th.n++M.map Mk.n).map D.str:=by rw[aV,aX,aX];rfl
  rw[this];rfl))).t ?_
 rw[vt (x9 (zv D.str (T.map Th.n++M.map Mk.n) O c λx j=>#v[_,_,O,vm O (Oh (h x j)),O]))];exact x9 (vm O (EU l c))
def gk(T:List Th):aE:=(T.filter λt=>decide (t.k=.room)).map Th.n
def nq(T:List Th):aE:=(T.filter λt=>t.k.hd).map Th.n
abbrev kG:=(cC (.str "room"))
def MQ(T:List Th)(b:T.length<=1000)(a:cV i ρ=Z (TD T,ρ)):vy 1 [] (iL (cV i)) (gN 0) (cT (c2 (b? δ) (c1 (vA wq "kind") aa) kG)) (c1 (vA vT "name") aa) ρ=Z ((gk T).map D.str,ρ):=by
 have c:iL (cV i) ρ=Z (T.map ey,ρ):=by unfold iL;rw[a]
 have:=xl (k:=1) (d3:=[]) (g:=gN 0) (ft:=cT (c2 (b? δ) (c1 (vA wq "kind") aa) kG)) (fe:=c1 (vA vT "name") aa) ey (λt=>D.str t.n) (λt=>decide (t.k=.room)) T c b λt y=>#v[[.I (ey t)],[.I (ey t)],O,v7 (vp (we O (BI t)) O (FQ t.k .room)),λy=>#v[_,we O (BH t),O],λy=>O]
 rw[this];unfold gk;rw[aX];rfl
def Oj(T:List Th)(b:T.length<=1000)(a:cV i ρ=Z (TD T,ρ)):vy 1 [] (iL (cV i)) (gN 0) (cT (vR wR "can_hold" aa vO)) (c1 (vA vT "name") aa) ρ=Z ((nq T).map D.str,ρ):=by
 have c:iL (cV i) ρ=Z (T.map ey,ρ):=by unfold iL;rw[a]
 have:=xl (k:=1) (d3:=[]) (g:=gN 0) (ft:=cT (vR wR "can_hold" aa vO)) (fe:=c1 (vA vT "name") aa) ey (λt=>D.str t.n) (λt=>t.k.hd) T c b λt y=>#v[[.I (ey t)],[.I (ey t)],O,v7 (v5 O O O O (Le t)),λy=>#v[_,we O (BH t),O],λy=>O]
 rw[this];unfold nq;rw[aX];rfl
def AA{x:Str}{l:aE}(h:x∈l):wF [.str x,.a3 (l.map D.str)]=Z (.X γ):=by refine vF (ρ:=[.I (.str x),.I (.a3 (l.map D.str))]) O ?_;refine vP ((vN O).t (vp O O ?_));rw[zf];simp[h]
def JD(a b:aE)(d:a.length<=1000)(f:a.Nodup)(h:∀x∈a,x∈b):CB [.a3 (a.map D.str),.a3 (b.map D.str)]=Z .O:=by let c:bh:=[.I (.a3 (a.map D.str)),.I (.a3 (b.map D.str)),.I (.X γ)];refine Bs (ρ:=c) O ?_;unfold CA;rw[vt (show _=Z (B'.nx c) from(wN ((vN O).t ((vN (zv D.str a O d λx e=>#v[[.I (.str x),.I (.a3 (b.map D.str))],[.I (.str x),.I (.a3 (b.map D.str))],O,vm O (AA (h x e)),O])).t (vm O (EU f d))))).t O)];exact x9 O
def FV(T:List Th)(t:Th):Prop:=match t.k,t.s with
 |.room,U=>True
 |.room,Z _=>False
 |_,U=>False
 |.you,Z x=>x∈gk T
 |_,Z x=>x∈nq T
def MR(T:List Th)(b:T.length<=1000)(t:Th)(h:FV T t):EH [TD T,ey t]=Z (.X γ):=by
 refine vF (ρ:=[.I (TD T),.I (ey t)]) O ?_;unfold EG;obtain⟨n,w,k,s⟩:=t;have els:∀k:Kd,k≠.room->k≠.you->∀x,x∈nq T->(a0 (en (cT (c2 (b? δ) (c1 (vA wq "kind") ag) kG)) (vw (c2 zw (c1 (vA xf "start") ag) aN)) vz)
   (a0 (en (cT (c2 (b? δ) (c1 (vA wq "kind") ag) (cC (.str "you")))) (vw (vq wF (ax (c1 (vA xf "start") ag) (ax (cL (vy 1 [] (iL aa) (gN 0) (cT (c2 (b? δ) (c1 (vA wq "kind") aa) kG)) (c1 (vA vT "name") aa))) vO)))) vz)
   (vw (vq wF (ax (c1 (vA xf "start") ag) (ax (cL (vy 1 [] (iL aa) (gN 0) (cT (vR wR "can_hold" aa vO)) (c1 (vA vT "name") aa))) vO)))))) [.I (TD T),.I (ey #v[n,w,k,Z x])]=Z (.rt (.X γ) [.I (TD T),.I (ey #v[n,w,k,Z x])]):=λk c d x e=>by
  let a:bh:=[.I (TD T),.I (ey #v[n,w,k,Z x])];rw[vt (show _=Z (B'.nx a) from(wU (v7 (vp (we O (BI _)) O ((FQ k .room).t (by rw[aZ c]))))))];rw[vt (show _=Z (B'.nx a) from(wU (v7 (vp (we O (BI _)) O ((FQ k .you).t (by rw[aZ d]))))))];exact vP (vm (vn (we O (HJ _)) (vn (wb (Oj T b O)) O)) (AA e))
 cases k with
 |room=>
  cases s with
  |none=>rfl
  |some x=>exact h.elim
 |you=>
  cases s with
  |none=>exact h.elim
  |some x=>let a:bh:=[.I (TD T),.I (ey #v[n,w,.you,Z x])];rw[vt (show _=Z (B'.nx a) from O)];refine vZ ((wt O).t ?_);exact vP (vm (vn (we O (HJ _)) (vn (wb (MQ T b O)) O)) (AA h))
 |plain=>cases s with
  |none=>exact h.elim
  |some x=>exact els .plain (by decide) (by decide) x h
 |fixed=>cases s with
  |none=>exact h.elim
  |some x=>exact els .fixed (by decide) (by decide) x h
 |box=>cases s with
  |none=>exact h.elim
  |some x=>exact els .box (by decide) (by decide) x h
 |lamp=>cases s with
  |none=>exact h.elim
  |some x=>exact els .lamp (by decide) (by decide) x h
def kS(x:Str):d?:=Sum.inr x
def MU(f:fv a=Z (d,a))(h:a[i]?=Z (.dk b c))(j:fk a=Z (.str x,a))(p:kS x∉b)(o:b.length<1000)(l:c.length=b.length):
  zC i fk fv a=Z (.nx (a.set i (.dk (b++[kS x]) (c++[d])))):=by
 have m:KP b (kS x)=δ:=by rw[i9];intro z;obtain⟨y,q,e⟩:=fP.1 z;exact p (by rw[<-bj e];exact q)
 unfold zC;rw[f];simp only[h,j];rw[show BS (.str x)=Z (kS x) from O];simp only;rw[aj o,aj l,m];rfl
section
variable{α:Type}
theorem B8(m:α->L4.D)(kf:α->Str)(j:α->L4.D)(st:List d?->List L4.D->Sl->bh)
  (r:∀(a:α) (c:List d?) (d:List L4.D) (s:Sl),∃b,g (m a) (st c d s)=Z b/\fv b=Z (j a,b)/\b[i]?=Z (.dk c d)/\fk b=Z (.str (kf a),b)/\∀f e,∃h,b.set i (.dk f e)=st f e h):
  ∀(l:List α) (c:List d?) (d:List L4.D) (s:Sl),(c++l.map λa=>kS (kf a)).Nodup->c.length+l.length<=1000->d.length=c.length->
   ∃h,f3 g (zC i fk fv) (l.map m) (st c d s)=Z (.nx (st (c++l.map λa=>kS (kf a)) (d++l.map j) h))
 |[],c,d,s,_,_,_=>#v[s,by rw[eh,eh,eh,bZ,bZ];rfl]
 |a::l,c,d,s,o,C,q=>by
  obtain⟨b,t,u,w,x,y⟩:=r a c d s;obtain⟨F,A⟩:=y (c++[kS (kf a)]) (d++[j a]);rw[aS]at C;have p:((c++[kS (kf a)])++l.map λa=>kS (kf a)).Nodup:=by rw[cc];exact o
  have E:=λz=>by rw[cn]at o;exact o.2.2 _ z _ (by rw[aU];exact ba) O
  obtain⟨h,B⟩:=B8 m kf j st r l (c++[kS (kf a)]) (d++[j a]) F p (by rw[aA,cR];omega) (by rw[aA,aA,q,cR,cR]);refine#v[h,?_];rw[aU];unfold f3;rw[t];simp only[MU u w x E (by omega) q,A];rw[B,aU,aU,cc,cc];rfl
end
def nK(T:List Th):List d?:=T.map λt=>kS t.n
def Ol(h:kS a=kS b):a=b:=ka h
def Uk{T:List Th}(h:(T.map Th.n).Nodup):(nK T).Nodup:=by have:=As h;rw[aX]at this;exact this
def FW{T:List Th}(h:(T.map Th.n).Nodup)(a:Th->L4.D)(b:t∈T):xj (nK T) (T.map a) (kS t.n)=Z (a t):=by refine AI (Uk h) ?_;unfold nK;rw[ji];exact bY b
def Om(T:List Th)(r:Str->Nat):Prop:=∀t∈T,r t.n<T.length/\∀p,t.s=Z p->r p<r t.n/\∃u∈T,u.n=p
def rz(T:List Th):L4.D:=.Y (nK T) (T.map λt=>oS t.s)
def Ul(T:List Th)(J:T.length<=1000)(B:(T.map Th.n).Nodup)(r:Str->Nat)(w:Om T r)(t:Th)(z:t∈T):z5 [rz T,.str t.n]=Z (.X γ):=by
 have loop:∀(m:Nat) (l:List L4.D),l.length=m->∀(a:Option Str) (s:Sl),(∀x,a=Z x->(∃u∈T,u.n=x)/\r x<m)->
   (∃b,f3 (gN 3) (a0 (en (cT (c2 zw ai aN)) (vw dB) vz) (vI 2 (c2 Ei aa ai))) l [.I (rz T),.I (.str t.n),.I (oS a),s]=Z (.rt (.X γ) b))\/
   (∃j,f3 (gN 3) (a0 (en (cT (c2 zw ai aN)) (vw dB) vz) (vI 2 (c2 Ei aa ai))) l [.I (rz T),.I (.str t.n),.I (oS a),s]=Z (.nx [.I (rz T),.I (.str t.n),.I .O,j])):=by
  intro m
  induction m with
  |zero=>
   intro l h a s f;cases l with
   |cons d l=>cases h
   |nil=>
    cases a with
    |none=>exact .inr #v[s,O]
    |some x=>exact ar (f x O).2 (qR _)
  |succ m G=>
   intro l h a s f;cases l with
   |nil=>cases h
   |cons d l=>
    cases a with
    |none=>refine .inl #v[[.I (rz T),.I (.str t.n),.I .O,.I d],?_];unfold f3;rw[show gN 3 d [.I (rz T),.I (.str t.n),.I (oS U),s]=Z [.I (rz T),.I (.str t.n),.I .O,.I d] from O];rfl
    |some x=>
     obtain⟨⟨u,A,rfl⟩,i⟩:=f x O;have e:a0 (en (cT (c2 zw ai aN)) (vw dB) vz) (vI 2 (c2 Ei aa ai)) [.I (rz T),.I (.str t.n),.I (.str u.n),.I d]=Z (.nx [.I (rz T),.I (.str t.n),.I (oS u.s),.I d]):=by refine(vt O).t ?_;exact(wN (vp O O (FW B (λt=>oS t.s) A))).t O
     have key:=G l (by simpa using h) u.s (.I d) λy F=>by obtain⟨C,c⟩:=w u A;obtain⟨I,E⟩:=c y F;exact#v[E,by omega]
     unfold f3;rw[show gN 3 d [.I (rz T),.I (.str t.n),.I (oS (Z u.n)),s]=Z [.I (rz T),.I (.str t.n),.I (.str u.n),.I d] from O];simp only[e];exact key
 obtain⟨C,c⟩:=w t z;have H:=loop T.length (Im 0 T.length) (by unfold Im;simp) t.s .un λx i=>#v[(c x i).2,by have:=(c x i).1;omega];have o:vI 2 (c2 Ei aa ag) [.I (rz T),.I (.str t.n),.un,.un]=Z (.nx [.I (rz T),.I (.str t.n),.I (oS t.s),.un]):=(wN (vp O O (FW B (λt=>oS t.s) z))).t O;have p:u3 (c1 wY aa) [.I (rz T),.I (.str t.n),.I (oS t.s),.un]=Z (Im 0 T.length,[.I (rz T),.I (.str t.n),.I (oS t.s),.un]):=by unfold u3;rw[show c1 wY aa [.I (rz T),.I (.str t.n),.I (oS t.s),.un]=Z (.int T.length,[.I (rz T),.I (.str t.n),.I (oS t.s),.un]) from we O (by show Z (D.int _)=_;unfold nK;rw[af])];simp only;rw[aj (by omega),gr]
 rcases H with ⟨b,q⟩|⟨j,q⟩
 .refine vF (ρ:=b) O ?_;refine(vt o).t (vZ ((yO p).t q))
 .refine vF (ρ:=[.I (rz T),.I (.str t.n),.I .O,j]) O ?_;refine(vt o).t ((vt ((yO p).t q)))
def HA(T:List Th)(u:T.length<=900)(f:(T.map Th.n).Nodup)(r:Str->Nat)(l:Om T r)(m:∀t∈T,FV T t):AS [TD T]=Z .O:=by
 obtain⟨b,j⟩:=B8 (g:=gN 2) (i:=1) (fk:=c1 (vA vT "name") ai) (fv:=c1 (vA xf "start") ai) ey Th.n (λt=>oS t.s) (λe c s=>[.I (TD T),.dk e c,s])
  (λt e c s=>#v[[.I (TD T),.dk e c,.I (ey t)],O,we O (HJ t),O,we O (BH t),λo h=>#v[_,O]]) T [] [] .un (by rw[cB];exact Uk f) (by simp;omega) O
 refine Bs (ρ:=[.I (TD T),.I (rz T),b]) O ?_;refine(vt (x9 (zv ey T O (by omega) λt d=>#v[[.I (ey t),.I (TD T)],[.I (ey t),.I (TD T)],O,vm O (MR T (by omega) t (m t d)),O]))).t ?_;refine(vt O).t ?_;refine(vt ((yO O).t j)).t ?_;have src:iD (rm 1) [.I (TD T),.dk ([]++T.map λa=>kS a.n) ([]++T.map λt=>oS t.s),b]=Z ((T.map λt=>D.str t.n),[.I (TD T),.I (rz T),b]):=by rw[cB,cB];unfold iD;rw[show rm 1 [.I (TD T),.dk (T.map λa=>kS a.n) (T.map λt=>oS t.s),b]=Z (rz T,[.I (TD T),.I (rz T),b]) from O];show (if (nK T).length=(T.map λt=>oS t.s).length then Z ((nK T).map keyV,_)else U)=_;unfold nK;rw[aj (by rw[af,af]),aX];rfl
 exact x9 (zv (λt:Th=>D.str t.n) T src (by omega) λt d=>#v[[.I (.str t.n),.I (rz T)],[.I (.str t.n),.I (rz T)],O,vm O (Ul T (by omega) f r l t d),O])
def MV(l:List Th)(r:Th):Prop:=(r.k=.room/\r.s=U)\/(r.k=.you/\∃u∈l,r.s=Z u.n/\u.k=.room)\/(r.k.pl=γ/\∃u∈l,r.s=Z u.n/\u.k.hd=γ)
inductive Ord:List Th->Prop
 |nil:Ord []
 |snoc {l:List Th} {r:Th} (h:Ord l) (h':MV l r):Ord (l++[r])
def MV.mono(h:MV l r)(d:∀u∈l,u∈e):MV e r:=by
 rcases h with h|⟨a,u,b,c⟩|⟨a,u,b,c⟩
 .exact .inl h
 .exact .inr (.inl #v[a,u,d u b,c])
 .exact .inr (.inr #v[a,u,d u b,c])
def Ord.all(h:Ord l):∀r∈l,MV l r:=by
 induction h with
 |nil=>exact λr hr=>(bU hr).elim
 |snoc h b c=>
  intro r hr;rcases aW.1 hr with hr|hr
  .exact(c r hr).mono λu a=>bJ _ a
  .rw[br]at hr;subst hr;exact b.mono λu a=>bJ _ a
def MV.start(h:MV l r)(a:r.s=Z p):∃u∈l,u.n=p:=by
 rcases h with ⟨_,h⟩|⟨_,u,b,c,_⟩|⟨_,u,b,c,_⟩
 .rw[h]at a;cases a
 .rw[c]at a;cases a;exact#v[u,b,O]
 .rw[c]at a;cases a;exact#v[u,b,O]
def Ord.rank(h:Ord l):(l.map Th.n).Nodup->∃c:Str->Nat,∀t∈l,c t.n<l.length/\∀p,t.s=Z p->c p<c t.n/\∃u∈l,u.n=p:=by
 induction h with
 |nil=>exact λy=>#v[λy=>0,λt a=>(bU a).elim]
 |@snoc l r h j q=>
  intro e;rw[aV,cn]at e;obtain⟨c,i⟩:=q e.1;have f:∀u∈l,u.n≠r.n:=λu b z=>e.2.2 _ (bY b) _ (by simp) z;refine#v[λx=>if x=r.n then l.length else c x,λt a=>?_];rw[aA,cR];dsimp only;rcases aW.1 a with a|a
  .obtain⟨w,m⟩:=i t a;rw[ak (f t a)];refine#v[by omega,λp d=>?_];obtain⟨o,u,b,rfl⟩:=m p d;rw[ak (f u b)];exact#v[o,u,bJ _ b,O]
  .rw[br]at a;subst a;rw[aj O];refine#v[by omega,λp d=>?_];obtain⟨u,b,rfl⟩:=j.start d;rw[ak (f u b)];exact#v[(i u b).1,u,bJ _ b,O]
def Um{a:List L4.D}(k:Nat)(h:k<=a.length):fg a U (Z (k:Int))=a.take k:=by unfold fg;rw[HT.LP,HT.HC,gA h,ro,Nat.sub_zero]
def ack{a:List L4.D}(k:Nat)(h:k<=a.length):fg a (Z (k:Int)) U=a.drop k:=by unfold fg;rw[HT.LP,HT.HC,gA h,gh (by rw[cW];omega)]
def Pt(u t:Th):Prop:=Av [.a7 (u.w.map D.str),.a7 (t.w.map D.str)]=Z (.X δ)
def JE(P:List Th)(d:P.length<=900)(t:Th)(f:∀u∈P,u.n≠t.n->Pt u t):z6 [TD P,ey t]=Z (.X γ):=by
 let b:=P.filter λu=>!decide (u.n=t.n);let a:bh:=[.I (TD P),.I (ey t),.I (TD b)];have hO:b.length<=900:=bz (cq _ _) d;refine vF (ρ:=a) O ?_;refine(vt (ρ':=a) ((wN (wb (xl ey ey (λu=>!decide (u.n=t.n)) P O (by omega) λu y=>#v[[.I (ey u),.I (ey t)],[.I (ey u),.I (ey t)],O,v7 (vp (we O (BH u)) (we O (BH t)) (xa γ u.n t.n)),λy=>#v[_,O,O],λy=>O]))).t O)).t ?_;have e:c1 Hv (cL (vy 1 [1] (iL ai) (gN 0) wG (vq Av (ax (c1 (vA xP "words") aa) (ax (c1 (vA xP "words") ag) vO))))) a=Z (.X δ,a):=
  Ui ey b O (by omega) λu c=>#v[[.I (ey u),.I (ey t)],[.I (ey u),.I (ey t)],O,vm (vn (we O (Ld u)) (vn (we O (Ld t)) O)) (f u (aO.1 c).1 (by simpa using (aO.1 c).2)),O]
 refine vP ?_;unfold Ht;rw[e];rfl
def IV(T:List Th)(e:T.length<=900)(h:∀t∈T,zT [.a7 (t.w.map D.str)]=Z (.X γ))(d:∀t∈T,∀u∈T,t.k.pl=γ->u.k.pl=γ->u.n≠t.n->Pt u t):xR [TD T]=Z .O:=by let P:=T.filter λt=>t.k.pl;have hP:P.length<=900:=bz (cq _ _) e;have pP:∀t∈P,t∈T/\t.k.pl=γ:=λt a=>aO.1 a;let c:bh:=[.I (TD T),.I (TD P)];refine Bs (ρ:=c) O ?_;refine(vt (x9 (zv ey T O (by omega) λt a=>#v[[.I (ey t)],[.I (ey t)],O,vm (vn (we O (Ld t)) O) (h t a),O]))).t ?_;refine(vt ((wN (wb (vm O (BJ T (by omega))))))).t ?_;exact x9 (zv ey P O (by omega) λt a=>#v[[.I (ey t),.I (TD P)],[.I (ey t),.I (TD P)],O,vm O (JE P hP t λu b f=>d t (pP t a).1 u (pP u b).1 (pP t a).2 (pP u b).2 f),O])
def Lg(h:e ρ=Z (.X b,a)):Ht e ρ=Z (.X !b,a):=by unfold Ht;rw[h]
def IW{l m:aE}(hd:d=.a3 (m.map D.str)\/d=.a7 (m.map D.str))(c:l.length<=900)(h:∀x∈l,x∉m):zU [.a3 (l.map D.str),d]=Z (.X γ):=by
 let a:bh:=[.I (.a3 (l.map D.str)),.I d];refine vF (ρ:=a) O ?_;have e:c1 Hv (cL (vy 1 [1] (iL aa) (gN 0) wG (c2 (j2 δ) aa ag))) a=Z (.X δ,a):=Ui D.str l O (by omega) λx b=>#v[[.I (.str x),.I d],[.I (.str x),.I d],O,vp O O (by
  rcases hd with rfl|rfl
  .rw[zf];simp[h x b]
  .rw[AH];simp[h x b]),O]
 exact vP (Lg e)
structure Vb where
 n:Str
 o:aE
 f:Str
 j:Option Str
def k4(v:Vb):L4.D:=.obj 2 ["name", "others", "form", "joining"] [.str v.n,.a7 (v.o.map D.str),.str v.f,oS v.j]
def v6:List Vb:=[#v["give", ["hand", "g"],"two", Z "to"],#v["hum", [],"alone", U],#v["push", ["shove"],"one", U],#v["sail", ["s"],"way", U],#v["tie", [],"two", Z "with"],#v["l", ["look", "peer"],"one", U]]
def v9:List Vb:=[#v["take", [],"one", U],#v["drop", [],"one", U],#v["open", [],"one", U],#v["shut", [],"one", U],#v["light", [],"one", U],#v["douse", [],"one", U],#v["put", [],"two", Z "in"],#v["go", [],"way", U],#v["wait", [],"alone", U]]
abbrev VD(V:List Vb):L4.D:=.a3 (V.map k4)
def vB(m k:Nat):Bool:=m / 2 ^ k % 2==1
def vL(m:Nat):List Vb:=((aB 6).filter λk=>vB m k).map λk=>v6.getD k #v["", [],"", U]
def Uo:zm []=Z (v9.map k4):=by kernel_rfl
def Vb.ws(v:Vb):aE:=v.n::v.o
def vW:aE:=(v6++v9).flatMap Vb.ws
def wwL:aE:=["north", "up", "in", "n", "upward"]
def bW:aE:="to" ::"with" ::wwL
def v64{p:List Vb->Bool}(h:((aB 64).all λm=>p (vL m))=γ){m:Nat}(a:m<64):p (vL m)=γ:=aK.1 h m (bx.2 a)
def GK(h:v∈vL m):v∈v6:=by obtain⟨k,b,rfl⟩:=aw.1 h;have a:=bx.1 (aO.1 b).1;rw[bN,aP a];exact gv a
def DV(m:Nat):(vL m).length<=6:=by unfold vL;rw[af];exact bz (cq _ _) (by rw[bK];exact aH _)
def isN:Option L4.D->Bool
 |some .O=>γ
 |_=>δ
def acm(h:isN o=γ):o=Z .O:=by
 unfold isN at h;split at h
 .rfl
 .cases h
def IY(a:m<64):zJ [VD (vL m)]=Z .O:=acm (v64 (p:=λV=>isN (zJ [VD V])) (by kernel_rfl) a)
def J7(a:m<64):((vL m++v9).flatMap Vb.ws).Nodup:=bj (v64 (p:=λV=>decide ((V++v9).flatMap Vb.ws).Nodup) (by kernel_rfl) a)
def vws{V:List Vb}(h:∀v∈V,v∈v6):∀x∈(V++v9).flatMap Vb.ws,x∈vW:=λx b=>by
 obtain⟨v,a,b⟩:=c8.1 b;refine c8.2 #v[v,?_,b];rcases aW.1 a with a|a
 .exact bJ _ (h v a)
 .exact bB _ a
structure Wy where
 r:Str
 w:Str
 g:Str
 m:Option Str
def m5(w:Wy):L4.D:=.a7 [.str w.r,.str w.w,.str w.g,oS w.m]
abbrev WD(W:List Wy):L4.D:=.a3 (W.map m5)
def u2(T:List Th)(M:List Mk):aE:=(T.filter λt=>t.k.mk).map Th.n++M.map Mk.n
structure MW(T:List Th)(M:List Mk)(w:Wy):Prop where
 hr:w.r∈gk T
 hw:w.w∈wwL
 hg:w.g∈gk T
 hm:∀x,w.m=Z x->x∈u2 T M
def Pu(l:List L4.D)(n:Int)(h:(l.length:Int)<=n):wK [.a3 l,.int n]=Z (.X γ):=by
 have e:wK [.a3 l,.int n]=Z (.X (decide ((l.length:Int)<=n))):=by kernel_rfl
 rw[e,aY h]
def FX(c:e ρ=Z (.X δ,a)):H4 e b ρ=b a:=by unfold H4;rw[c]
def Lh(b:e ρ=Z (.X γ,a)):H4 e c ρ=Z (.X γ,a):=by unfold H4;rw[b]
def Rg(h:MW T M w):IR [m5 w,.a3 ((gk T).map D.str),.a3 ((u2 T M).map D.str)]=Z (.X γ):=by
 let R:L4.D:=.a3 ((gk T).map D.str);let K:L4.D:=.a3 ((u2 T M).map D.str);let a:bh:=[.I (m5 w),.I R,.I K,.un];let d:bh:=[.I (m5 w),.I R,.I K,.I (.X γ)];refine vF (ρ:=d) O ?_;refine(vt O).t ?_;have b:H4 (c2 zw (c2 b1 aa bH) aN) (vq wF tI) a=Z (.X γ,a):=by
  obtain⟨r,x,g,m⟩:=w;cases m with
  |none=>rfl
  |some y=>exact(FX O).t (vm O (AA (h.hm y O)))
 refine(vt ((wN b))).t (vP ?_);have c:=CW (aK.1 (show (wwL.all λx=>ZX (yF [.str x]))=γ by kernel_rfl) w.w h.hw);exact(vN (vm O (AA h.hr))).t ((vN (vm O c)).t ((vN (vm O (AA h.hg))).t O))
theorem Pw:∀W:List Wy,zy (W.map λw=>D.a7 [.str w.r,.str w.w])=Z (W.map λw=>[w.r,w.w])
 |[]=>rfl
 |w::W=>by rw[aU];unfold zy;rw[Pw W];rfl
def JF{W:List Wy}(b:W.length<=8)(h:∀w∈W,MW T M w)(d:(W.map λw=>[w.r,w.w]).Nodup):CC [WD W,.a3 ((gk T).map D.str),.a3 ((u2 T M).map D.str)]=Z .O:=by
 let R:L4.D:=.a3 ((gk T).map D.str);let K:L4.D:=.a3 ((u2 T M).map D.str);let e:bh:=[.I (WD W),.I R,.I K,.I (.X γ)];refine Bs (ρ:=e) O ?_;refine(vt ((wN ((vN (vm O (Pu _ _ (by rw[af];omega)))).t (zv m5 W O (by omega) λw c=>#v[[.I (m5 w),.I R,.I K],[.I (m5 w),.I R,.I K],O,vm O (Rg (h w c)),O]))))).t ?_;refine(vt (x9 O)).t (x9 (vm (vn (wb (xw m5 (λw=>.a7 [.str w.r,.str w.w]) W O (by omega) λw s=>#v[[.I (m5 w)],[.I (m5 w)],O,O,O])) O) ?_));refine vF O (vP (vp (x:=.int W.length) (y:=.int W.length) (we O ?_) (we O ?_) ?_))
 .have a:yk (W.map λw=>D.a7 [.str w.r,.str w.w])=U\/yk (W.map λw=>D.a7 [.str w.r,.str w.w])=Z (.int W.length):=by
   cases W with
   |nil=>exact .inr O
   |cons w W=>exact .inl O
  show (match yk (W.map λw:Wy=>D.a7 [.str w.r,.str w.w])with|some r=>Z r|none=>Gu (W.map λw:Wy=>D.a7 [.str w.r,.str w.w]))=_;rcases a with a|a
  .rw[a];unfold Gu;rw[Pw];dsimp only;rw[aj #v[d,by rw[af];exact b],af]
  .rw[a]
 .show Z (D.int _)=_;rw[af]
 .rw[x4];simp
def V?:aE:=["red", "re", "taken", "old", "openly"]
def W':aE:=["key", "keys", "bowl", "b", "nothing"]
def tlL:aE:=["", "q", "zu"]
def exL:aE:=["x", "dusty", "most"]
def wpL:aE:=exL++tlL.flatMap λt=>(V?++W').map λx=>x++t
theorem IZ:∀(P:List Th) (acc:aE) (s:Sl),acc.length+3 * P.length<=900->(∀t∈P,t.w.length<=3)->
  ∃j,f3 (gN 4) (v8 (Ej 3 (c1 (vA xP "words") aG))) (P.map ey) [a,b,c,.ls (acc.map D.str),s,f,h,i]=Z (.nx [a,b,c,.ls ((acc++P.flatMap Th.w).map D.str),j,f,h,i])
 |[],acc,s,_,_=>#v[s,by simp;rfl]
 |t::P,acc,s,o,l=>by
  have q:=l t ba;rw[aS]at o;obtain⟨j,e⟩:=IZ P (acc++t.w) (.I (ey t)) (by rw[aA];omega) λu p=>l u (bb _ p);refine#v[j,?_];rw[aU];unfold f3;have m:v8 (Ej 3 (c1 (vA xP "words") aG)) [a,b,c,.ls (acc.map D.str),.I (ey t),f,h,i]=Z (.nx [a,b,c,.ls ((acc++t.w).map D.str),.I (ey t),f,h,i]):=by refine(xH (d:=.O) ?_);show (if (acc.map D.str).length+(t.w.map D.str).length<=1000 then Z (D.O,[a,b,c,.ls (acc.map D.str++t.w.map D.str),.I (ey t),f,h,i])else U)=_;rw[aj (by rw[af,af];omega),aV]
  rw[show gN 4 (ey t) [a,b,c,.ls (acc.map D.str),s,f,h,i]=Z [a,b,c,.ls (acc.map D.str),.I (ey t),f,h,i] from O];simp only[m];rw[e,fO,cc]
theorem Px:∀(V:List Vb) (acc:aE) (s:Sl),acc.length+3 * V.length<=900->(∀v∈V,v.o.length<=2)->
  ∃l,f3 (gN 6) (v8 (Ej 5 (Fg (vM kT) (c1 (vA yx "others") bu)))) (V.map k4) [a,b,c,f,h,.ls (acc.map D.str),s,i]=Z (.nx [a,b,c,f,h,.ls ((acc++V.flatMap Vb.ws).map D.str),l,i])
 |[],acc,s,_,_=>#v[s,by simp;rfl]
 |v::V,acc,s,r,m=>by
  have w:=m v ba;rw[aS]at r;have x:v.ws.length<=3:=by unfold Vb.ws;rw[aS];omega
  obtain⟨l,e⟩:=Px V (acc++v.ws) (.I (k4 v)) (by rw[aA];omega) λu t=>m u (bb _ t);refine#v[l,?_];rw[aU];unfold f3;let j:=[a,b,c,f,h,.ls (acc.map D.str),.I (k4 v),i];have p:Fg (vM kT) (c1 (vA yx "others") bu) j=Z (.a7 (v.ws.map D.str),j):=by show (if ([]:List L4.D).length+(v.o.map D.str).length<=900 then Z (D.a7 (.str v.n::[]++v.o.map D.str),j)else U)=_;rw[aj (by rw[af];simp only[du];omega)];rfl
  have q:v8 (Ej 5 (Fg (vM kT) (c1 (vA yx "others") bu))) j=Z (.nx [a,b,c,f,h,.ls ((acc++v.ws).map D.str),.I (k4 v),i]):=by refine xH (d:=.O) ?_;unfold Ej;rw[p];show (if (acc.map D.str).length+(v.ws.map D.str).length<=1000 then Z (D.O,[a,b,c,f,h,.ls (acc.map D.str++v.ws.map D.str),.I (k4 v),i])else U)=_;rw[aj (by rw[af,af];omega),aV]
  rw[show gN 6 (k4 v) [a,b,c,f,h,.ls (acc.map D.str),s,i]=Z j from O];simp only[q];rw[e,fO,cc]
def jsN(V:List Vb):aE:=V.filterMap Vb.j
def v_o2{V:List Vb}(h:∀v∈V,v∈v6):∀v∈V++v9,v.o.length<=2:=λv b=>by
 have a:=aK.1 (show ((v6++v9).all λv=>decide (v.o.length<=2))=γ by kernel_rfl) v (by
  rcases aW.1 b with b|b
  .exact bJ _ (h v b)
  .exact bB _ b)
 exact bj a
def Up(h:e c=Z (.a3 b,a)):iL e c=Z (b,a):=by unfold iL;rw[h]
def aev(V:List Vb)(d:V.length<=900)(a:cV 2 ρ=Z (VD V,ρ)):vy 1 [] (iL ai) (gN 0) (cT (c2 yc (c1 (vA yw "joining") aa) aN)) (c1 (vA yw "joining") aa) ρ=Z ((jsN V).map D.str,ρ):=by
 have b:=Up a;refine(xl k4 (λv=>oS v.j) (λv=>v.j.isSome) V b (by omega) λv y=>#v[[.I (k4 v)],[.I (k4 v)],O,?_,λy=>#v[[.I (k4 v)],O,O],λy=>O]).t ?_
 .obtain⟨n,o,f,j⟩:=v;cases j<;>rfl
 .congr 2;unfold jsN;clear b a d
  induction V with
  |nil=>rfl
  |cons v V c=>
   obtain⟨n,o,f,j⟩:=v;cases j with
   |none=>rw[lp (by simp),List.filterMap_cons_none O];exact c
   |some x=>rw[jF (by simp)];exact bD (D.str x::·) c
def I0{T:List Th}{W:List Wy}(J:T.length<=200)(p:∀t∈T,t.k.pl=γ->t.w.length<=3/\∀x∈t.w,x∈wpL)(hW:W.length<=8)(X:∀w∈W,w.w∈wwL)(E:m<64):yW [TD T,WD W,VD (vL m++v9)]=Z .O:=by
 let V:=vL m++v9;have v6m:∀v∈vL m,v∈v6:=λv f=>GK f;have lV:V.length<=15:=by show (vL m++v9).length<=15;rw[aA];have:=DV m;show (vL m).length+9<=15;omega
 let P:=T.filter λt=>t.k.pl;have hP:P.length<=200:=bz (cq _ _) J;have hwP:∀t∈P,t.w.length<=3/\∀x∈t.w,x∈wpL:=λt i=>p t (aO.1 i).1 (aO.1 i).2;let A:Sl:=.I (TD T);let B:Sl:=.I (WD W);let C:Sl:=.I (VD V);obtain⟨l,G⟩:=IZ P [] .un (by simp;omega) λt i=>(hwP t i).1;let o:=P.flatMap Th.w;let c:=V.flatMap Vb.ws;let r:Sl:=.ls (o.map D.str);obtain⟨z,H⟩:=Px V [] .un (by simp;omega) (v_o2 v6m);let d:=jsN V++W.map Wy.w;let AT:Sl:=.I (.a3 (d.map D.str));have lU:c.length<=100:=by have h:=vws v6m;have I:=MI (J7 E) h;exact bz I (bX (by kernel_rfl))
 have lJ:(jsN V).length<=15:=bz (List.length_filterMap_le _ _) lV;have lB:d.length<=100:=by show (jsN V++W.map Wy.w).length<=100;rw[aA,af];omega
 have bIn:∀x∈d,x∈bW:=λx b=>by
  rcases aW.1 b with b|b
  .obtain⟨v,f,e⟩:=iq.1 b;have a:=aK.1 (show ((v6++v9).all λv=>match v.j with|some x=>decide (x∈bW)|none=>γ)=γ by kernel_rfl) v (by
    rcases aW.1 f with f|f
    .exact bJ _ (v6m v f)
    .exact bB _ f)
   rw[e]at a;exact bj a
  .obtain⟨w,p,rfl⟩:=aw.1 b;exact(show ∀x∈wwL,x∈bW by decide) _ (X w p)
 have oIn:∀x∈o,x∈wpL:=λx b=>by obtain⟨t,i,hxt⟩:=c8.1 b;exact(hwP t i).2 x hxt
 have uIn:=vws v6m;have Q:∀x∈vW++bW,x∉wpL:=by decide +kernel
 have R:∀x∈vW++bW,x∉(["the", "a", "undo", "restart"]:aE):=by decide +kernel
 have S:∀x∈bW,x∉vW:=by decide +kernel
 have F:∀x∈c++d,x∈vW++bW:=λx b=>by
  rcases aW.1 b with b|b
  .exact bJ _ (uIn x b)
  .exact bB _ (bIn x b)
 have lUB:(c++d).length<=900:=by rw[aA];omega
 let UL:L4.D:=.a3 (c.map D.str);refine Bs (ρ:=[A,B,C,.I (.a3 (o.map D.str)),l,.I UL,z,AT]) O ?_;refine(vt O).t ?_;refine(vt ((yO (ρ1:=[A,B,C,.ls [],.un,.un,.un,.un]) ?_).t G)).t ?_
 .unfold iL;rw[wb (vm (ρ1:=[A,B,C,.ls [],.un,.un,.un,.un]) O (BJ T (by omega)))]
 refine(vt O).t ?_;refine(vt ((yO O).t H)).t ?_;refine(vt (ρ':=[A,B,C,r,l,.ls (c.map D.str),z,AT]) ((wN (wb (xn (wb (aev V (by omega) O)) (wb (xw m5 (λw=>.str w.w) W O (by omega) λw s=>#v[[.I (m5 w)],[.I (m5 w)],O,O,O])) (by rw[af,af];omega)))).t ?_)).t ?_
 .show Z (B'.nx [A,B,C,r,l,.ls (c.map D.str),z,.I (.a3 ((jsN V).map D.str++W.map λw=>.str w.w))])=_;rw[show (jsN V).map D.str++(W.map λw=>D.str w.w)=d.map D.str by show _=(jsN V++W.map Wy.w).map D.str;rw[aV,aX];rfl]
 refine(vt (x9 (vm (ds:=[UL]) O (EU (J7 E) (by omega))))).t ?_;have y:∀(q:Sl),cL (xi (rm 5) b9) [A,B,C,q,l,.I UL,z,AT]=Z (.a3 ((c++d).map D.str),[A,B,C,q,l,.I UL,z,AT]):=λq=>(wb (xn O O (by rw[af,af];omega))).t (by rw[<-aV]);refine(vt (x9 (vm (vn (y r) O) (IW (.inl O) lUB λx b M=>Q x (F x b) (oIn x M))))).t ?_;refine(vt (x9 (vm (vn (y _) O) (IW (.inr O) lUB λx b=>R x (F x b))))).t ?_;exact x9 (vm O (IW (.inl O) (by omega) λx b N=>S x (bIn x b) (uIn x N)))
def yN(T:List Th):Str:=((T.filter λt=>decide (t.k=.you)).map Th.n).headD ""
structure ea(T:List Th)(M:List Mk)(dk:aE)(W:List Wy):Prop where
 len:T.length<=13
 r1:1<=(T.filter λt=>decide (t.k=.room)).length
 r5:(T.filter λt=>decide (t.k=.room)).length<=5
 y1:(T.filter λt=>decide (t.k=.you)).map Th.n=[yN T]
 p7:(T.filter λt=>t.k.pl).length<=7
 m4:M.length<=4
 mo:∀m∈M,m.ok
 nm:∀x∈T.map Th.n++M.map Mk.n,Nm x
 nd:(T.map Th.n++M.map Mk.n).Nodup
 st:∀t∈T,FV T t
 rk:∃r,Om T r
 wd:∀t∈T,zT [.a7 (t.w.map D.str)]=Z (.X γ)
 wa:∀t∈T,∀u∈T,t.k.pl=γ->u.k.pl=γ->u.n≠t.n->Pt u t
 wl:∀t∈T,t.k.pl=γ->t.w.length<=3/\∀x∈t.w,x∈wpL
 d0:dk.length<=5
 d1:dk.Nodup
 d2:∀x∈dk,x∈gk T
 w8:W.length<=8
 wo:∀w∈W,MW T M w
 wn:(W.map λw=>[w.r,w.w]).Nodup
section
def ea.vf(g:ea T M a W):(T.map Th.n).Nodup:=(cn.1 g.nd).1
def Ep(T:List Th)(M:List Mk)(a:T.length<=200)(hM:M.length<=4):zl [TD T,MD M]=Z ((u2 T M).map D.str):=by
 have h:=cq (λt:Th=>t.k.mk) T;refine(z4 O (xB (xn (wb (xl ey (λt=>D.str t.n) (λt=>t.k.mk) T O (by omega) λt y=>#v[[.I (ey t)],[.I (ey t)],O,v7 (v5 O O O O (Pp t)),λy=>#v[_,we O (BH t),O],λy=>O]))
  (wb (xw G' (λt=>D.str t.n) M O (by omega) λt y=>#v[_,_,O,we O (Lf t),O])) (by rw[af,af];omega)))).t ?_
 unfold u2;rw[aV,aX,aX];rfl
def Ja(g:ea T M a W)(d:m<64):BC [TD T,MD M,.a3 (a.map D.str),WD W,VD (vL m),VD v9]=Z .O:=by
 have j:=g.len;have b:=g.m4;have hdk:a.length<=1000:=by have:=g.d0;omega
 have h:=by have:=bD cO g.y1;rw[af]at this;exact this
 obtain⟨r,e⟩:=g.rk;let c:bh:=[.I (TD T),.I (MD M),.I (.a3 (a.map D.str)),.I (WD W),.I (VD (vL m)),.I (VD v9),.I (.a3 ((gk T).map D.str))];refine Bs (ρ:=c) O ?_;refine(vt (xH (vm O (Hy T (by omega) g.r1 g.r5 h g.p7)))).t ?_;refine(vt (xH (vm O (IT M g.m4 g.mo)))).t ?_;refine(vt (xH (vm O (IU T M (by omega) (by omega) g.nm g.nd)))).t ?_;refine(vt (xH (vm O (HA T (by omega) g.vf r e g.st)))).t ?_;refine(vt (xH (vm O (IV T (by omega) g.wd g.wa)))).t ?_;refine(vt ((wN (wb (MQ T (by omega) O))))).t ?_;refine(vt (xH (vm O (JD a (gk T) hdk g.d1 g.d2)))).t ?_;refine(vt (xH (vm (vn O (vn O (vn (wb (vm O (Ep T M (by omega) b))) O))) (JF g.w8 g.wo g.wn)))).t ?_;refine(vt (xH (vm O (IY d)))).t ?_;refine xH (vm (vn O (vn O (vn ((wb (xn (ρ1:=c) O O ?_)).t (by rw[<-aV])) O))) (I0 (by omega) g.wl g.w8 (λw f=>(g.wo w f).hw) d));have:=DV m;rw[af,af];show (vL m).length+9<=1000;omega
def On(T:List Th)(m:T.length<=900)(f:(T.map Th.n).Nodup):GA [TD T]=Z (.Y (nK T) (T.map ey)):=by
 obtain⟨h,d⟩:=B8 (g:=gN 2) (i:=1) (fk:=c1 (vA vT "name") ai) (fv:=cV 2) ey Th.n ey (λb a s=>[.I (TD T),.dk b a,s])
  (λt b a s=>#v[[.I (TD T),.dk b a,.I (ey t)],O,O,O,we O (BH t),λe c=>#v[_,O]]) T [] [] .un (by rw[cB];exact Uk f) (by simp;omega) O
 refine vF (ρ:=[.I (TD T),.I (.Y (nK T) (T.map ey)),h]) O ?_;refine(vt O).t ?_;refine(vt ((yO O).t d)).t ?_;rw[cB,cB];rfl
def mP(T:List Th)(M:List Mk):List (Str×Int):=(T.filter λt=>t.k.mk).map (λt=>(t.n,1))++M.map λm=>(m.n,m.mo)
def Li(T:List Th)(M:List Mk):(mP T M).map dA=u2 T M:=by unfold mP u2;rw[aV,aX,aX];rfl
def Xm(m:Mk):vA AK "most" (G' m)=Z (.int m.mo):=rfl
theorem GL:∀(l:List Th) (c:List d?) (d:List L4.D) (s:Sl),(c++(l.filter λt=>t.k.mk).map λt=>kS t.n).Nodup->c.length+l.length<=900->d.length=c.length->
  ∃j,f3 (gN 3) (en (cT (vR xQ "has_mark" au vO)) (zC 2 (c1 (vA vT "name") au) ay) vz) (l.map ey) [a,b,.dk c d,s,e]=Z (.nx [a,b,.dk (c++(l.filter λt=>t.k.mk).map λt=>kS t.n) (d++(l.filter λt=>t.k.mk).map λy=>.int 1),j,e])
 |[],c,d,s,_,_,_=>#v[s,by simp;rfl]
 |t::l,c,d,s,f,u,o=>by
  rw[aS]at u;let r:=[a,b,.dk c d,.I (ey t),e];have m:cT (vR xQ "has_mark" au vO) r=Z (t.k.mk,r):=v7 (v5 O O O O (Pp t));rw[aU];unfold f3;rw[show gN 3 (ey t) [a,b,.dk c d,s,e]=Z r from O];cases h:t.k.mk with
  |true=>
   rw[h]at m;rw[jF (p:=λt:Th=>t.k.mk) h,aU]at f;rw[jF (p:=λt:Th=>t.k.mk) h];have w:=λz=>by rw[cn]at f;exact f.2.2 _ z _ ba O
   obtain⟨j,q⟩:=GL l (c++[kS t.n]) (d++[.int 1]) (.I (ey t)) (by rw[cc];exact f) (by rw[aA,cR];omega) (by simp[o]);refine#v[j,?_];simp only[(wt m).t (MU (i:=2) (fk:=c1 (vA vT "name") au) (fv:=cC (.int 1)) O O (we O (BH t)) w (by omega) o)];refine Eq.t q ?_;rw[cc,cc];rfl
  |false=>rw[h]at m;rw[lp (by rw[h];exact bG)]at f ⊢;obtain⟨j,q⟩:=GL l c d (.I (ey t)) f (by omega) o;refine#v[j,?_];simp only[wU m,vz];exact q
def mD(T:List Th)(M:List Mk):L4.D:=.Y ((mP T M).map λq=>kS q.1) ((mP T M).map λq=>.int q.2)
def ea.ndK(g:ea T M d W):(u2 T M).Nodup:=by have h:=cn.1 g.nd;refine cn.2 #v[u7 (lY.map _) h.1,h.2.1,λx b y c=>h.2.2 x ?_ y c];obtain⟨t,a,rfl⟩:=aw.1 b;exact bY (aO.1 a).1
def Uq(g:ea T M a W):((mP T M).map λq=>kS q.1).Nodup:=by have:=As g.ndK;rw[<-Li,aX]at this;exact this
def Ur(g:ea T M r W):z7 [TD T,MD M]=Z (mD T M):=by
 have d:=Uq g;have y:=g.len;have z:=g.m4;have f:(mP T M).map (λq=>kS q.1)=(T.filter λt=>t.k.mk).map (λt=>kS t.n)++M.map λm=>kS m.n:=by unfold mP;rw[aV,aX,aX];rfl
 have b:(mP T M).map (λq=>D.int q.2)=(T.filter λt=>t.k.mk).map (λw=>D.int 1)++M.map λm=>D.int m.mo:=by unfold mP;rw[aV,aX,aX];rfl
 rw[f]at d;have x:=cq (λt:Th=>t.k.mk) T;obtain⟨e,h⟩:=GL T [] [] .un (by rw[cB];exact(cn.1 d).1) (by simp;omega) O;rw[cB,cB]at h;obtain⟨p,l⟩:=B8 (g:=gN 4) (i:=2) (fk:=c1 (vA vT "name") aG) (fv:=c1 (vA AK "most") aG) G' Mk.n (λm=>.int m.mo) (λc a s=>[.I (TD T),.I (MD M),.dk c a,e,s])
  (λm c a s=>#v[[.I (TD T),.I (MD M),.dk c a,e,.I (G' m)],O,we O (Xm m),O,we O (Lf m),λo j=>#v[_,O]]) M ((T.filter λt=>t.k.mk).map λt=>kS t.n) ((T.filter λt=>t.k.mk).map λw=>.int 1) .un d (by rw[af];omega) (by rw[af,af])
 refine vF (ρ:=[.I (TD T),.I (MD M),.I (mD T M),e,p]) O ?_;refine(vt O).t ?_;refine(vt ((yO O).t h)).t ((vt ((yO O).t l)).t ?_);unfold mD;rw[f,b];rfl
def Jb(T:List Th)(c:T.length<=1000)(a:aE)(et:List L4.D)(k:Kd):Dj [.obj 14 ("kept_things" ::a) (TD T::et),.str k.s]=Z (.a3 ((T.filter λt=>decide (t.k=k)).map λt=>D.str t.n)):=by let b:bh:=[.I (.obj 14 ("kept_things" ::a) (TD T::et)),.I (.str k.s)];refine Bt (ρ:=b) O ?_;exact xB (xl ey (λt=>D.str t.n) (λt=>decide (t.k=k)) T O c λt y=>#v[[.I (ey t),.I (.str k.s)],[.I (ey t),.I (.str k.s)],O,v7 (vp (we O (BI t)) O (FQ t.k k)),λy=>#v[_,we O (BH t),O],λy=>O])
end
def vwD(V:List Vb):L4.D:=.Y (V.flatMap λv=>v.ws.map kS) (V.flatMap λv=>v.ws.map λy=>k4 v)
def acn:((aB 64).map λm=>yR [VD (vL m++v9)])=(aB 64).map λm=>Z (vwD (vL m++v9)):=by kernel_rfl
def aew(a:m<64):yR [VD (vL m++v9)]=Z (vwD (vL m++v9)):=List.map_inj_left.1 acn m (bx.2 a)
theorem Oo:∀V:List Vb,(V.flatMap λv=>v.ws.map kS).zip (V.flatMap λv=>v.ws.map λy=>k4 v)=V.flatMap λv=>v.ws.map λx=>(kS x,k4 v)
 |[]=>rfl
 |v::V=>by rw[fO,fO,fO,mT (by rw[af,af]),Oo V,ji]
def Lj{V:List Vb}(b:(V.flatMap Vb.ws).Nodup)(a:v∈V):Dh (vwD V) (.str v.n)=Z (k4 v):=by
 show Z ((xj (V.flatMap λv=>v.ws.map kS) (V.flatMap λv=>v.ws.map λy=>k4 v) (kS v.n)).getD .O)=_;rw[AI]
 .rfl
 .have:=As b;rw[qF]at this;exact this
 .rw[Oo];exact c8.2 #v[v,a,aw.2 #v[v.n,ba,O]]
def wNs:aE:=["kept_things", "kept_marks", "kept_dark", "kept_ways", "kept_verbs", "shared_verbs", "your_name", "things_by_name", "mosts_by_name", "verbs_by_word", "kept_rules", "shared_rules", "copied_rules", "rules_by_verb"]
def fx(T:List Th)(M:List Mk)(dk:aE)(W:List Wy)(V:List Vb):L4.D:=.obj 14 (wNs.take 10) [TD T,MD M,.a3 (dk.map D.str),WD W,VD V,VD v9,.str (yN T),.Y (nK T) (T.map ey),mD T M,vwD (V++v9)]
def k3:aE:=["one", "two", "alone", "way"]
def xL:aE:="here" ::υ
def aco:(k3.all λf=>xL.all λx=>isF (wV [.str f,.str x]))=γ:=by kernel_rfl
def acp:(k3.all λf=>υ.all λx=>isF (zF [.str f,.str x]))=γ:=by kernel_rfl
set_option r "J8 xL wV o;Yz υ zF p" in def ϑ0(a:f∈k3)(b:x∈ϑ1):ϑ2 [.str f,.str x]=Z (.X δ):=Uj (aK.1 (aK.1 acϑ3 f a) x b)
def Us(a:f∈k3):zF [.str f,.str "here"]=Z (.X γ):=CW (aK.1 (show (k3.all λf=>ZX (zF [.str f,.str "here"]))=γ by kernel_rfl) f a)
def By(f x:Str):Prop:=(x="it" /\ f∈(["one", "two"]:aE))\/(x="other" /\ f="two")
def Lk(h:By f x):wV [.str f,.str x]=Z (.X γ):=by
 rcases h with ⟨rfl,h⟩|⟨rfl,rfl⟩
 .exact CW (aK.1 (show ((["one", "two"]:aE).all λf=>ZX (wV [.str f,.str "it"]))=γ by kernel_rfl) f h)
 .kernel_rfl
def Tm(f:Str)(N:aE)(x:Str):Prop:=x∈N\/x="here" \/ By f x
section
variable{V:List Vb}
def Ut(g:ea T M a W)(h:t∈T):t.n∈υ:=g.nm _ (bJ _ (bY h))
def aex(g:ea T M a W)(h:t∈T):xS [fx T M a W V,.str t.n]=Z (ey t):=by
 have e:xS [fx T M a W V,.str t.n]=Z ((xj (nK T) (T.map ey) (kS t.n)).getD .O):=by kernel_rfl
 rw[e,FW g.vf ey h];rfl
def aey(g:ea T M a W)(h:q∈mP T M):ye [fx T M a W V,.str q.1]=Z (.int q.2):=by
 have e:ye [fx T M a W V,.str q.1]=Z ((xj ((mP T M).map λq=>kS q.1) ((mP T M).map λq=>.int q.2) (kS q.1)).getD .O):=by kernel_rfl
 rw[e,AI (Uq g)]
 .rfl
 .rw[ji];exact bY h
def FY(h:c ρ=Z (γ,a)):mq c e b ρ=e a:=by unfold mq;rw[h]
def nmd(g:ea T M a W)(h:t∈T):Bi [fx T M a W V,.str t.n]=Z (ey t):=by let b:bh:=[.I (fx T M a W V),.I (.str t.n)];refine vF (ρ:=b) O (vP ?_);refine(FY O).t ?_;exact v5 O O O O (aex g h)
def CY(g:ea T M c W)(a:f∈k3)(h:Tm f (T.map Th.n) x):B5 [fx T M c W V,.str f,.str x]=Z (.X γ):=by
 let d:bh:=[.I (fx T M c W V),.I (.str f),.I (.str x)];refine vF (ρ:=d) O (vP ?_);rcases h with h|rfl|h
 .obtain⟨t,b,rfl⟩:=aw.1 h;refine(FX (vm O (J8 a (bb _ (Ut g b))))).t ((FX (vm O (Yz a (Ut g b)))).t ?_);exact vp (vm O (nmd g b)) O O
 .exact(FX (vm O (J8 a ba))).t (Lh (vm O (Us a)))
 .exact Lh (vm O (Lk h))
def hd_T(h:x∈nq T):∃t∈T,t.n=x/\t.k.hd=γ:=by obtain⟨t,a,rfl⟩:=aw.1 h;exact#v[t,(aO.1 a).1,O,(aO.1 a).2]
def MX(b:c ρ=Z (γ,a)):xC c d ρ=Z (γ,a):=by unfold xC;rw[b]
def Hn(g:ea T M i W)(b:f∈k3)(h:Tm f (nq T) x):CG [fx T M i W V,.str f,.str x]=Z (.X γ):=by
 let c:bh:=[.I (fx T M i W V),.I (.str f),.I (.str x)];refine vF (ρ:=c) O ?_;rcases h with h|rfl|h
 .obtain⟨t,d,rfl,l⟩:=hd_T h;refine(vt ((wU (yM (v7 (vm O (J8 b (bb _ (Ut g d))))) (v7 (vm O (Yz b (Ut g d)))))))).t (vP ?_);have e:=nmd (V:=V) g d;refine(vN (vp (vm O e) O O)).t ?_;have j:=v5 (g:=wR) (m:="can_hold") (a:=vO) (vm (a:=ax aa cv) (ρ:=c) O e) O O O (Le t);rw[l]at j;exact j
 .exact vZ ((wt (yM (v7 (vm O (J8 b ba))) (v7 (vm O (Us b))))))
 .exact vZ ((wt (MX (v7 (vm O (Lk h))))))
def YA(g:ea T M a W)(h:t∈T)(k:Kd):Ai [fx T M a W V,.str t.n,.str k.s]=Z (.X (decide (t.k=k))):=by let b:bh:=[.I (fx T M a W V),.I (.str t.n),.I (.str k.s)];refine vF (ρ:=b) O (vP ?_);have e:=nmd (V:=V) g h;exact(vN (vp (vm O e) O O)).t (vp (we (vm O e) (BI t)) O (FQ t.k k))
def Mv(T:List Th)(f x:Str):Prop:=(∃t∈T,t.n=x/\t.k≠.room)\/By f x
def MY(g:ea T M b W)(d:f∈k3)(h:Mv T f x):EJ [fx T M b W V,.str f,.str x]=Z (.X γ):=by
 let c:bh:=[.I (fx T M b W V),.I (.str f),.I (.str x)];refine vF (ρ:=c) O ?_;rcases h with ⟨t,a,rfl,e⟩|h
 .refine(vt ((wU (v7 (vm O (J8 d (bb _ (Ut g a)))))))).t (vP ?_);refine(vN (vp (vm O (nmd g a)) O O)).t ((Lg (vm O (YA g a .room))).t ?_);rw[aZ e];rfl
 .exact vZ ((wt (v7 (vm O (Lk h)))))
def Mt(T:List Th)(M:List Mk)(f:Str)(q:Str×Int):Prop:=q∈mP T M\/(By f q.1/\q.2<=3)
def Uu(g:ea T M b W)(h:q∈mP T M):q.1∈υ:=by
 refine g.nm _ ?_;have h1:q.1∈u2 T M:=by rw[<-Li];exact bY h
 rcases aW.1 h1 with h1|h1
 .obtain⟨t,a,e⟩:=aw.1 h1;exact bJ _ (by rw[<-e];exact bY (aO.1 a).1)
 .exact bB _ h1
def Er(g:ea T M c W)(l:f∈k3)(h:Mt T M f q)(o:0<=v)(j:v<=q.2):yT [fx T M c W V,.str f,.str q.1,.int v]=Z (.X γ):=by
 let a:bh:=[.I (fx T M c W V),.I (.str f),.I (.str q.1),.I (.int v),.un];have e:cT (c2 NQ au az) a=Z (δ,a):=by show Z (decide (v<0),a)=_;rw[aZ (by omega)]
 have d:en (xC (w9 (cT (vq AN fH))) (cT (c2 NQ au az))) (vw cg) vz a=Z (.nx a):=(wU (yM (yC (b:=γ) (v7 (vm O (by kernel_rfl)))) e));rcases h with h|⟨h,p⟩
 .let m:bh:=[.I (fx T M c W V),.I (.str f),.I (.str q.1),.I (.int v),.I (.int q.2)];refine vF (ρ:=m) O ?_;refine(vt d).t ((vt ((wU (v7 (vm O (J8 l (bb _ (Uu g h)))))))).t ?_);have i:mq (cT (c1 (wI (w5 "str")) ai)) (vR xt "most_of" aa cv) aN a=Z (.int q.2,a):=by refine(FY O).t ?_;exact v5 O O O O (aey g h)
  refine(vt ((wN i))).t (vP ((vN O).t (Pq O O j)))
 .refine vF (ρ:=a) O ?_;refine(vt d).t (vZ ((wt (v7 (vm O (Lk h)))).t (vP (Pq O O (by omega)))))
set_option r "hsO 4;seO 5" in def ϑ0(a:Str):L4.D:=.obj ϑ1 ["term"] [.str a]
def woO(a:Str):L4.D:=.obj 8 ["word"] [.str a]
def noO(d:L4.D):L4.D:=.obj 9 ["inner"] [d]
def boO(d e:L4.D):L4.D:=.obj 10 ["one", "other"] [d,e]
set_option r "atO b 3 place;kiO k 7 kind;T1 b 11 place" in def ϑ0(a ϑ1:Str):L4.D:=.obj ϑ2 ["term", "ϑ3"] [.str a,.str ϑ1]
set_option r "mkO 6;puO 12" in def ϑ0(a:Str)(v:Int):L4.D:=.obj ϑ1 ["term", "value"] [.str a,.int v]
def liO:L4.D:=.obj 15 [] []
def Tk(w:L4.D)(f:Str)(n:Nat)(d:L4.D):Prop:=A5 16 14 d=γ/\∀j:Nat,n<j->j<=4->y6 j [w,.str f,d,.int j]=Z (.X γ)
def Uv(j:Nat):en (cT (c2 (b? δ) au az)) (vw cg) vz [.I w,a,b,.I (.int ((j+1:Nat):Int))]=Z (.nx [.I w,a,b,.I (.int ((j+1:Nat):Int))]):=
 (wU (v7 (vp O O ((x4 δ _ 0).t (by rw[aZ (by omega:¬((j+1:Nat):Int)=0)];rfl)))))
def yY(b:wI Ua d=Z (.X δ))(c:wI Oe d=Z (.X δ))(e:A5 16 14 d=γ)(h:z8 [w,.str f,d]=Z (.X γ)):Tk w f n d:=#v[e,λj i y=>by
 obtain⟨j,rfl⟩:∃k,j=k+1:=#v[j - 1,by omega];let a:bh:=[.I w,.I (.str f),.I d,.I (.int ((j+1:Nat):Int))];refine vF (ρ:=a) O ?_;exact(vt (Uv j)).t ((vt ((wU (v7 (we O b))))).t ((vt ((wU (v7 (we O c))))).t (vP (vm O h))))]
def sub1(h:cV 3 ρ=Z (.int ((j+1:Nat):Int),ρ)):c2 Eh au ay ρ=Z (.int j,ρ):=(vp h O O).t (by
 show Z (D.int (((j+1:Nat):Int) - 1),ρ)=_;rw[show ((j+1:Nat):Int) - 1=j by omega])
def Uw(h:Tk w f n d):Tk w f (n+1) (noO d):=#v[by
 have e:A5 16 14 (noO d)=(A5 16 14 d&&γ):=by kernel_rfl
 rw[e,h.1];rfl,λj c b=>by
 obtain⟨j,rfl⟩:∃k,j=k+1:=#v[j - 1,by omega];let a:bh:=[.I w,.I (.str f),.I (noO d),.I (.int ((j+1:Nat):Int))];refine vF (ρ:=a) O ?_;refine(vt (Uv j)).t (vZ ((wt O).t (vP ?_)));exact vm (vn O (vn O (vn O (vn (sub1 O) O)))) (h.2 j (by omega) (by omega))]
def Rh(h:Tk w f n d)(b:Tk w f n e):Tk w f (n+1) (boO d e):=#v[by
 have q:A5 16 14 (boO d e)=(A5 16 14 d&&(A5 16 14 e&&γ)):=by kernel_rfl
 rw[q,h.1,b.1];rfl,λj l i=>by
 obtain⟨j,rfl⟩:∃k,j=k+1:=#v[j - 1,by omega];let a:bh:=[.I w,.I (.str f),.I (boO d e),.I (.int ((j+1:Nat):Int))];refine vF (ρ:=a) O ?_;refine(vt (Uv j)).t ((vt ((wU O))).t (vZ ((wt O).t (vP ((vN (ρ1:=a) ?_).t ?_)))))
 .exact vm (vn O (vn O (vn O (vn (sub1 O) O)))) (h.2 j (by omega) (by omega))
 .exact vm (vn O (vn O (vn O (vn (sub1 O) O)))) (b.2 j (by omega) (by omega))]
end
section
variable{V:List Vb}
def aez(g:ea T M c W)(d:f∈k3)(h:Tm f (T.map Th.n) a)(i:Tm f (nq T) b):Tk (fx T M c W V) f n (atO a b):=yY O O O (by
 let e:bh:=[.I (fx T M c W V),.I (.str f),.I (atO a b)];refine vF (ρ:=e) O ?_;exact vZ ((wt O).t (vP ((vN (vm O (CY g d h))).t (vm O (Hn g d i))))))
def xg(q:c ρ=Z (δ,ρ)):a0 (en c e vz) h ρ=h ρ:=vt ((wU q))
set_option r "acr hsO;Xo seO" in def ϑ0(g:ea T M b W)(e:f∈k3)(d:Tm f (T.map Th.n) a):Tk (fx T M b W V) f n (ϑ1 a):=yY O O O (by
 let c:bh:=[.I (fx T M b W V),.I (.str f),.I (ϑ1 a)];refine vF (ρ:=c) O ?_;exact(xg O).t (vZ ((wt O).t (vP (vm O (CY g e d))))))
def Xp(g:ea T M a W)(e:f∈k3)(h:Mt T M f q)(c:0<=v)(d:v<=q.2):Tk (fx T M a W V) f n (mkO q.1 v):=yY O O O (by
 let b:bh:=[.I (fx T M a W V),.I (.str f),.I (mkO q.1 v)];refine vF (ρ:=b) O ?_;exact(xg O).t ((xg O).t (vZ ((wt O).t (vP (vm O (Er g e h c d)))))))
def Xq(g:ea T M b W)(h:f∈k3)(e:Tm f (T.map Th.n) a)(i:k∈(["plain", "fixed", "box", "lamp", "room", "you"]:aE)):Tk (fx T M b W V) f n (kiO a k):=yY O O O (by
 let c:bh:=[.I (fx T M b W V),.I (.str f),.I (kiO a k)];refine vF (ρ:=c) O ?_;have d:=CW (aK.1 (show ((["plain", "fixed", "box", "lamp", "room", "you"]:aE).all λx=>ZX (wF [.str x,Fv]))=γ by kernel_rfl) k i);exact(xg O).t ((xg O).t ((xg O).t (vZ ((wt O).t (vP ((vN (vm O (CY g h e))).t (vm O d))))))))
def Xr(c:x∈wwL):Tk w "way" n (woO x):=yY O O O (by
 let a:bh:=[.I w,.I (.str "way"),.I (woO x)];refine vF (ρ:=a) O ?_;have b:=CW (aK.1 (show (wwL.all λx=>ZX (yF [.str x]))=γ by kernel_rfl) x c);exact(xg O).t ((xg O).t ((xg O).t ((xg O).t (vZ ((wt O).t (vP ((vN O).t (vm O b)))))))))
def acs:Tk w f n liO:=yY O O O (by kernel_rfl)
def Dd(w:L4.D)(f:Str)(d:L4.D):Prop:=A5 16 14 d=γ/\GF [w,.str f,d]=Z (.X γ)
def Ux(g:ea T M a W)(e:f∈k3)(h:Mt T M f q)(c:0<=v)(d:v<=q.2):Dd (fx T M a W V) f (puO q.1 v):=#v[O,by
 let b:bh:=[.I (fx T M a W V),.I (.str f),.I (puO q.1 v)];refine vF (ρ:=b) O ?_;exact vZ ((wt O).t (vP (vm O (Er g e h c d))))]
def Py(g:ea T M d W)(j:f∈k3)(o:Mv T f a)(p:Tm f (nq T) b)(q:a=(yN T)->∃t∈T,t.n=b/\t.k=.room):Dd (fx T M d W V) f (T1 a b):=#v[O,by
 let c:bh:=[.I (fx T M d W V),.I (.str f),.I (T1 a b)];have e:GE [fx T M d W V,.str f,T1 a b]=Z (.X γ):=by
  refine vF (ρ:=c) O ?_;refine(xg (yM (yC (v7 (vm O (MY g j o)))) (yC (v7 (vm O (Hn g j p)))))).t (vP ?_);have i:c2 (b? γ) (c1 (vA B2 "term") ai) (vR Aw "you" aa vO) c=Z (.X (!decide (a=(yN T))),c):=vp O O (xa γ a (yN T));by_cases h:a=(yN T)
  .obtain⟨t,r,l,m⟩:=q h;rw[aY h]at i;refine(FX i).t (vm (ds:=[fx T M d W V,.str b,.str Kd.room.s]) O ?_);rw[<-l,YA g r .room,aY m]
  .rw[aZ h]at i;exact Lh i
 refine vF (ρ:=c) O ?_;exact(xg O).t (vP ((vN O).t (vm O e)))]
end
def gl:List d?->List (List L4.D)->d?->List L4.D
 |k::b,a::dss,j=>if k=j then a else gl b dss j
 |_,_,_=>[]
theorem Pz:∀(a:List d?) (dss:List (List L4.D)) (j:d?),(xj a (dss.map .a3) j).getD (.a3 [])=.a3 (gl a dss j)
 |[],dss,j=>by cases dss<;>rfl
 |k::a,[],j=>rfl
 |k::a,b::dss,j=>by
  rw[aU];unfold xj gl;by_cases h:k=j
  .rw[aj h,aj h];rfl
  .rw[ak h,ak h];exact Pz a dss j
theorem Uy:∀(a:List d?) (dss:List (List L4.D)),a.length=dss.length->(k=j->k∈a)->gl a (fz (λl c=>if l=k then c++[d]else c) a dss) j=gl a dss j++if k=j then [d]else []
 |[],[],_,f=>by rw[ak λh=>(by cases f h)];rfl
 |[],_::_,h,_=>by cases h
 |_::_,[],h,_=>by cases h
 |i::a,c::dss,h,f=>by
  rw[iX];unfold gl;by_cases e:i=j
  .subst e;rw[aj O,aj O];by_cases b:i=k
   .rw[aj b,aj b.symm]
   .rw[ak b,ak λz=>b z.symm,bZ]
  .rw[ak e,ak e];exact Uy a dss (by simpa using h) λz=>by
    rcases aJ.1 (f z)with y|y
    .exact ar (y.symm.t z) e
    .exact y
theorem Uz:∀(a:List d?) (dss:List (List L4.D)),a.length=dss.length->k∉a->gl (a++[k]) (dss++[[d]]) j=gl a dss j++if k=j then [d]else []
 |[],[],_,_=>rfl
 |[],_::_,h,_=>by cases h
 |_::_,[],h,_=>by cases h
 |c::a,f::dss,h,b=>by
  rw[jX,jX];unfold gl;by_cases e:c=j
  .rw[aj e,aj e,ak λz=>b (by rw[z,e];exact ba),bZ]
  .rw[ak e,ak e];exact Uz a dss (by simpa using h) λz=>b (bb _ z)
theorem UA{d:L4.D}{k:d?}{P Q:List L4.D->Prop}(e:∀a,P a->Q a)(f:∀a,P a->Q (a++[d])):∀(c:List d?) (dss:List (List L4.D)),(∀a∈dss,P a)->∀x∈fz (λi a=>if i=k then a++[d]else a) c dss,Q x
 |[],_,_,x,b=>by cases b
 |_::_,[],_,x,b=>by cases b
 |j::c,a::dss,h,x,b=>by
  rw[iX]at b;rcases aJ.1 b with rfl|b
  .have:=h a ba;split
   .exact f _ this
   .exact e _ this
  .exact UA e f c dss (λa hd=>h a (bb _ hd)) x b
theorem Jc(hd:A5 16 14 d=γ):∀a:List L4.D,Ag 16 14 a=γ->Ag 16 14 (a++[d])=γ
 |[],_=>by rw[cB];unfold Ag;rw[hd];rfl
 |x::a,h=>by rw[jX];unfold Ag at h ⊢;rw[aT]at h ⊢;exact#v[h.1,Jc hd a h.2]
theorem B9:∀a:List L4.D,(∀d∈a,A5 16 14 d=γ)->Ag 16 14 a=γ
 |[],_=>by unfold Ag;rfl
 |x::a,h=>by unfold Ag;rw[aT];exact#v[h x ba,B9 a λd hd=>h d (bb _ hd)]
def kv(d:L4.D):d?:=match vA zi "verb" d with
 |some x=>(BS x).getD (.inl 0)
 |none=>.inl 0
def gK(d:L4.D):Bool:=(match vA zi "verb" d with
 |some x=>(BS x).isSome
 |none=>δ)&&A5 16 14 d
set_option h true
def aeA(h:gK d=γ):∃x,vA zi "verb" d=Z x/\BS x=Z (kv d):=by
 unfold gK at h;rw[aT]at h;obtain⟨h,_⟩:=h;unfold kv;split at h
 .rename_i x e;rw[e];cases a:BS x with
  |none=>rw[a]at h;cases h
  |some y=>exact#v[x,O,a]
 .cases h
set_option h false
theorem UB:∀(L:List L4.D) (b:List d?) (dss:List (List L4.D)),(∀d∈L,gK d=γ)->b.length=dss.length->b.length+L.length<1000->(∀a∈dss,a.length+L.length<1000/\Ag 16 14 a=γ)->
  ∃e dss',DD (vA zi "verb") L b dss=Z (e,dss')/\(∀j,gl e dss' j=gl b dss j++L.filter λd=>decide (kv d=j))/\∀a∈dss',Ag 16 14 a=γ
 |[],b,dss,_,_,_,h=>#v[b,dss,O,λj=>by rw[List.filter_nil,bZ],λa hd=>(h a hd).2]
 |d::L,b,dss,i,f,p,h=>by
  rw[aS]at p;have hL:∀a∈dss,a.length+L.length+1<1000/\Ag 16 14 a=γ:=λa hd=>#v[by have:=(h a hd).1;rw[aS]at this;omega,(h a hd).2];have gd:=i d ba;have l:=by unfold gK at gd;rw[aT]at gd;exact gd.2
  obtain⟨x,m,o⟩:=aeA gd;have st:(Ck b dss (kv d) d).1.length=(Ck b dss (kv d) d).2.length/\(Ck b dss (kv d) d).1.length+L.length<1000/\(∀a∈(Ck b dss (kv d) d).2,a.length+L.length<1000/\Ag 16 14 a=γ)/\∀j,gl (Ck b dss (kv d) d).1 (Ck b dss (kv d) d).2 j=gl b dss j++if kv d=j then [d]else []:=by
   unfold Ck;by_cases c:KP b (kv d)=γ
   .rw[aj c];refine#v[by simp only[lQ];omega,by simp only;omega,UA (λa h=>#v[by omega,h.2]) (λa h=>#v[by rw[aA,cR];omega,Jc l a h.2]) b dss hL,λj=>Uy b dss f λs=>Fl.1 c]
   .rw[ak c];refine#v[by simp[f],by simp only[aA,cR];omega,λa hd=>?_,λj=>Uz b dss f λz=>c (Fl.2 z)];rcases aW.1 hd with hd|hd
    .exact#v[by have:=(hL a hd).1;omega,(hL a hd).2]
    .rw[br.1 hd];exact#v[by simp only[cR];omega,Jc l [] (by unfold Ag;rfl)]
  obtain⟨u,w,y,A⟩:=st;obtain⟨e,dss',r,t,q3⟩:=UB L (Ck b dss (kv d) d).1 (Ck b dss (kv d) d).2 (λx q=>i x (bb _ q)) u w y;refine#v[e,dss',?_,λj=>?_,q3]
  .unfold DD;simp only[m,o];rw[aj]
   .exact r
   .rw[aT];refine#v[aY (by omega),aK.2 λa hd=>aY (by have:=(hL a hd).1;omega)]
  .rw[t j,A j,gx,cc];by_cases c:kv d=j
   .simp[c]
   .simp[c]
def ruN:aE:=["verb", "tests", "deeds", "text", "refuses"]
def p5(v:Str)(c a:List L4.D)(tx:Str)(b:Bool):L4.D:=.obj 13 ruN [.str v,.a3 c,.a3 a,.str tx,.X b]
structure RuOk(w d:L4.D):Prop where
 r:GH [w,d]=Z (.X γ)
 g:gK d=γ
 c:GB [d]=Z d
section
variable{V:List Vb}
def Oq(b:((V++v9).flatMap Vb.ws).Nodup)(a:v∈V++v9):yf [fx T M dk W V,.str v.n]=Z (k4 v):=by
 have e:yf [fx T M dk W V,.str v.n]=Dh (vwD (V++v9)) (.str v.n):=by kernel_rfl
 rw[e,Lj b a]
def Xs(y:∀v∈V,v∈v6)(C:((V++v9).flatMap Vb.ws).Nodup)(i:v∈V++v9)(o:∀t∈b,Tk (fx T M dk W V) v.f 2 t)(lt:b.length<=3)(hd:∀d∈a,Dd (fx T M dk W V) v.f d)(ld:a.length<=3)(A:m=γ->a=[])(B:B6 [.str tx]=Z (.X γ)):RuOk (fx T M dk W V) (p5 v.n b a tx m):=by
 let w:=fx T M dk W V;let r:=p5 v.n b a tx m;have l:v∈v6++v9:=by
  rcases aW.1 i with i|i
  .exact bJ _ (y v i)
  .exact bB _ i
 have evo:=Oq (T:=T) (M:=M) (dk:=dk) (W:=W) C i;have x:AW [w,.str v.n]=Z (.X γ):=by let j:bh:=[.I w,.I (.str v.n)];have E:=CW (aK.1 (show ((v6++v9).all λv=>ZX (y3 [.str v.n]))=γ by kernel_rfl) v l);have mt:vR xh "verb_of" aa bQ j=Z (k4 v,j):=v5 O O O O evo;refine vF O (vP ((vN (vm O E)).t ((vN (vp mt O O)).t (vp (we mt O) O ?_))));rw[xa];simp
 refine#v[?_,?_,by kernel_rfl]
 .let j:bh:=[.I w,.I r,.un];let F:bh:=[.I w,.I r,.I (.str v.f)];refine vF (ρ:=F) O ?_;refine(xg (yM O (yM (yC (v7 (vm O x))) (yC (v7 (vm O B)))))).t ?_;refine(vt ((wN (we (z:=.str v.f) (v5 O O O O evo) O)))).t (vP ?_);have p:DP [w,.str v.f,.a3 b]=Z (.X γ):=vF O (vP ((vN (vm O (Pu _ _ (by omega)))).t (zv id b (by rw[gU];rfl) (by omega) λt c=>#v[[.I t,.I w,.I (.str v.f)],[.I t,.I w,.I (.str v.f)],O,vm O ((o t c).2 4 (by decide) (by decide)),O])));have q:DQ [w,.str v.f,.a3 a]=Z (.X γ):=vF O (vP ((vN (vm O (Pu _ _ (by omega)))).t (zv id a (by rw[gU];rfl) (by omega) λt c=>#v[[.I t,.I w,.I (.str v.f)],[.I t,.I w,.I (.str v.f)],O,vm O (hd t c).2,O])));have u:zq [r]=Z (.X γ):=by
   cases m with
   |false=>kernel_rfl
   |true=>rw[show r=p5 v.n b [] tx γ from by show p5 v.n b a tx γ=_;rw[A O]];kernel_rfl
  exact(vN (vm O p)).t ((vN (vm O q)).t (vm O u))
 .have e:gK r=(Ag 16 14 b&&(Ag 16 14 a&&γ)):=by kernel_rfl
  rw[e,B9 b λt h=>(o t h).1,B9 a λt h=>(hd t h).1];rfl
end
def wtL(u:Str)(w:Wy):List L4.D:=[atO u w.r,woO w.w]++match w.m with|none=>[]|some m=>[noO (mkO m 0)]
def goO(u:Str)(w:Wy):L4.D:=p5 "go" (wtL u w) [T1 u w.g] "You go." δ
def A21(u:Str):List L4.D:=(CD [.str u]).getD []++(DM []).getD []++(DN []).getD []++(BD []).getD []
def SH(u:Str)(W:List Wy):List L4.D:=A21 u++(W.map (goO u)++[p5 "go" [] [] "No way there." γ])++[p5 "wait" [] [] "Time goes by." δ]
def aeC(u:Str)(w:Wy):DO [.str u,m5 w]=Z (wtL u w):=by obtain⟨r,x,g,m⟩:=w;cases m<;>kernel_rfl
def Xt(u:Str)(w:Wy):AU [.str "go", .a3 (wtL u w),.a3 [T1 u w.g],.str "You go."]=Z (goO u w):=by kernel_rfl
def aeD(u:Str)(W:List Wy)(b:W.length<=8):EI [.str u,WD W]=Z (W.map (goO u)++[p5 "go" [] [] "No way there." γ]):=by
 let a:bh:=[.I (.str u),.I (WD W),.I (.a3 (W.map (goO u)))];refine z4 (ρ:=a) O ?_;refine(vt ((wN (wb (xw m5 (goO u) W O (by omega) λw y=>#v[[.I (m5 w),.I (.str u)],[.I (m5 w),.I (.str u)],O,?_,O]))))).t ?_
 .exact vm (vn O (vn (wb (vm O (aeC u w))) O)) (Xt u w)
 .exact xB (xn O (by kernel_rfl) (by rw[af];show W.length+1<=1000;omega))
def PB(u:Str):(A21 u).length<=50:=bX (by kernel_rfl)
def acu(u:Str){W:List Wy}(a:W.length<=8):(SH u W).length<=100:=by have:=PB u;unfold SH;rw[aA,aA,aA,af];show (A21 u).length+(W.length+1)+1<=100;omega
def Rj(u:Str)(W:List Wy)(b:W.length<=8):AV [.str u,WD W]=Z (SH u W):=by
 have:=PB u;let a:bh:=[.I (.str u),.I (WD W)];refine z4 (ρ:=a) O (xB (xn (wb (xn (ρ1:=a) (by kernel_rfl) (wb (vm O (aeD u W b))) ?_)) (by kernel_rfl) ?_))
 .rw[aA,af];show (A21 u).length+(W.length+1)<=1000;omega
 .rw[aA,aA,af];show (A21 u).length+(W.length+1)+1<=1000;omega
def YB(u:Str)(W:List Wy):∀d∈SH u W,gK d=γ:=λd hd=>by
 rcases aW.1 hd with hd|hd
 .rcases aW.1 hd with hd|hd
  .exact aK.1 (show (A21 u).all gK=γ by kernel_rfl) d hd
  .rcases aW.1 hd with hd|hd
   .obtain⟨w,_,rfl⟩:=aw.1 hd;obtain⟨r,x,g,m⟩:=w;cases m<;>kernel_rfl
   .rw[br.1 hd];kernel_rfl
 .rw[br.1 hd];kernel_rfl
def acv(h:gK d=γ):A5 16 14 d=γ:=by unfold gK at h;rw[aT]at h;exact h.2
section
variable{V:List Vb}
def wA(T:List Th)(M:List Mk)(a:aE)(W:List Wy)(V:List Vb)(R:List L4.D)(c:L4.D):List L4.D:=[TD T,MD M,.a3 (a.map D.str),WD W,VD V,VD v9,.str (yN T),.Y (nK T) (T.map ey),mD T M,vwD (V++v9),.a3 R,.a3 (SH (yN T) W),.a3 R,c]
def wS(T:List Th)(M:List Mk)(a:aE)(W:List Wy)(V:List Vb)(R:List L4.D)(c:L4.D)(q:Sl)(k:Nat):bh:=[.ob 14 (wNs.take k) ((wA T M a W V R c).take k),.I (TD T),.I (MD M),.I (.a3 (a.map D.str)),.I (WD W),.I (VD V),.I (.a3 R),q]
def MZ{r:bh}(c:e (.I (.obj 14 b a)::r.map EC)=Z (d,h))(f:A5 16 14 d=γ):Ek 16 e (.ob 14 b a::r)=Z (d,.ob 14 b a::r):=by unfold Ek;simp only[c,f];rfl
def Jd(f:e (.ob 14 a b::r)=Z (d,.ob 14 a b::r))(h:a.contains c=δ)(i:b.length=a.length)(j:a.length<900):wD 14 0 c e (.ob 14 a b::r)=Z (.nx (.ob 14 (a++[c]) (b++[d])::r)):=by unfold wD;rw[f];show (if 14=14 then if a.contains c=γ then U else if b.length=a.length then if a.length<900 then Z (B'.nx (.ob 14 (a++[c]) (b++[d])::r))else U else U else U)=_;rw[aj O,h,ak bG,aj i,aj j]
def FZ(V:List Vb)(lV:V.length<=6)(a b c d:L4.D)(f:aE)(e:List L4.D):Bh [.obj 14 ("kept_things" ::"kept_marks" ::"kept_dark" ::"kept_ways" ::"kept_verbs" ::"shared_verbs" ::f) (a::b::c::d::VD V::VD v9::e)]=Z (VD (V++v9)):=by refine(Bt O (xB (xn O O (by rw[af];show V.length+9<=1000;omega)))).t ?_;rw[<-aV]
def acw(b:∀v∈V,v∈v6):A5 16 14 (vwD (V++v9))=γ:=by
 refine B9 _ λd hd=>?_;obtain⟨v,a,hd⟩:=c8.1 hd;obtain⟨x,_,rfl⟩:=aw.1 hd;refine aK.1 (show ((v6++v9).all λv=>A5 16 14 (k4 v))=γ by kernel_rfl) v ?_;rcases aW.1 a with a|a
 .exact bJ _ (b v a)
 .exact bB _ a
def UC(g:ea T M b W)(o:m<64)(hR:∀r∈R,RuOk (fx T M b W (vL m)) r)(lR:R.length<=12):∃f dss,Ak [TD T,MD M,.a3 (b.map D.str),WD W,VD (vL m),.a3 R]=Z (wNs,wA T M b W (vL m) R (.Y f (dss.map .a3)))/\∀j,gl f dss j=(R++SH (yN T) W).filter λd=>decide (kv d=j):=by
 have A:=acu (yN T) g.w8;have z:=g.len;let V:=vL m;have lV:=DV m;have u:∀d∈R++SH (yN T) W,gK d=γ:=λd hd=>by
  rcases aW.1 hd with hd|hd
  .exact(hR d hd).g
  .exact YB (yN T) W d hd
 obtain⟨f,dss,p,q,g3⟩:=UB (R++SH (yN T) W) [] [] u O (by rw[aA];simp only[du];omega) λl h=>(by cases h);let c:L4.D:=.Y f (dss.map .a3);refine#v[f,dss,?_,λj=>(q j).t (cB _)];let B:Sl:=.I (.X γ);have x:=by show Ag 16 14 (dss.map .a3)=γ;exact B9 _ λd hd=>by obtain⟨l,h,rfl⟩:=aw.1 hd;exact g3 l h
 let S:=wS T M b W V R c;have e:Aj (S .un 0)=Z (.nx (S B 14)):=by
  refine(vt (xH (vm (vn O (vn O (vn O (vn O (vn O (vn (wb (vm O Uo)) O)))))) (Ja g o)))).t ?_;refine(vt (ρ':=S .un 1) (by kernel_rfl)).t ((vt (ρ':=S .un 2) (by kernel_rfl)).t ((vt (ρ':=S .un 3) (by kernel_rfl)).t ((vt (ρ':=S .un 4) (by kernel_rfl)).t ((vt (ρ':=S .un 5) (by kernel_rfl)).t ((vt (ρ':=S .un 6) (by kernel_rfl)).t ?_)))));have eY:((T.filter λt=>decide (t.k=.you)).map λt=>D.str t.n)=[.str (yN T)]:=by rw[show (λt:Th=>D.str t.n)=D.str∘Th.n from O,<- aX,g.y1];rfl
  refine(vt (Jd (MZ (vp (v5 O O O O ((Jb T (by omega) _ _ .you).t (by rw[eY]))) O O) O) O O (by decide))).t ?_;refine(vt (Jd (vm O (On T (by omega) g.vf)) O O (by decide))).t ?_;refine(vt (Jd (vm O (Ur g)) O O (by decide))).t ?_;refine(vt (Jd (MZ (vm (vn (v5 O O O O (FZ V lV _ _ _ _ _ _)) O) (aew o)) (acw λv w=>GK w)) O O (by decide))).t ?_;refine(vt ((wN (MZ ((vN (vm O (Pu _ _ (by omega)))).t (zv id R (by rw[gU];rfl) (by omega) λr i=>?_)) O)))).t ?_
  .exact#v[[.I r,.I (fx T M b W V)],[.I r,.I (fx T M b W V)],O,vm O (hR r i).r,O]
  refine(vt (ρ':=S B 10) (by kernel_rfl)).t ((vt (ρ':=S B 11) (by kernel_rfl)).t ?_);refine(vt (Jd (MZ (wb (vm O (Rj (yN T) W g.w8))) (B9 _ λd hd=>acv (YB (yN T) W d hd))) O O (by decide))).t ?_;refine(vt (Jd ((wb (xw (ρ1:=S B 12) id id R (by rw[gU];rfl) (by omega) λr i=>#v[[.I r],[.I r],O,vm O (hR r i).c,O])).t (by rw[gU];rfl)) O O (by decide))).t ?_;refine Jd (MZ (vm (vn (wb (xn O O (by omega))) O) ?_) x) O O (by decide);refine vF (ρ:=[.I (.a3 (R++SH (yN T) W)),.un,.un]) O ?_;show (match DD (vA zi "verb") (R++SH (yN T) W) [] []with
   |some (f,dss)=>Z (B'.rt (.Y f (dss.map .a3)) [.I (.a3 (R++SH (yN T) W)),.un,.un])
   |none=>U)=_
  rw[p]
 unfold Ak rr;rw[aj (show [TD T,MD M,.a3 (b.map D.str),WD W,VD V,.a3 R].length=6 from O)];rw[show Aj (stI 14 8 [TD T,MD M,.a3 (b.map D.str),WD W,VD V,.a3 R])=Z (.nx (S B 14)) from e];rfl
end
def W2{c d:Type}(x:Option (c×d))(k:c->d->Prop):Prop:=∃a b,x=Z (a,b)/\k a b
def Ws(x:Option B')(n:bh->Prop)(r:L4.D->bh->Prop):Prop:=∃o,x=Z o/\match o with
 |.nx a=>n a
 |.rt d a=>r d a
 |.rn l a=>r (.a3 l) a
 |_=>False
def vv{c d:Type}{x:Option (c×d)}{a:c}{b:d}{k:c->d->Prop}(h:x=Z (a,b))(p:k a b):W2 x k:=#v[a,b,h,p]
section
variable{f g:FS}
def vx(w:Ws (f ρ) (λρ=>Ws (g ρ) n r) r):Ws (a0 f g ρ) n r:=by
 obtain⟨o,e,p⟩:=w;cases o with
 |nx ρ=>obtain⟨o,a,p⟩:=p;exact#v[o,(vt e).t a,p]
 |rt d ρ=>exact#v[_,vZ e,p]
 |rn d ρ=>exact#v[_,by unfold a0;rw[e],p]
 |_=>exact p.elim
def Ab(h:f ρ=Z (.nx a))(p:n a):Ws (f ρ) n r:=#v[_,h,p]
set_option r "y γ f t;n δ g U" in def s_ϑ0(h:c ρ=Z (ϑ1,a))(w:Ws (ϑ2 a) n r):Ws (en c f g ρ) n r:=by unfold Ws;rw[wϑ3 h];exact w
def Ll(w:W2 (c ρ) λb ρ=>(b=γ->Ws (f ρ) n r)/\(b=δ->Ws (g ρ) n r)):Ws (en c f g ρ) n r:=by
 obtain⟨b,a,e,y,z⟩:=w;cases b with
 |true=>exact s_y e (y O)
 |false=>exact s_n e (z O)
set_option r "vQ e ρ I vI a wN;s_sn a b ls ya c WQ" in def ϑ0(w:W2 (ϑ1 ϑ2) λd ϑ2=>n (ϑ2.set i (.ϑ3 d))):Ws (ϑ4 i ϑ1 ϑ2) n r:=by obtain⟨d,ϑ5,h,p⟩:=w;exact#v[_,ϑ6 h,p]
def EV(w:W2 (e ρ) λy ρ=>n ρ):Ws (v8 e ρ) n r:=by obtain⟨d,a,h,p⟩:=w;exact#v[_,xH h,p]
def wy(w:W2 (e ρ) r):Ws (vw e ρ) n r:=by obtain⟨d,a,h,p⟩:=w;exact#v[_,vP h,p]
def Rm(w:W2 (a ρ) λd=>r (.a3 d)):Ws (wQ a ρ) n r:=by obtain⟨d,b,h,p⟩:=w;exact#v[_,xB h,p]
def Lm{g:FG}(w:W2 (e ρ) λd ρ=>∃a,g d ρ=Z a/\n a):Ws (E9 e g ρ) n r:=by obtain⟨d,a,h,b,c,p⟩:=w;exact#v[.nx b,by unfold E9;rw[h];simp only[c],p]
def w_L(w:W2 (a ρ) λd ρ=>k (.a3 d) ρ):W2 (cL a ρ) k:=by obtain⟨d,b,h,p⟩:=w;exact#v[_,_,wb h,p]
def w_ap(j:yp a i=Z c)(w:W2 (e a) λd a=>∃b,yp a i=Z b/\b.length<1000/\k .O (putAt a i (b++[d]))):W2 (Ae i e a) k:=by obtain⟨d,o,h,b,l,m,p⟩:=w;exact#v[_,_,zB j h l m,p]
def Ro(w:W2 (e ρ) λd ρ=>∃m:Nat,d=.int m/\m<=100/\kl ((aB m).map λj:Nat=>D.int j) ρ):W2 (u3 e ρ) kl:=by obtain⟨_,a,h,m,rfl,b,p⟩:=w;refine#v[_,a,?_,p];unfold u3;rw[h];dsimp only;rw[aj (by omega),gr];unfold Im;simp
def Dm(h:e ρ=Z (.a3 ds,a)):iL e ρ=Z (ds,a):=by unfold iL;rw[h]
def s_g{R:bh->Prop}(p:R ρ)(k:∀ρ,R ρ->Ws (f ρ) n r):Ws (f ρ) n r:=k _ p
def e4(q:c ρ=Z (δ,a))(w:Ws (g a) n r):Ws (a0 (en c h vz) g ρ) n r:=vx (s_n q (Ab O w))
def m?(q:c ρ=Z (γ,a))(w:Ws (f a) (λρ=>Ws (g ρ) n r) r):Ws (a0 (en c f h) g ρ) n r:=vx (s_y q w)
def w_oA{k:Option Int->bh->Prop}(w:W2 (e ρ) λd ρ=>∃j,d=.int j/\k (Z j) ρ):W2 (mr e ρ) k:=by obtain⟨_,a,h,j,rfl,p⟩:=w;exact#v[Z j,a,by unfold mr;rw[h],p]
def w_sx(w:W2 (e ρ) λd ρ=>∃a,d=.a3 a/\W2 (lo ρ) λl ρ=>W2 (hi ρ) λu ρ=>i (fg a l u) ρ):W2 (Fh e lo hi ρ) i:=by obtain⟨_,j,h,a,rfl,l,m,b,u,o,c,p⟩:=w;exact#v[_,_,by unfold Fh;rw[h];simp only[b,c],p]
def w_an(w:W2 (c a) λb a=>(b=γ->W2 (e a) d)/\(b=δ->d δ a)):W2 (xE c e a) d:=by
 obtain⟨b,i,h,y,z⟩:=w;unfold xE;rw[h];cases b with
 |true=>exact y O
 |false=>exact#v[_,_,O,z O]
theorem s_fl{a:FG}{J:Nat->bh->Prop}:∀(c:List L4.D) (i:Nat) (b:bh),J i b->(∀m d b,c[m]?=Z d->J (i+m) b->∃e,a d b=Z e/\Ws (f e) (J (i+m+1)) r)->Ws (f3 a f c b) (J (i+c.length)) r
 |[],i,b,j,_=>#v[_,O,j]
 |d::c,i,b,j,st=>by
  obtain⟨e,q,o,t,p⟩:=st 0 d b O j;unfold Ws f3;simp only[q,t];cases o with
  |nx l=>rw[aS,show i+(c.length+1)=i+1+c.length by omega];exact s_fl c (i+1) l p λm d b h j=>by rw[show i+1+m=i+(m+1) by omega]at j ⊢;exact st (m+1) d b h j
  |rt d b=>exact#v[_,O,p]
  |rn d b=>exact#v[_,O,p]
  |_=>exact p.elim
def Ec{s:FA}{a:FG}(w:W2 (s ρ) λb ρ=>∃J:Nat->bh->Prop,J 0 ρ/\(∀m d ρ,b[m]?=Z d->J m ρ->∃ρ1,a d ρ=Z ρ1/\Ws (f ρ1) (J (m+1)) r)/\∀ρ,J b.length ρ->n ρ):Ws (yb s a f ρ) n r:=by
 obtain⟨b,c,q,J,j,st,fin⟩:=w;obtain⟨o,e,p⟩:=s_fl b 0 c j λm d ρ h j=>by rw[iB]at j ⊢;exact st m d ρ h j
 rw[iB]at p;refine#v[o,(yO q).t e,?_];cases o with
 |nx ρ=>exact fin ρ p
 |_=>exact p
end
section
def F0{c n:Nat}{b:FS}{ds:List L4.D}{Q:L4.D->Prop}(a:ds.length=c)(w:Ws (b (y0 n ds)) (λy=>False) λd y=>Q d):∃d,dr c n b ds=Z d/\Q d:=by
 obtain⟨o,e,p⟩:=w;cases o with
 |rt d f=>exact#v[d,vF a e,p]
 |rn d f=>exact#v[_,Bt a e,p]
 |_=>exact p.elim
def xT{a:List L4.D}(c:a.length=f)(w:Ws (b (y0 n a)) (λy=>False) λd y=>d=z):dr f n b a=Z z:=by obtain⟨_,e,rfl⟩:=F0 c w;exact e
end
def snoc{b:Type}{P:b->Prop}{l:List b}{x:b}(h:∀y∈l,P y)(c:P x):∀y∈l++[x],P y:=λy a=>(aW.1 a).elim (h y) λa=>by rw[br.1 a];exact c
def GN(h:((aB n).map λj:Nat=>D.int j)[m]?=Z d):m<n/\d=.int m:=by
 rw[bq]at h;by_cases a:m<n
 .rw[lL a]at h;exact#v[a,(cX h).symm]
 .rw[gj (by rw[bK];omega)]at h;cases h
abbrev dN(k:Nat):L4.D:=.int (k:Nat)
def dl(l:List Nat):L4.D:=.a3 (l.map dN)
def gd(l:List Nat)(i:Nat):Nat:=l.getD i 0
def y8{l:List Nat}(h:i<l.length):b1 (dl l) (dN i)=Z (dN (gd l i)):=y9 (by
 rw[bq,aP h];unfold gd;rw[bN,aP h];rfl)
def md(h:0<b):vX (dN a) (dN b)=Z (dN (a % b)):=Ci (by omega)
def dv(h:0<b)(c:b<1073741824):wW (dN a) (dN b)=Z (dN (a / b)):=r? (by omega) (by omega)
def DW{L:aE}(h:i<L.length):b1 (.a3 (L.map D.str)) (dN i)=Z (.str (L.getD i "")):=y9 (by
 rw[bq,aP h,bN,aP h];rfl)
def wC{a:Type}{L:List a}{i:Nat}{z:a}(h:i<L.length):L.getD i z∈L:=by rw[bN,aP h];exact gv h
def aeH{m n i:Nat}{b A B f:FS}{s:FA}{a:FG}{l:List L4.D}{h j:bh}{Q:List L4.D->Prop}(y:b=a0 A (a0 B (a0 (yb s a f) (wQ (Ge i)))))(z:l.length=m)(u:A (y0 n l)=Z (.nx h))(x:B h=Z (.nx j))(w:Ws (yb s a f j) (λr=>∃c d,Ge i r=Z (c,d)/\Q c) λ_ _=>False):∃c,qi m n b l=Z c/\Q c:=by
 subst y;obtain⟨o,e,p⟩:=w;cases o with
 |nx r=>obtain⟨c,d,t,q⟩:=p;exact#v[c,z4 z ((vt u).t ((vt x).t ((vt e).t (xB t)))),q]
 |_=>exact p.elim
def Je(c:Int)(n:Nat)(r:n<=100):∃l:List Nat,l.length=n/\yJ [.int c,dN n]=Z (l.map dN):=by
 let J:=λ(i:Nat) (t:bh)=>∃(l:List Nat) (et:Int) (d f:Sl),t=[.I (.int c),.I (dN n),.ls (l.map dN),.I (.int et),d,f]/\l.length=i
 suffices h:∃j,yJ [.int c,dN n]=Z j/\∃l:List Nat,j=l.map dN/\l.length=n by obtain⟨j,e,l,rfl,a⟩:=h;exact#v[l,a,e]
 refine aeH O O O O (Ec (Ro (vv O #v[n,O,r,J,#v[[],c,.un,.un,O,O],?_,?_])))
 .rintro i _ _ hd ⟨l,et,d,f,rfl,a⟩;obtain⟨u,rfl⟩:=GN hd;have hll:(l.map dN).length<1000:=by rw[af];omega
  have app:∀v:Nat,l.map dN++[dN v]=(l++[v]).map dN:=λv=>by rw[aV];rfl
  refine#v[_,O,Ll (w_an (vv (v7 (vp O O O)) #v[λy=>vv (v7 (vp O O O)) #v[λq=>?_,λy=>?_],λy=>#v[λz=>(by cases z),λy=>?_]]))]
  .have w:=bj q;obtain⟨v,b⟩:=oZ (jg et (show (10007:Int)≠0 by decide));exact vx (EV (w_ap O (vv (vp O O (Ci (by decide))) #v[_,O,hll,vQ (vv (vp O O (r? (by decide) (by decide))) #v[l++[v],_,_,_,by rw[<-app,show dN v=.int (et % 10007) from bD D.int b.symm];rfl,by rw[aA,a];rfl])])))
  all_goals
   have key:∀x:Int,0<=x % 2147483647/\x % 2147483647<2147483647:=λx=>#v[jg _ (by decide),mj _ (by decide)];let m:=(c % 2147483647+7919 * i+1) * 48271 % 2147483647;let o:=m * (m / 1009+69621) % 2147483647;let p:=o * (o / 2003+40692) % 2147483399;obtain⟨v,b⟩:=oZ (show 0<=p from jg _ (by decide));refine vx (vQ (vv (vp (vp (vp (vp (vp O O (Ci (by decide))) (vp O O (yD (.inl (by decide)))) O) O O) O (yD (.inr (by decide)))) O (Ci (by decide))) ?_));refine vx (vQ (vv (vp (vp O (vp (vp O O (r? (by decide) (by decide))) O O) (yD (.inl (DA (key _).1 (key _).2)))) O (Ci (by decide))) ?_));exact EV (w_ap O (vv (vp (vp O (vp (vp O O (r? (by decide) (by decide))) O O) (yD (.inl (DA (key _).1 (key _).2)))) O (Ci (by decide))) #v[_,O,hll,l++[v],et,_,_,by rw[<-app,show dN v=.int p from bD D.int b.symm];rfl,by rw[aA,a];rfl]))
 .rintro _ ⟨l,et,d,f,rfl,a⟩;rw[af,bK]at a;exact#v[_,_,O,l,O,a]
def aeI(b:a∈ahL)(c:x∈smL):a++x∈υ:=by
 have h:a++x∈Y? a:=aw.2 #v[x,c,O];simp only[ahL,aJ,bU,or_false]at b;rcases b with rfl|rfl|rfl|rfl
 .exact bJ _ (bJ _ h)
 .exact bJ _ (bJ _ h)
 .exact bJ _ (bB _ h)
 .exact bB _ h
def aeJ:(ahL.all λa=>decide (Y? a).Nodup)=γ:=by kernel_rfl
def aeK:((aB 17).all λs=>(aB 16).all λt=>decide ((aB 14).map λk=>(s+k * (1+t)) % 17).Nodup)=γ:=by kernel_rfl
def nmF(a:Str)(x t k:Nat):Str:=a++smL.getD ((x+k * (1+t)) % 17) ""
def acz(a:Str)(x t k:Nat):nmF a x t k=(Y? a).getD ((x+k * (1+t)) % 17) "" := by have h:(x+k * (1+t)) % 17<smL.length:=aM _ (by decide);unfold nmF Y?;rw[bN,bN,bq,aP h];rfl
def aeL(h:a∈ahL)(x:Nat)(o:t<16):((aB 14).map (nmF a x t)).Nodup:=by
 have d:=bj (aK.1 (aK.1 aeK (x % 17) (bx.2 (aM _ (by decide)))) t (bx.2 o));have f:=bj (aK.1 aeJ a h);rw[show (λk=>(x % 17+k * (1+t)) % 17)=λk=>(x+k * (1+t)) % 17 from funext λk=>mW _ _ _]at d;have e:(aB 14).map (nmF a x t)=((aB 14).map λk=>(x+k * (1+t)) % 17).map λi=>(Y? a).getD i "" := by rw[aX];exact jK λk y=>acz a x t k
 rw[e];have c:(Y? a).length=17:=by unfold Y?;rw[af];rfl
 have b:∀z,z % 17<(Y? a).length:=λz=>by rw[c];exact aM _ (by decide)
 refine mH.2 (d.imp_of_mem λ{i j} l m p q=>p ?_);obtain⟨_,_,rfl⟩:=aw.1 l;obtain⟨_,_,rfl⟩:=aw.1 m;rw[bN,aP (b _),bN,aP (b _)]at q;exact(jU f).1 q
structure Nms(N:aE):Prop where
 len:N.length=14
 nd:N.Nodup
 nm:∀x∈N,x∈υ
def UD{l:List Nat}(f:l.length=32):∃N,CP [dl l]=Z (.a3 (N.map D.str))/\Nms N:=by
 let a:=ahL.getD (gd l 0 % 4) "";have b:a∈ahL:=wC (aM _ (by decide));let N:=(aB 14).map (nmF a (gd l 1) (gd l 2 % 16));refine#v[N,?_,by show ((aB 14).map _).length=14;rw[af];rfl,aeL b _ (aM _ (by decide)),λx c=>?_]
 .let d:bh:=[.I (dl l),.I (.a3 (smL.map D.str)),.I (.str a)];refine Bt (ρ:=d) O ?_;refine(vt O).t ((vt O).t ((vt (wN (vp O (vp (vp O O (y8 (by omega))) O (md (by decide))) (DW (L:=ahL) (show gd l 0 % 4<4 from aM _ (by decide)))))).t ?_));refine(xB (xw (λk:Nat=>dN k) (λk=>.str (nmF a (gd l 1) (gd l 2 % 16) k)) (aB 14) (by kernel_rfl) (by rw[bK];decide) λk e=>#v[[.I (dN k),.I (.str a),.I (.a3 (smL.map D.str)),.I (dl l)],_,O,vp O (vp O (vp (vp (vp O O (y8 (i:=1) (by omega))) (vp O (vp O (vp (vp O O (y8 (i:=2) (by omega))) O (md (by decide))) O) (yD (.inl ?_))) O) O (md (by decide))) (DW (show (gd l 1+k * (1+gd l 2 % 16)) % 17<17 from aM _ (by decide)))) ?_,O])).t (by show _=Z (B'.rn (((aB 14).map (nmF a (gd l 1) (gd l 2 % 16))).map D.str) d);rw[aX];rfl)
  .have:=bx.1 e;exact DA (by omega) (by omega)
  .have c:smL.getD ((gd l 1+k * (1+gd l 2 % 16)) % 17) "" ∈ smL:=wC (aM _ (by decide));have h:=bj (aK.1 (show (ahL.all λx=>decide (x.length<=8))=γ by kernel_rfl) a b);have j:=bj (aK.1 (show (smL.all λx=>decide (x.length<=8))=γ by kernel_rfl) _ c);show (if a.length+(smL.getD ((gd l 1+k * (1+gd l 2 % 16)) % 17) "").length<=100000 then Z (D.str _)else U)=_;rw[aj (by omega)];rfl
 .obtain⟨k,_,rfl⟩:=aw.1 c;exact aeI b (wC (aM _ (by decide)))
def muL:List Nat:=[1,1,2,2,4,6,7,24]
def Mn(l:List Nat)(k:Nat):Nat:=(gd l 3+k * muL.getD (gd l 4 % 8) 0) % 25
def X'(l:List Nat):Str:=tlL.getD (gd l 5 % 3) ""
def clF(l:List Nat)(k:Nat):Str:=V?.getD (Mn l k % 5) "" ++ X' l
def laF(l:List Nat)(k:Nat):Str:=W'.getD (Mn l k / 5) "" ++ X' l
def exF(l:List Nat)(k:Nat):Str:=exL.getD (gd l 8 / (1+k) % 3) ""
def tj(l:List Nat)(k:Nat):aE:=if gd l 6 / (1+k) % 3=0 then k8 [clF l k,laF l k] (gd l 7 / (1+k) % 3) (exF l k)else [clF l k,laF l k]
def M0(l:List Nat):X' l∈tlL:=wC (aM _ (by decide))
def YC(l:List Nat)(k:Nat):exF l k∈exL:=wC (aM _ (by decide))
def UE(l:List Nat)(k:Nat):Mn l k<25:=aM _ (by decide)
def PF(l:List Nat)(k:Nat):Mn l k % 5<V?.length:=aM _ (by decide)
def PH(l:List Nat)(k:Nat):Mn l k / 5<W'.length:=by have:=UE l k;show _<5;omega
def Os(h:x∈tj l k):x=clF l k\/x=laF l k\/x∈exL:=by
 unfold tj at h;split at h
 .unfold k8 at h;rcases aW.1 h with h|h
  .have:=pC h;simp only[aJ,bU,or_false]at this;exact this.elim .inl λh=>.inr (.inl h)
  .rcases aJ.1 h with rfl|h
   .exact .inr (.inr (YC l k))
   .have:=lG h;simp only[aJ,bU,or_false]at this;exact this.elim .inl λh=>.inr (.inl h)
 .simp only[aJ,bU,or_false]at h;exact h.elim .inl λh=>.inr (.inl h)
set_option r "M clF;N laF" in def aeϑ0(l:List Nat)(k:Nat):ϑ1 l k∈tj l k:=by
 unfold tj;split
 .have h:gd l 7 / (1+k) % 3<3:=aM _ (by decide);generalize gd l 7 / (1+k) % 3=p at h;rcases(by omega:p=0\/p=1\/p=2)with rfl|rfl|rfl<;>simp[k8]
 .simp
def Ln(l:List Nat)(k:Nat):2<=(tj l k).length/\(tj l k).length<=3:=by
 unfold tj;split
 .have h:gd l 7 / (1+k) % 3<3:=aM _ (by decide);generalize gd l 7 / (1+k) % 3=p at h;rcases(by omega:p=0\/p=1\/p=2)with rfl|rfl|rfl<;>exact#v[by simp[k8],by simp[k8]]
 .exact#v[by simp,by simp]
def YD(b:x∈V?++W')(a:t∈tlL):x++t∈wpL:=bB _ (c8.2 #v[t,a,aw.2 #v[x,b,O]])
def UF(h:x∈tj l k):x∈wpL:=by
 rcases Os h with rfl|rfl|h
 .exact YD (bJ _ (wC (PF l k))) (M0 l)
 .exact YD (bB _ (wC (PH l k))) (M0 l)
 .exact bJ _ h
def tb:(tlL.all λt=>V?.all λx=>W'.all λy=>decide (x++t≠y++t)&&decide (x++t∉exL)&&decide (y++t∉exL))=γ:=by kernel_rfl
def tc:(tlL.all λt=>(aB 5).all λi=>(aB 5).all λj=>decide (i=j)||(decide (V?.getD i "" ++ t≠V?.getD j "" ++ t)&&decide (W'.getD i "" ++ t≠W'.getD j "" ++ t)))=γ:=by kernel_rfl
def un3(l:List Nat)(k a:Nat):clF l k≠laF l a/\clF l k∉exL/\laF l a∉exL:=by have h:=aK.1 (aK.1 (aK.1 tb _ (M0 l)) _ (wC (z:=("" : Str)) (PF l k))) _ (wC (z:=("" : Str)) (PH l a));simp only[aT,bE]at h;exact#v[h.1.1,h.1.2,h.2]
def aeO(l:List Nat)(k:Nat):(tj l k).Nodup:=by
 obtain⟨c,e,f⟩:=un3 l k k;have d:=YC l k;have a:exF l k≠clF l k:=λz=>e (z▸d);have b:exF l k≠laF l k:=λz=>f (z▸d);unfold tj;split
 .have h:gd l 7 / (1+k) % 3<3:=aM _ (by decide);generalize gd l 7 / (1+k) % 3=p at h;rcases(by omega:p=0\/p=1\/p=2)with rfl|rfl|rfl<;>simp[k8,c,a,b,a.symm,b.symm]
 .simp[c]
def wqL:aE:="room" ::"me" ::"myself" ::wpL
def Ot(h:x∈wqL):yF [.str x]=Z (.X γ):=CW (aK.1 (show (wqL.all λx=>ZX (yF [.str x]))=γ by kernel_rfl) x h)
def CZ{w:aE}(f:1<=w.length)(h:w.length<=4)(b:∀x∈w,x∈wqL)(d:w.Nodup):zT [.a7 (w.map D.str)]=Z (.X γ):=by let a:bh:=[.I (.a7 (w.map D.str))];refine vF (ρ:=a) O ?_;have e:yL zQ zQ ay (c1 wY aa) (cC Cu) a=Z (.X γ,a):=FU O (we O (by show Z (D.int _)=_;rw[af])) O (by omega) (by show (w.length:Int)<=4;omega);refine(xg (yM O (yC (v7 e)))).t (vP ((vN (zv D.str w O (by omega) λx c=>#v[_,_,O,vm O (Ot (b x c)),O])).t (vm O (Oi d (by omega)))))
def Ou(a b:aE)(c:b.length<=100):Av [.a7 (a.map D.str),.a7 (b.map D.str)]=Z (.X (b.all λx=>decide (x∈a))):=by refine vF O (vP (we (wb (xw D.str (λx=>.X (decide (x∈a))) b O (by omega) λx y=>#v[[.I (.str x),.I (.a7 (a.map D.str))],_,O,vp O O (AH δ x a),O])) (KZ b λx=>decide (x∈a))))
def aeP:((aB 25).all λs=>muL.all λm=>(aB 5).all λk=>(aB 5).all λj=>decide (k=j)||decide ((s+k * m) % 25≠(s+j * m) % 25))=γ:=by kernel_rfl
def acA(l:List Nat)(r:k<5)(p:j<5)(h:k≠j):Av [.a7 ((tj l j).map D.str),.a7 ((tj l k).map D.str)]=Z (.X δ):=by
 have t:Mn l k≠Mn l j:=by have q:=aK.1 (aK.1 (aK.1 (aK.1 aeP (gd l 3 % 25) (bx.2 (aM _ (by decide)))) _ (wC (z:=0) (show gd l 4 % 8<muL.length from aM _ (by decide)))) k (bx.2 r)) j (bx.2 p);rw[gE,bE,bE,mW,mW]at q;exact q.resolve_left h
 have e:=UE l k;have d:=UE l j;have tcs:=λ{a b:Nat} (m:a<5) (o:b<5) (hab:a≠b)=>(by
  have q:=aK.1 (aK.1 (aK.1 tc _ (M0 l)) a (bx.2 m)) b (bx.2 o);simp only[gE,aT,bE]at q;exact q.resolve_left hab:V?.getD a "" ++ X' l≠V?.getD b "" ++ X' l/\W'.getD a "" ++ X' l≠W'.getD b "" ++ X' l)
 rw[Ou _ _ (by have:=Ln l k;omega)];have key:∃x∈tj l k,x∉tj l j:=by
  by_cases c:Mn l k % 5=Mn l j % 5
  .have q:=(tcs (a:=Mn l k / 5) (b:=Mn l j / 5) (by omega) (by omega) (by omega)).2;refine#v[_,aeN l k,λz=>?_];rcases Os z with z|z|z
   .exact(un3 l j k).1 z.symm
   .exact q z
   .exact(un3 l k k).2.2 z
  .have q:=(tcs (by omega) (by omega) c).1;refine#v[_,aeM l k,λz=>?_];rcases Os z with z|z|z
   .exact q z
   .exact(un3 l k j).1 z
   .exact(un3 l k k).2.1 z
 obtain⟨x,f,i⟩:=key;congr 2;exact i9.2 λz=>i (bj (aK.1 z x f))
def J9{L:aE}(h:(L.all λx=>decide (x.length<=60))=γ)(a:x∈L):x.length<=60:=bj (aK.1 h x a)
def Ka{a b:Str}(c:a.length<=20000)(d:b.length<=20000):Dy (.str a) (.str b)=Z (.str (a++b)):=by show (if a.length+b.length<=100000 then Z (D.str (a++b))else U)=_;rw[aj (by omega)]
def acB(j:yp d i=Z h)(l:e d=Z (dN n,c))(m:f c=Z (y,a))(o:yp a i=Z b)(q:n<=b.length)(p:b.length<1000):Q? i e f d=Z (.O,putAt a i (k8 b n y)):=by unfold Q?;rw[j];simp only[l,m,o];rw[aj #v[by omega,by rw[gr];exact q,p],gr]
def UG{l:List Nat}(o:l.length=32)(m:k<5):CQ [dl l,dN k]=Z (.a7 ((tj l k).map D.str)):=by
 have d:=J9 (by kernel_rfl) (M0 l);have e:=J9 (by kernel_rfl) (wC (z:=("" : Str)) (PF l k));have j:=J9 (by kernel_rfl) (wC (z:=("" : Str)) (PH l k));have f:c2 vX (c2 wH (c2 b1 aa bH) (c2 yZ ag (c2 b1 (cL (vJ sL)) (c2 vX (c2 b1 aa ck) fX)))) (cC (.int 25)) [.I (dl l),.I (dN k),.I (.a3 (V?.map D.str)),.I (.a3 (W'.map D.str)),.un,.un,.un]=Z (dN (Mn l k),[.I (dl l),.I (dN k),.I (.a3 (V?.map D.str)),.I (.a3 (W'.map D.str)),.un,.un,.un]):=
  vp (vp (vp O O (y8 (i:=3) (by omega))) (vp O (vp O (vp (vp O O (y8 (i:=4) (by omega))) O (md (by decide))) (y8 (l:=muL) (show gd l 4 % 8<8 from aM _ (by decide)))) (yD (.inl (DA (by omega) (by omega))))) O) O (md (by decide))
 let A:Sl:=.I (.a3 (V?.map D.str));let B:Sl:=.I (.a3 (W'.map D.str));refine xT O (vx (Ab O (vx (Ab O (vx (vQ (vv f (vx (vQ (vv (vp O (vp (vp O O (y8 (i:=5) (by omega))) O (md (by decide))) (DW (L:=tlL) (show gd l 5 % 3<3 from aM _ (by decide)))) ?_))))))))));refine vx (s_sn (vv (KO (vn (vp (vp O (vp O O (md (b:=5) (by decide))) (DW (PF l k))) O (Ka (b:=X' l) (by omega) (by omega))) (vn (vp (vp O (vp O O (dv (b:=5) (by decide) (by decide))) (DW (PH l k))) O (Ka (b:=X' l) (by omega) (by omega))) O)) (bX O)) ?_));have a:∀(i:Nat),i<l.length->∀c:Sl,c2 vX (c2 wW (c2 b1 aa (cC (dN i))) (c2 wH ay ag)) bH [.I (dl l),.I (dN k),A,B,.I (dN (Mn l k)),.I (.str (X' l)),c]=Z (dN (gd l i / (1+k) % 3),[.I (dl l),.I (dN k),A,B,.I (dN (Mn l k)),.I (.str (X' l)),c]):=λi h c=>vp (vp (y:=dN (1+k)) (vp O O (y8 h)) O (dv (by omega) (by omega))) O (md (by decide));refine vx (Ll (vv (v7 (vp (a 6 (by omega) _) O (x4 δ _ 0))) #v[λb=>?_,λb=>?_]))
 .have b:gd l 6 / (1+k) % 3=0:=by have:=bj b;omega
  refine EV (vv (acB O (a 7 (by omega) _) (vp O (a 8 (by omega) _) (DW (L:=exL) (show _ % 3<3 from aM _ (by decide)))) O (show _<=2 by omega) (gn (aH 2) (by decide))) (wy (vv O ?_)))
  .show D.a7 _=_;unfold tj;rw[aj b];unfold k8;rw[aV,aU,fw,fj];rfl
 .have b:gd l 6 / (1+k) % 3≠0:=λz=>by have:=of_decide_eq_false b;omega
  refine Ab O (wy (vv O ?_));unfold tj;rw[ak b];rfl
def MS(x:Str):Th:=#v[x,["room"],.room,U]
def Th.nw(t:Th):Str×aE:=(t.n,t.w)
def i0(t:Th):L4.D:=.a7 [.str t.n,.a7 (t.w.map D.str),.str t.k.s,oS t.s]
def kL:List Kd:=[.plain,.box,.lamp,.fixed,.box]
def nA(N:aE)(i:Nat):Str:=N.getD i ""
structure Lo(l:List Nat)(N:aE)(T:List Th):Prop where
 ix:Ord T
 ex:∃(r n:Nat) (y:Str) (P:List Th),1<=r/\r<=3/\n<=5/\T=(N.take r).map MS++#v[nA N 3,["me", "myself"],.you,Z y]::P/\P.map Th.nw=(aB n).map (λk=>(nA N (4+k),tj l k))/\∀t∈P,t.k.pl=γ
theorem Kb:∀(l:aE) (B:List Th),Ord B->Ord (B++l.map MS)
 |[],B,h=>by rw[eh,bZ];exact h
 |x::l,B,h=>by rw[aU,List.append_cons];exact Kb l _ (h.snoc (.inl #v[O,O]))
def Xu{a:Type}{L:List a}(f:a->L4.D){i:Nat}(z:a)(h:i<L.length):b1 (.a3 (L.map f)) (dN i)=Z (f (L.getD i z)):=y9 (by
 rw[bq,aP h,bN,aP h];rfl)
def kdD(k:Kd):L4.D:=.str k.s
def Xv{N:aE}(h:i<N.length):b1 (.a3 (N.map D.str)) (dN i)=Z (.str (nA N i)):=DW h
def Rp{l:List Nat}(hl:l.length=32)(hN:Nms N):∃T j,Lo l N T/\zL [dl l,.a3 (N.map D.str)]=Z (.a3 ((T.drop j++T.take j).map i0)):=by
 suffices h:∃d,zL [dl l,.a3 (N.map D.str)]=Z d/\∃T j,Lo l N T/\d=.a3 ((T.drop j++T.take j).map i0) by obtain⟨_,e,T,j,h,rfl⟩:=h;exact#v[T,j,h,e]
 have l14:=hN.len;let r:=1+gd l 9 % 3;have r3:r<=3:=by have:=aM (gd l 9) (show 0<3 by decide);show 1+_<=3;omega
 have r1:1<=r:=by show 1<=1+_;omega
 let R:=N.take r;have lR:R.length=r:=by show (N.take r).length=r;rw[cA];omega
 let f:=nA N 3;let y:=R.getD (gd l 10 % R.length) "";have yi:gd l 10 % R.length<R.length:=aM _ (by omega);have M:y∈R:=wC yi;let w:Th:=#v[f,["me", "myself"],.you,Z y];let a:=R.map MS++[w];have o1:Ord a:=(by have:=Kb R [] .nil;rw[cB]at this;exact this:Ord (R.map MS)).snoc (.inr (.inl #v[O,MS y,bY M,O,O]));have lP:a.length=r+1:=by show (R.map MS++[w]).length=_;rw[aA,af,lR];rfl
 let A:Sl:=.I (dl l);let B:Sl:=.I (.a3 (N.map D.str));let C:Sl:=.I (.a3 (R.map D.str));refine F0 O (vx (vQ (w_L (w_sx (vv O #v[N.map D.str,O,vv O (w_oA (vv (vp O (vp (vp O O (y8 (i:=9) (by omega))) O (md (by decide))) O) #v[_,O,?_]))])))));rw[show (1+((gd l 9 % 3:Nat):Int))=((r:Nat):Int) from O,Um r (by rw[af];omega),<- fw];refine vx (vQ (vv (vp O O (Xv (i:=3) (by omega))) ?_));refine vx (s_sn (vv (xw D.str (λx=>i0 (MS x)) R O (by omega) λx s=>#v[_,_,O,O,O]) ?_));refine vx (vQ (vv (vp O (vp (vp O O (y8 (i:=10) (by omega))) (we O (by show Z (D.int (c5 D.str R).length)=_;rw[af])) (md (by omega))) (DW yi)) ?_));refine vx (EV (vv (zB O (xO O (bX O)) O (by rw[af];omega)) ?_));refine vx (s_sn (vv (xn O O (by rw[af];show R.length+4<=1000;omega)) ?_));refine s_g (R:=λQ=>Q=[A,B,C,.I (.str f),.ls (a.map i0),.I (.str y),.ls ((R++[f,y,y,f]).map D.str),.un,.un,.un]) ?_ ?_
 .rw[show a.map i0=(R.map λx=>i0 (MS x))++[i0 w] by show (R.map MS++[w]).map i0=_;rw[aV,aX];rfl,aV];rfl
 rintro _ rfl;let J:=λ(i:Nat) (Q:bh)=>∃P c G q,Q=[A,B,C,.I (.str f),.ls (c5 i0 (a++P)),.I (.str y),.ls (c5 D.str c),G,q,.un]/\Ord (a++P)/\P.map Th.nw=(aB i).map (λk=>(nA N (4+k),tj l k))/\(∀t∈P,t.k.pl=γ)/\c≠[]/\c.length<=7+i/\∀x∈c,∃u∈a++P,u.n=x/\u.k.hd=γ;refine vx (Ec (Ro (vv (vp (vp O O (y8 (i:=11) (by omega))) O (md (by decide))) #v[gd l 11 % 6,O,by omega,J,#v[[],R++[f,y,y,f],_,_,by rw[bZ],by rw[bZ];exact o1,O,λt ht=>(by cases ht),by simp,by rw[aA,lR];show r+4<=7;omega,?_],?_,?_])))
 .rw[bZ];have X:∃u∈a,u.n=f/\u.k.hd=γ:=#v[w,bB _ (br.2 O),O,O];have I:∀x∈R,∃u∈a,u.n=x/\u.k.hd=γ:=λx m=>#v[MS x,bJ _ (bY m),O,O];intro x m;rcases aW.1 m with m|m
  .exact I x m
  .simp only[aJ,bU,or_false]at m;rcases m with rfl|rfl|rfl|rfl
   .exact X
   .exact I _ M
   .exact I _ M
   .exact X
 .rintro i _ _ hd ⟨P,c,G,q,rfl,o,eP,pl,H,lH,hH⟩;obtain⟨hi,rfl⟩:=GN hd;have lP':=by have:=bD cO eP;rw[af,af,bK]at this;exact this
  let F:=kL.getD (gd l (12+i) % 5) .plain;have Y:gd l (12+i) % 5<kL.length:=aM _ (by decide);have hkd:F∈kL:=wC Y;have hpl:=(show ∀k∈kL,Kd.pl k=γ by decide) _ hkd;have z:=pM.2 H;let p:=c.getD (gd l (12+i) / 5 % c.length) "";have pi:gd l (12+i) / 5 % c.length<c.length:=aM _ z;have hp:p∈c:=wC pi;obtain⟨u,hu,hun,huk⟩:=hH p hp;let t:Th:=#v[nA N (4+i),tj l i,F,Z p];have o':Ord (a++(P++[t])):=by rw[<-cc];exact o.snoc (.inr (.inr #v[hpl,u,hu,by rw[hun],huk]))
  have S:(P++[t]).map Th.nw=(aB (i+1)).map λk=>(nA N (4+k),tj l k):=by rw[aV,eP,j5,aV];rfl
  have eT:(a++P).map i0++[i0 t]=(a++(P++[t])).map i0:=by rw[<-cc,aV (l₂:=[t])];rfl
  have hH':∀x∈c,∃u∈a++(P++[t]),u.n=x/\u.k.hd=γ:=λx m=>by obtain⟨v,hv,h⟩:=hH x m;exact#v[v,by rw[<-cc];exact bJ _ hv,h]
  have W:∀(s4 s6 q:Sl),c2 b1 aa (c2 wH kK b9) [A,B,C,.I (.str f),s4,.I (.str y),s6,.I (dN i),q,.un]=Z (dN (gd l (12+i)),[A,B,C,.I (.str f),s4,.I (.str y),s6,.I (dN i),q,.un]):=λs s s=>vp (y:=dN (12+i)) O O (y8 (by omega));refine#v[_,O,vx (vQ (vv (vp O (vp (W _ _ _) O (md (by decide))) (Xu kdD .plain Y)) ?_))];refine vx (EV (vv (zB O (xO (vn (vp (y:=dN (4+i)) O O (Xv (by omega))) (vn (vm O (UG hl (by omega))) (vn O (vn (NU (vp O (vp (vp (W _ _ _) O (dv (by decide) (by decide))) (we O (by show Z (D.int (c.map D.str).length)=_;rw[af])) (md z)) (DW pi)) O) O)))) (bX O)) O (by rw[af,aA];omega)) ?_));refine Ll (vv (v7 (vp O O (FQ F .box))) #v[λb=>EV (vv (zB O (vp (y:=dN (4+i)) O O (Xv (by omega))) O (by rw[af];omega)) #v[P++[t],c++[nA N (4+i)],_,_,by rw[<-eT,aV (l₂:=[nA N (4+i)])];rfl,o',S,snoc pl hpl,by simp,by rw[aA];show _+1<=_;omega,snoc hH' #v[t,by simp,O,?_]]),λs=>Ab O #v[P++[t],c,_,_,by rw[<-eT];rfl,o',S,snoc pl hpl,H,by omega,hH']]);show F.hd=γ;rw[bj b];rfl
 .rintro _ ⟨P,c,G,q,rfl,o,eP,pl,H,lH,hH⟩;rw[af,bK]at eP;have lT:(a++P).length=r+1+gd l 11 % 6:=by have:=bD cO eP;rw[af,af,bK]at this;rw[aA,lP,this]
  let j:=gd l 18 % (a++P).length;have hj:j<(a++P).length:=aM _ (by omega);let σ:=[A,B,C,.I (.str f),.I (.a3 (c5 i0 (a++P))),.I (.str y),.ls (c5 D.str c),G,q,.I (dN j)];refine vx (vQ (vv (NU (vp (vp O O (y8 (i:=18) (by omega))) (we O (by show Z (D.int _)=_;rw[af])) (md (by omega))) O) (Rm (vv (b:=σ) (xn (xs:=((a++P).map i0).drop j) (ys:=((a++P).map i0).take j) (ρ1:=σ) (wb ?_) (wb ?_) ?_) ?_))))
  .show Z (fg ((a++P).map i0) (Z (j:Int)) U,_)=_;rw[ack j (by rw[af];omega)];rfl
  .show Z (fg ((a++P).map i0) U (Z (j:Int)),_)=_;rw[Um j (by rw[af];omega)]
  .rw[cW,cA,af];omega
  .rw[<-fj,<- fw,<- aV];exact#v[a++P,j,#v[o,r,gd l 11 % 6,y,P,r1,r3,by omega,by show (R.map MS++[w])++P=_;rw[cc];rfl,eP,pl],O]
def mkS(m:Mk):L4.D:=.a7 [.str m.n,.int m.st,.int m.mo]
def pD(q:Str×Int):L4.D:=.a7 [.str q.1,.int q.2]
def UH{l:List Nat}(z:l.length=32)(hN:Nms N):∃(M:List Mk) (q:Nat),q<=2/\M.map Mk.n=(aB q).map (λk=>nA N (10+k))/\(∀m∈M,m.ok)/\An [dl l,.a3 (N.map D.str)]=Z (.a3 (M.map mkS)):=by
 suffices h:∃d,An [dl l,.a3 (N.map D.str)]=Z d/\∃(M:List Mk) (q:Nat),q<=2/\M.map Mk.n=(aB q).map (λk=>nA N (10+k))/\(∀m∈M,m.ok)/\d=.a3 (M.map mkS) by obtain⟨_,e,M,q,o,p,r,rfl⟩:=h;exact#v[M,q,o,p,r,e]
 have u:=hN.len;let A:Sl:=.I (dl l);let B:Sl:=.I (.a3 (N.map D.str));let J:=λ(i:Nat) (w:bh)=>∃(M:List Mk) (c a:Sl),w=[A,B,.ls (c5 mkS M),c,a]/\M.map Mk.n=(aB i).map (λk=>nA N (10+k))/\∀m∈M,m.ok;refine F0 O (vx (Ab O (vx (Ec (Ro (vv (vp (vp O O (y8 (i:=19) (by omega))) O (md (by decide))) #v[gd l 19 % 3,O,by omega,J,#v[[],_,_,O,O,λm t=>(by cases t)],?_,?_]))))))
 .rintro i _ _ hd ⟨M,c,a,rfl,eM,ok⟩;obtain⟨x,rfl⟩:=GN hd;have lM:=by have:=bD cO eM;rw[af,af,bK]at this;exact this
  let b:=1+gd l (20+i) % 3;let st:=gd l (20+i) / 3 % (b+1);have C:st<b+1:=aM _ (by omega);let m:Mk:=#v[nA N (10+i),(st:Nat),(b:Nat)];have f:∀(j a:Sl),c2 b1 aa (c2 wH (cC (.int 20)) au) [A,B,j,.I (dN i),a]=Z (dN (gd l (20+i)),[A,B,j,.I (dN i),a]):=λs s=>vp (y:=dN (20+i)) O O (y8 (by omega));refine#v[_,O,vx (vQ (vv (vp O (vp (f _ _) O (md (by decide))) O) (EV (vv (zB O (xO (vn (vp (y:=dN (10+i)) O O (Xv (by omega))) (vn (vp (y:=dN (b+1)) (vp (f _ _) O (dv (by decide) (by decide))) O (md (by omega))) O)) (bX O)) O (by rw[af];omega)) #v[M++[m],_,_,by rw[aV];rfl,by rw[aV,eM,j5,aV];rfl,snoc ok #v[?_,?_,?_,?_]]))))]
  .show 1<=((1+gd l (20+i) % 3:Nat):Int);omega
  .show ((1+gd l (20+i) % 3:Nat):Int)<=3;omega
  .show (0:Int)<=(st:Nat);omega
  .show ((st:Nat):Int)<=(b:Nat);omega
 .rintro _ ⟨M,c,a,rfl,eM,ok⟩;rw[af,bK]at eM;exact Rm (vv O #v[M,gd l 19 % 3,by omega,eM,ok,O])
def kt(t:Th)(c:Kd)(h:cV 0 a=Z (i0 t,a)):cT (c2 (b? δ) (c2 b1 aa bA) (cC (.str c.s))) a=Z (decide (t.k=c),a):=v7 (vp (vp h O O) O (FQ t.k c))
def of_eq(T:List Th)(a:T.length<=1000)(hi:cV i ρ=Z (.a3 (T.map i0),ρ))(c:Kd):vy 1 [] (iL (cV i)) (gN 0) (cT (c2 (b? δ) (c2 b1 aa bA) (cC (.str c.s)))) (c2 b1 aa az) ρ=Z (((T.filter λt=>decide (t.k=c)).map Th.n).map D.str,ρ):=by refine(xl i0 (λt=>.str t.n) (λt=>decide (t.k=c)) T (Up hi) a λt y=>#v[[.I (i0 t)],_,O,kt t c O,λy=>#v[_,O,O],λy=>O]).t ?_;rw[aX];rfl
def Lp(T:List Th)(M:List Mk)(hT:T.length<=100)(hM:M.length<=100):zI [.a3 (T.map i0),.a3 (M.map mkS)]=Z (.a3 ((mP T M).map pD)):=by
 have h:=cq (λt:Th=>t.k.mk) T;refine(Bt O ((vt (wN (wb (xl i0 (λt=>pD (t.n,1)) (λt=>t.k.mk) T O (by omega) λt y=>#v[[.I (i0 t)],[.I (i0 t)],O,?_,λy=>#v[_,O,O],λy=>O])))).t (xB (xn O (wb (xw mkS (λm=>pD (m.n,m.mo)) M O (by omega) λm y=>#v[_,_,O,O,O])) (by rw[af,af];omega))))).t ?_
 .obtain⟨n,w,k,s⟩:=t;cases k<;>kernel_rfl
 .unfold mP;rw[aV,aX,aX];rfl
def l?(v:Vb):L4.D:=.a7 [.str v.n,.a7 (v.o.map D.str),.str v.f,oS v.j]
def bM(a b c d e f:Bool):Nat:=a.toNat+2 * b.toNat+4 * c.toNat+8 * d.toNat+16 * e.toNat+32 * f.toNat
def aeQ:∀a b c d e f:Bool,bM a b c d e f<64/\vB (bM a b c d e f) 0=a/\vB (bM a b c d e f) 1=b/\vB (bM a b c d e f) 2=c/\vB (bM a b c d e f) 3=d/\vB (bM a b c d e f) 4=e/\vB (bM a b c d e f) 5=f:=by decide
def mask(p:Nat->Bool):∃m,m<64/\(aB 6).filter p=(aB 6).filter λk=>vB m k:=by
 obtain⟨h,a,b,c,d,e,f⟩:=aeQ (p 0) (p 1) (p 2) (p 3) (p 4) (p 5);refine#v[_,h,qp λk i=>?_];have:=bx.1 i;rcases(by omega:k=0\/k=1\/k=2\/k=3\/k=4\/k=5)with rfl|rfl|rfl|rfl|rfl|rfl
 .exact a.symm
 .exact b.symm
 .exact c.symm
 .exact d.symm
 .exact e.symm
 .exact f.symm
def v0:Vb:=#v["", [],"", U]
def UI{l:List Nat}(f:l.length=32):∃m,m<64/\CS [dl l]=Z (.a3 ((vL m).map l?)):=by
 let p:=λk=>decide (j6 (((gd l 28:Nat):Int) / 2 ^ ((k:Nat):Int).toNat) 1=1);obtain⟨m,b,e⟩:=mask p;refine#v[m,b,?_];let d:bh:=[.I (dl l),.I (.a3 (v6.map l?))];refine(Bt O ((vt O).t ((vt O).t (xB (xl (λk:Nat=>dN k) (λk=>l? (v6.getD k v0)) p (aB 6) (ρ1:=d) (by kernel_rfl) (by rw[bK];decide) λk a=>#v[[.I (dN k),.I (.a3 (v6.map l?)),.I (dl l)],_,O,v7 (vp (vp (x:=.int (((gd l 28:Nat):Int) / 2 ^ ((k:Nat):Int).toNat)) (vp (vp O O (y8 (i:=28) (by omega))) O ?_) O O) O (x4 δ _ 1)),λy=>#v[_,vp O O (Xu l? v0 (show k<6 from bx.1 a)),O],λy=>O]))))).t ?_
 .show (if decide (0<=((k:Nat):Int))=γ then Z (D.int _)else U)=_;rw[aj (aY (by omega))]
 .unfold vL;rw[e,aX];rfl
def aeR(a b c d:Str):b? δ (.a7 [.str a,.str b]) (.a7 [.str c,.str d])=Z (.X ((a==c)&&((b==d)&&γ))):=by kernel_rfl
def drL(T:List Th)(M:List Mk):List (Option Str):=U::U::(mP T M).map λq=>Z q.1
def Xw{l:List Nat}(hl:l.length=32)(T:List Th)(M:List Mk)(hT:T.length<=13)(hM:M.length<=4)(hr:gk T≠[]):∃W:List Wy,W.length<=4/\(∀x∈W,MW T M x)/\(W.map λw=>[w.r,w.w]).Nodup/\Bp [dl l,.a3 ((gk T).map D.str),.a3 ((mP T M).map pD)]=Z (.a3 (W.map m5)):=by
 suffices h:∃d,Bp [dl l,.a3 ((gk T).map D.str),.a3 ((mP T M).map pD)]=Z d/\∃W:List Wy,W.length<=4/\(∀x∈W,MW T M x)/\(W.map λw=>[w.r,w.w]).Nodup/\d=.a3 (W.map m5) by obtain⟨_,e,W,o,h2,h3,rfl⟩:=h;exact#v[W,o,h2,h3,e]
 let R:=gk T;have f:=pM.2 hr;have lm:(mP T M).length<=20:=by unfold mP;rw[aA,af,af];have:=cq (λt:Th=>t.k.mk) T;omega
 let A:Sl:=.I (dl l);let B:Sl:=.I (.a3 (R.map D.str));let C:Sl:=.I (.a3 ((mP T M).map pD));let E:Sl:=.I (.a3 (wwL.map D.str));let J:=λ(i:Nat) (b:bh)=>∃(W:List Wy) (G H I N P a:Sl),b=[A,B,C,E,.ls (c5 m5 W),G,H,I,N,P,a]/\W.length<=i/\(∀x∈W,MW T M x)/\(W.map λw=>[w.r,w.w]).Nodup;refine F0 O (vx (Ab O (vx (Ab O (vx (Ec (Ro (vv (vp (vp O O (y8 (i:=22) (by omega))) O (md (by decide))) #v[gd l 22 % 5,O,by omega,J,#v[[],_,_,_,_,_,_,O,aH _,λw F=>(by cases F),.nil],?_,?_]))))))))
 .rintro i _ _ hd ⟨W,G,H,I,N,P,a,rfl,lW,ok,u⟩;obtain⟨hi,rfl⟩:=GN hd;let z:=gd l (23+i);let r:=R.getD (z % R.length) "";let x:=wwL.getD (z / 3 % 5) "";let g:=R.getD (z / 15 % R.length) "";let X:=z / 45 % (2+(mP T M).length);let m:=(drL T M).getD X U;have ld:(drL T M).length=2+(mP T M).length:=by unfold drL;rw[aS,aS,af];omega
  have hmi:X<(drL T M).length:=by rw[ld];exact aM _ (by omega)
  have j:m∈drL T M:=wC hmi;have lenR:∀b:bh,cV 1 b=Z (.a3 (R.map D.str),b)->c1 wY ag b=Z (dN R.length,b):=λb h=>we h (by show Z (D.int (R.map D.str).length)=_;rw[af]);refine#v[_,O,vx (vQ (vv (vp (y:=dN (23+i)) O O (y8 (by omega))) ?_))];refine vx (Lm (vv (xO (vn (vp O (vp O (lenR _ O) (md f)) (DW (aM _ f))) (vn (vp O (vp (vp O O (dv (by decide) (by decide))) O (md (by decide))) (DW (show _ % 5<5 from aM _ (by decide)))) (vn (vp O (vp (vp O O (dv (by decide) (by decide))) (lenR _ O) (md f)) (DW (aM _ f))) O))) (bX O)) #v[_,O,?_]));let Y:=[A,B,C,E,.ls (W.map m5),.I (dN i),.I (dN z),.I (.str r),.I (.str x),.I (.str g),a];refine s_g O ?_;rintro _ rfl;have em:cL (xi (cL (vJ iQ)) (cL (vy 1 [] (iL ai) (gN 0) wG (c2 b1 aa az)))) Y=Z (.a3 ((drL T M).map oS),Y):=(wb (xn O (wb (xw pD (λq=>.str q.1) (mP T M) O (by omega) λq s=>#v[_,_,O,O,O])) (by rw[af];show 2+_<=1000;omega))).t (by unfold drL;rw[aU,aU,aX];rfl);refine vx (vQ (vv (vp em (vp (y:=dN (2+(mP T M).length)) (vp O O (dv (by decide) (by decide))) (vp O (we O (by show Z (D.int ((mP T M).map pD).length)=_;rw[af])) O) (md (by omega))) (Xu oS U hmi)) ?_));let p:Wy->Bool:=λw=>(w.r==r)&&((w.w==x)&&γ);have ec:GY (cT (c2 tm (cL (vy 1 [7,8] (iL aG) (gN 0) (cT (c2 (b? δ) (K4 aa U (Z 2)) (vM cu))) aa)) (cL (vJ vO)))) [A,B,C,E,.ls (W.map m5),.I (dN i),.I (dN z),.I (.str r),.I (.str x),.I (.str g),.I (oS m)]=Z ((W.filter p).isEmpty,[A,B,C,E,.ls (W.map m5),.I (dN i),.I (dN z),.I (.str r),.I (.str x),.I (.str g),.I (oS m)]):=by refine O3 (v7 (vp (wb (xl m5 m5 p W O (by omega) λw s=>#v[[.I (m5 w),.I (.str r),.I (.str x)],_,O,v7 (vp O O (aeR w.r w.w r x)),λs=>#v[_,O,O],λs=>O])) O ?_));cases W.filter p<;>rfl
  refine Ll (vv ec #v[λc=>EV (vv (zB O O O (by rw[af];omega)) #v[W++[#v[r,x,g,m]],_,_,_,_,_,_,by rw[aV];rfl,by rw[aA];exact jY lW,snoc ok #v[wC (aM _ f),wC (show _ % 5<5 from aM _ (by decide)),wC (aM _ f),λy e=>?_],?_]),λs=>Ab O #v[W,_,_,_,_,_,_,O,by omega,ok,u]])
  .have j:Z y∈drL T M:=by rw[<-e];exact j
   have j:Z y∈(mP T M).map λq=>Z q.1:=by simpa [drL]using j
   obtain⟨q,hq,e⟩:=aw.1 j;cases e;rw[<-Li];exact bY hq
  .rw[aV,cn];refine#v[u,by simp,λy Q z' S e=>?_];rw[aU,eh,br]at S;rw[e,S]at Q;obtain⟨w,F,e2⟩:=aw.1 Q;have o:=by simpa using e2
   have:w∈W.filter p:=aO.2 #v[F,by show ((w.r==r)&&((w.w==x)&&γ))=γ;rw[o.1,o.2];simp];rw[List.isEmpty_iff.1 c]at this;cases this
 .rintro _ ⟨W,G,H,I,N,P,a,rfl,lW,ok,u⟩;rw[af,bK]at lW;exact Rm (vv O #v[W,by omega,ok,u,O])
def Kc{a:Type}(l:List a)(j:Nat):(l.drop j++l.take j).Perm l:=(List.perm_append_comm).t (by rw[ly])
def UJ{T:List Th}(p:T.Perm T0)(h:MV T0 t):FV T t:=by
 have i:∀u∈T0,u.k=.room->u.n∈gk T:=λu a f=>bY (aO.2 #v[p.mem_iff.2 a,aY f]);have e:∀u∈T0,u.k.hd=γ->u.n∈nq T:=λu a f=>bY (aO.2 #v[p.mem_iff.2 a,f]);obtain⟨n,w,k,s⟩:=t;rcases h with ⟨b,c⟩|⟨b,u,a,c,d⟩|⟨b,u,a,c,d⟩
 .simp only at b c;subst b c;exact trivial
 .simp only at b c;subst b c;exact i u a d
 .simp only at b c;subst c;cases k with
  |room=>cases b
  |you=>cases b
  |plain=>exact e u a d
  |fixed=>exact e u a d
  |box=>exact e u a d
  |lamp=>exact e u a d
def acC{P:Kd->Prop}(a:P .room)(b:P .you)(c:P .plain)(d:P .fixed)(e:P .box)(f:P .lamp):∀k,P k:=λk=>by cases k<;>assumption
theorem seg{N:aE}(a:Nat):∀n,a+n<=N.length->(aB n).map (λk=>nA N (a+k))=(N.drop a).take n
 |0,_=>by simp
 |n+1,h=>by rw[j5,aV,seg a n (by omega),gu,eL,aP (by omega)];unfold nA;rw[aU,eh,bN,aP (by omega)];rfl
def big{N:aE}(h:N.length=14)(f:r<=3)(c:n<=5)(d:q<=2):((N.take r++nA N 3::(aB n).map λk=>nA N (4+k))++(aB q).map λk=>nA N (10+k)).Sublist N:=by
 rw[seg 4 n (by omega),seg 10 q (by omega),cc];have e:N.take 3++(nA N 3::((N.drop 4).take 6++N.drop 10))=N:=by
  have a:=by have:=ly 6 (N.drop 4);rw[List.drop_drop]at this;exact this
  rw[a];have b:N.drop 3=nA N 3::N.drop 4:=by rw[ic (by omega:3<N.length)];unfold nA;rw[bN,aP (by omega)];rfl
  rw[<-b,ly]
 have s:(N.take r++(nA N 3::((N.drop 4).take n++(N.drop 10).take q))).Sublist (N.take 3++(nA N 3::((N.drop 4).take 6++N.drop 10))):=
  (oH (by omega)).append (.cons₂ _ ((oH (by omega)).append (jO _ _)))
 rw[e]at s;exact s
def PJ{M:List Mk}{Q:aE}{W:List Wy}(hN:Nms N)(d:Lo l N T0)(j:Nat)(F:q<=2)(eM:M.map Mk.n=(aB q).map λk=>nA N (10+k))(mo:∀m∈M,m.ok)(hd:Q.Sublist (gk (T0.drop j++T0.take j)))(w4:W.length<=4)(wo:∀w∈W,MW (T0.drop j++T0.take j) M w)(wn:(W.map λw=>[w.r,w.w]).Nodup):
  ea (T0.drop j++T0.take j) M Q W/\(T0.drop j++T0.take j).length<=9/\M.length<=2/\(gk (T0.drop j++T0.take j)).length<=3:=by
 have p:=Kc T0 j;obtain⟨r,n,y,P,r1,r3,hn,B,eP,hP⟩:=d.ex;have H:=hN.len;let R:=(N.take r).map MS;let I:Th:=#v[nA N 3,["me", "myself"],.you,Z y];have lR:=by show ((N.take r).map MS).length=r;rw[af,cA];omega
 have lP:=by have:=bD cO eP;rw[af,af,bK]at this;exact this
 have lM:=by have:=bD cO eM;rw[af,af,bK]at this;exact this
 have A:∀t∈R,t.k=.room:=λt h=>by obtain⟨x,_,rfl⟩:=aw.1 h;rfl
 have v?:∀p:Th->Bool,T0.filter p=R.filter p++((if p I=γ then [I]else [])++P.filter p):=λp=>by rw[B,mm,gx];split<;>rfl
 have all_:∀(p:Kd->Bool) (L:List Th),(∀t∈L,p t.k=γ)->L.filter (λt=>p t.k)=L:=λp L h=>pL.2 h;have non_:∀(p:Kd->Bool) (L:List Th),(∀t∈L,p t.k=δ)->L.filter (λt=>p t.k)=[]:=λp L h=>iZ.2 λt a z=>by rw[h t a]at z;cases z
 have plk:∀k:Kd,k.pl=γ->decide (k=.room)=δ/\decide (k=.you)=δ:=acC (λz=>by cases z) (λz=>by cases z) (λs=>#v[O,O]) (λs=>#v[O,O]) (λs=>#v[O,O]) (λs=>#v[O,O]);have fr:T0.filter (λt=>decide (t.k=.room))=R:=by rw[v?,all_ (λk=>decide (k=.room)) R λt h=>by rw[A t h];rfl,non_ (λk=>decide (k=.room)) P λt h=>(plk t.k (hP t h)).1];exact bZ R
 have fy:T0.filter (λt=>decide (t.k=.you))=[I]:=by rw[v?,non_ (λk=>decide (k=.you)) R λt h=>by rw[A t h];rfl,non_ (λk=>decide (k=.you)) P λt h=>(plk t.k (hP t h)).2];rfl
 have S:T0.filter (λt=>t.k.pl)=P:=by rw[v?,non_ Kd.pl R λt h=>by rw[A t h];rfl,all_ Kd.pl P hP];rfl
 have eN:T0.map Th.n=N.take r++nA N 3::(aB n).map λk=>nA N (4+k):=by
  rw[B,aV,aU];have c:((N.take r).map MS).map Th.n=N.take r:=by rw[aX];exact gU _
  have f:P.map Th.n=(aB n).map λk=>nA N (4+k):=by have:=bD (c5 dA) eP;rw[aX,aX]at this;exact this
  rw[c,f]
 have sub:(T0.map Th.n++M.map Mk.n).Sublist N:=by rw[eN,eM];exact big H r3 hn F
 have pN:((T0.drop j++T0.take j).map Th.n++M.map Mk.n).Perm (T0.map Th.n++M.map Mk.n):=(p.map _).append_right _;have o:=(cn.1 (hN.nd.sublist sub)).1;have wP:∀t∈P,∃k,k<5/\t.n=nA N (4+k)/\t.w=tj l k:=λt h=>by have C:t.nw∈P.map Th.nw:=bY h;rw[eP]at C;obtain⟨k,E,e⟩:=aw.1 C;have T:=e;injection T with c f;exact#v[k,by have:=bx.1 E;omega,c.symm,f.symm]
 have wT:=λt a E=>by
  have:t∈T0.filter (λt=>t.k.pl):=aO.2 #v[p.mem_iff.1 a,E]
  rwa [S]at this
 have lT:(T0.drop j++T0.take j).length=r+1+n:=by rw[p.length_eq,B,aA,aS,lP];show R.length+_=_;rw[lR];omega
 have lr:(gk (T0.drop j++T0.take j)).length=r:=by unfold gk;rw[af,(p.filter _).length_eq,fr,lR]
 have y1:((T0.drop j++T0.take j).filter λt=>decide (t.k=.you)).map Th.n=[nA N 3]:=by have:=p.filter λt=>decide (t.k=.you);rw[fy]at this;rw[pO.1 this];rfl
 refine#v[?_,by omega,by omega,by omega];constructor
 .omega
 .rw[(p.filter _).length_eq,fr,lR];exact r1
 .rw[(p.filter _).length_eq,fr,lR];omega
 .unfold yN;rw[y1];rfl
 .rw[(p.filter _).length_eq,S,lP];omega
 .omega
 .exact mo
 .exact λx b=>hN.nm x (sub.subset (pN.mem_iff.1 b))
 .exact pN.nodup_iff.2 (hN.nd.sublist sub)
 .exact λt a=>UJ p (d.ix.all t (p.mem_iff.1 a))
 .obtain⟨A,h⟩:=d.ix.rank o;refine#v[A,λt a=>?_];obtain⟨C,h2⟩:=h t (p.mem_iff.1 a);refine#v[by rw[p.length_eq];exact C,λq F=>?_];obtain⟨h3,u,G,e⟩:=h2 q F;exact#v[h3,u,p.mem_iff.2 G,e]
 .intro t a;have h:=p.mem_iff.1 a;rw[B]at h;rcases aW.1 h with h|h
  .obtain⟨x,b,rfl⟩:=aw.1 h;exact CZ (w:=["room"]) (by decide) (by decide) (by decide +kernel) (by decide)
  .rcases aJ.1 h with rfl|h
   .exact CZ (w:=["me", "myself"]) (by decide) (by decide) (by decide +kernel) (by decide +kernel)
   .obtain⟨k,_,_,e⟩:=wP t h;rw[e];have:=Ln l k;exact CZ (by omega) (by omega) (λx b=>bb _ (bb _ (bb _ (UF b)))) (aeO l k)
 .intro t a u G J uk hne;obtain⟨k,k5,c,f⟩:=wP t (wT t a J);obtain⟨i,i5,X,Y⟩:=wP u (wT u G uk);unfold Pt;rw[f,Y];exact acA l k5 i5 λz=>hne (by rw[c,X,z])
 .intro t a J;obtain⟨k,_,_,e⟩:=wP t (wT t a J);rw[e];exact#v[(Ln l k).2,λx b=>UF b]
 .have:=hd.length_le;omega
 .refine hd.nodup ?_;exact(lY.map _).nodup ((p.map _).nodup_iff.2 o)
 .exact λx b=>hd.subset b
 .omega
 .exact wo
 .exact wn
def cd(x:Str):List Nat:=x.cps.toList
def BK(x y:Str):cd (x++y)=cd x++cd y:=by show (x.cps++y.cps).toList=_;exact Array.toList_append
def UK(h:cd x=cd y):x=y:=uy h
def yK(x:Str):x.length=(cd x).length:=rfl
def fl(l:aE):List Nat:=(l.map λp=>32::cd p).flatten
abbrev jn(l:aE):Str:=Txt.join " " l
theorem Ca:∀l:aE,BU (l.map D.str)=Z l
 |[]=>rfl
 |x::l=>by rw[aU];unfold BU;rw[Ca l]
inductive Tst where
 |at (a b:Str)|has (a:Str)|seen (a:Str)|mark (a:Str) (v:Int)|kind (a k:Str)|word (w:Str)|lit|no (s:Tst)|bo (s t:Tst)
def B?:Tst->L4.D
 |.at a b=>.a7 [.str "at", .str a,.str b]
 |.has a=>.a7 [.str "has", .str a]
 |.seen a=>.a7 [.str "seen", .str a]
 |.mark a v=>.a7 [.str "marked", .str a,.int v]
 |.kind a k=>.a7 [.str "kind", .str a,.str k]
 |.word w=>.a7 [.str "word", .str w]
 |.lit=>.a7 [.str "lit"]
 |.no s=>.a7 [.str "not", B? s]
 |.bo s t=>.a7 [.str "both", B? s,B? t]
def Hj:Tst->L4.D
 |.at a b=>atO a b
 |.has a=>hsO a
 |.seen a=>seO a
 |.mark a v=>mkO a v
 |.kind a k=>kiO a k
 |.word w=>woO w
 |.lit=>liO
 |.no s=>noO (Hj s)
 |.bo s t=>boO (Hj s) (Hj t)
def dp:Tst->Nat
 |.no s=>dp s+1
 |.bo s t=>max (dp s) (dp t)+1
 |_=>0
theorem F1:∀(s:Tst) (n:Nat),dp s<n->x8 n [B? s]=Z (Hj s)
 |s,0,h=>ar h (qR _)
 |.at _ _,n+1,_=>by kernel_rfl
 |.has _,n+1,_=>by kernel_rfl
 |.seen _,n+1,_=>by kernel_rfl
 |.mark _ _,n+1,_=>by kernel_rfl
 |.kind _ _,n+1,_=>by kernel_rfl
 |.word _,n+1,_=>by kernel_rfl
 |.lit,n+1,_=>by kernel_rfl
 |.no s,n+1,h=>by have c:=F1 s n (by simp only[dp]at h;omega);exact vF O ((xg O).t ((xg O).t ((xg O).t ((xg O).t ((xg O).t ((xg O).t (vZ ((wt O).t (vP (Fo (vn (vm O c) O) O))))))))))
 |.bo s t,n+1,h=>by have a:=F1 s n (by simp only[dp]at h;omega);have b:=F1 t n (by simp only[dp]at h;omega);exact vF O ((xg O).t ((xg O).t ((xg O).t ((xg O).t ((xg O).t ((xg O).t ((xg O).t (vZ ((wt O).t (vP (Fo (vn (vm O a) (vn (vm O b) O)) O)))))))))))
inductive De where
 |mv (a b:Str)|pu (a:Str) (v:Int)
def deW:De->List L4.D
 |.mv a b=>[.str "move", .str a,.str b]
 |.pu a v=>[.str "put", .str a,.int v]
def N'(d:De):L4.D:=.a7 (deW d)
def J?:De->L4.D
 |.mv a b=>T1 a b
 |.pu a v=>puO a v
def Xx(d:De):DS [N' d]=Z (J? d):=by cases d<;>kernel_rfl
def Kx(h:xY b=Z l)(hd:xm l<=19):b? γ (.a3 b) (.a3 [])=Z (.X (!decide (b=[]))):=by
 cases b with
 |nil=>rfl
 |cons x c=>
  rw[aZ (List.cons_ne_nil x c)];obtain⟨y,a,rfl⟩:∃y a,l=y::a:=by
   unfold xY at h;split at h
   .split at h
    .cases h;exact#v[_,_,O]
    .cases h
   .cases h
  have d:Gh γ (.a3 (x::c)) (.a3 [])=U:=rfl;have e:i? (.a3 (x::c))=Z (.a3 (y::a)):=by unfold i?;rw[h]
  have f:fc (.a3 (y::a))<=20:=by rw[fc];omega
  unfold b?;rw[d];unfold KL;rw[e,show i? (.a3 [])=Z (.a3 []) from O];show (if Sk (.a3 (y::a)) (.a3 [])&&decide (fc (.a3 (y::a))<=20)&&decide (fc (.a3 [])<=20)then Z (D.X (!pk (.a3 (y::a)) (.a3 [])))else U)=_;rw[aY f];rfl
theorem Jf:∀l:List (Str×Int),∃m,xY (l.map pD)=Z m/\xm m<=1
 |[]=>#v[[],O,by decide]
 |x::l=>by obtain⟨m,a,b⟩:=Jf l;refine#v[.a7 [.str x.1,.int x.2]::m,by rw[aU];unfold xY;rw[a];rfl,?_];exact sy.2 #v[aH 1,b]
def tx(f:Str):aE:=if f="one" then ["it"]else if f="two" then ["it", "other", "it"]else []
def j?(T:List Th):aE:=(T.filter λt=>!decide (t.k=.room)).map Th.n
def x1(T:List Th):aE:=gk T++[yN T,"here"]++(T.filter λt=>decide (t.k=.box)).map Th.n
def fm4{P:Str->Prop}(b:P "one")(c:P "two")(d:P "alone")(e:P "way"):∀f∈k3,P f:=λf a=>by simp only[k3,aJ,bU,or_false]at a;rcases a with rfl|rfl|rfl|rfl<;>assumption
section
def YE(b:f∈k3):∀x∈tx f,By f x:=by
 refine fm4 (P:=λf=>∀x∈tx f,By f x) ?_ ?_ ?_ ?_ f b
 .intro x a;have:=by simpa [tx]using a
  subst this;exact .inl #v[O,by decide]
 .intro x a;have:x∈(["it", "other", "it"]:aE):=a;simp only[aJ,bU,or_false]at this;rcases this with rfl|rfl|rfl
  .exact .inl #v[O,by decide]
  .exact .inr #v[O,O]
  .exact .inl #v[O,by decide]
 .intro x a;have:x∈([]:aE):=a;cases this
 .intro x a;have:x∈([]:aE):=a;cases this
def aeS(a:f∈k3)(h:x∈j? T++tx f):Tm f (T.map Th.n) x:=by
 rcases aW.1 h with h|h
 .obtain⟨t,b,rfl⟩:=aw.1 h;exact .inl (bY (aO.1 b).1)
 .exact .inr (.inr (YE a x h))
def y_T(g:ea T M b W):∃t∈T,t.n=yN T/\t.k=.you:=by
 have h:yN T∈(T.filter λt=>decide (t.k=.you)).map Th.n:=by rw[g.y1];exact br.2 O
 obtain⟨t,a,e⟩:=aw.1 h;exact#v[t,(aO.1 a).1,e,bj (aO.1 a).2]
def YF(g:ea T M d W)(h:x∈x1 T):Tm f (nq T) x:=by
 have b:∀t∈T,t.k.hd=γ->t.n∈nq T:=λt a c=>bY (aO.2 #v[a,c]);rcases aW.1 h with h|h
 .rcases aW.1 h with h|h
  .obtain⟨t,a,rfl⟩:=aw.1 h;exact .inl (b t (aO.1 a).1 (by rw[bj (aO.1 a).2];rfl))
  .simp only[aJ,bU,or_false]at h;rcases h with rfl|rfl
   .obtain⟨t,a,e,k⟩:=y_T g;rw[<-e];exact .inl (b t a (by rw[k];rfl))
   .exact .inr (.inl O)
 .obtain⟨t,a,rfl⟩:=aw.1 h;exact .inl (b t (aO.1 a).1 (by rw[bj (aO.1 a).2];rfl))
def mP_b(g:ea T M c W)(h:q∈mP T M):0<=q.2/\q.2<=3:=by
 rcases aW.1 h with h|h
 .obtain⟨t,_,rfl⟩:=aw.1 h;exact#v[(by show (0:Int)<=1;decide),(by show (1:Int)<=3;decide)]
 .obtain⟨m,b,rfl⟩:=aw.1 h;obtain⟨d,a,_,_⟩:=g.mo m b;exact#v[by show 0<=m.mo;omega,a]
inductive Ts(T:List Th) (M:List Mk) (f:Str):Nat->L4.D->Prop
 |ats {n:Nat} {a b:Str} (ha:Tm f (T.map Th.n) a) (hb:Tm f (nq T) b):Ts T M f n (atO a b)
 |has {n:Nat} {a:Str} (ha:Tm f (T.map Th.n) a):Ts T M f n (hsO a)
 |seen {n:Nat} {a:Str} (ha:Tm f (T.map Th.n) a):Ts T M f n (seO a)
 |mark {n:Nat} {q:Str×Int} {v:Int} (h:Mt T M f q):Ts T M f n (mkO q.1 v)
 |kind {n:Nat} {a k:Str} (ha:Tm f (T.map Th.n) a):Ts T M f n (kiO a k)
 |word {n:Nat} {x:Str} (hf:f="way"):Ts T M f n (woO x)
 |lit {n:Nat}:Ts T M f n liO
 |no {n:Nat} {d:L4.D} (h:Ts T M f n d):Ts T M f (n+1) (noO d)
 |bo {n:Nat} {d e:L4.D} (h:Ts T M f n d) (h':Ts T M f n e):Ts T M f (n+1) (boO d e)
def Mr(T:List Th)(M:List Mk)(m:Str->Int):Prop:=∀q∈mP T M,0<=m q.1/\m q.1<=q.2
inductive Ds(T:List Th) (M:List Mk) (f:Str):L4.D->Prop
 |put {q:Str×Int} {v:Int} (h:Mt T M f q) (h0:0<=v):Ds T M f (puO q.1 v)
 |move {a b:Str} (ha:Mv T f a) (hb:Tm f (nq T) b) (hm:a=yN T->∃t∈T,t.n=b/\t.k=.room):Ds T M f (T1 a b)
def TOk(T:List Th)(M:List Mk)(w:L4.D)(f:Str)(n:Nat)(d:L4.D):Prop:=∃s,d=B? s/\Tk w f n (Hj s)/\dp s<=n/\Ts T M f n (Hj s)
def YG(b:f∈k3)(h:cV 1 a=Z (.str f,a)):DC (G6 [("one", (cL (vJ f7))),("two", (cL (vJ jv)))]) ag (cL (vJ vO)) a=Z (.a3 ((tx f).map D.str),a):=by
 have key:∀f∈k3,∀a:bh,cV 1 a=Z (.str f,a)->DC (G6 [("one", (cL (vJ f7))),("two", (cL (vJ jv)))]) ag (cL (vJ vO)) a=Z (.a3 ((tx f).map D.str),a):=by refine fm4 ?_ ?_ ?_ ?_<;>intro a h<;>(unfold DC;rw[show G6 [("one", (cL (vJ f7))),("two", (cL (vJ jv)))] a=Z (.Y [Sum.inr "one", Sum.inr "two"] [.a3 [.str "it"],.a3 [.str "it", .str "other", .str "it"]],a) from by kernel_rfl];simp only[h];kernel_rfl)
 exact key f b a h
end
def BL(f:c ρ=Z (γ,a))(h:e a=Z (b,d)):xE c e ρ=Z (b,d):=by unfold xE;rw[f];exact h
def Ke{a:Type}{L:List a}(F:a->L4.D){i:Nat}{ρ:bh}(h:cV i ρ=Z (.a3 (L.map F),ρ)):c1 wY (cV i) ρ=Z (dN L.length,ρ):=we h (by show Z (D.int (L.map F).length)=_;rw[af])
def Jg{a:Type}{L:List a}(F:a->L4.D)(y:a){i z:Nat}{e:FE}{ρ:bh}(b:0<L.length)(h:cV i ρ=Z (.a3 (L.map F),ρ))(c:e ρ=Z (dN z,ρ)):c2 b1 (cV i) (c2 vX e (c1 wY (cV i))) ρ=Z (F (L.getD (z % L.length) y),ρ):=
 vp h (vp c (Ke F h) (md b)) (Xu F y (aM _ b))
def pk_c{L:aE}{i:Nat}(a:0<k)(d:L.length=k)(h:c ρ=Z (.a3 (L.map D.str),ρ))(b:e ρ=Z (dN z,ρ)):c2 b1 c (c2 vX e (cC (.int k))) ρ=Z (.str (L.getD (z % k) ""),ρ):=
 vp h (vp b O (md a)) (DW (by rw[d];exact aM _ a))
def EW{c k:Nat}{a:bh}(h:cV 0 a=Z (dN c,a))(d:0<k)(b:k<1073741824):c2 wW aa (cC (.int k)) a=Z (dN (c / k),a):=vp h O (dv d b)
section
variable{V:List Vb}
def YH(g:ea T M b W):0<(j? T).length:=by obtain⟨t,a,_,k⟩:=y_T g;exact ik (bY (aO.2 #v[a,by rw[k];rfl]))
def YI(g:ea T M a W):(j? T).length<=20:=by unfold j?;rw[af];have:=cq (λt:Th=>!decide (t.k=.room)) T;have:=g.len;omega
def YJ:(tx f).length<=3:=by
 unfold tx;split
 .decide
 .split<;>decide
def PK:0<(x1 T).length:=by unfold x1;rw[aA,aA];show 0<_+2+_;omega
def pm{q:Str×Int}(h:0<=q.2/\q.2<=3):∃v:Int,vX (dN (c / k)) (.int (q.2+1))=Z (.int v)/\0<=v/\v<=q.2:=
 #v[_,Ci (by omega),jg _ (by omega),by have:=mj ((c / k:Nat):Int) (show 0<q.2+1 by omega);omega]
def Kg(g:ea T M B W)(l:f∈k3)(n c:Nat)(o:n=0\/∃m,n=m+1/\∀c,∃d,xk (m+1) [dN c,.str f,.a3 ((j? T).map D.str),.a3 ((x1 T).map D.str),.a3 ((mP T M).map pD),dN (m+1)]=Z d/\TOk T M (fx T M B W V) f m d):∃d,xk (n+1) [dN c,.str f,.a3 ((j? T).map D.str),.a3 ((x1 T).map D.str),.a3 ((mP T M).map pD),dN (n+1)]=Z d/\TOk T M (fx T M B W V) f n d:=by
 let X:=j? T++tx f;have lx:X.length=(j? T).length+(tx f).length:=aA;have x0:0<X.length:=by rw[lx];have:=YH g;omega
 let a:=X.getD (c / 9 % X.length) "";have hat:Tm f (T.map Th.n) a:=aeS l (wC (aM _ x0));let p:=(x1 T).getD (c / 90 % (x1 T).length) "";have hpt:Tm f (nq T) p:=YF g (wC (aM _ PK));let A:Sl:=.I (dN c);let F:Sl:=.I (.str f);let u:Sl:=.I (.a3 ((j? T).map D.str));let P:Sl:=.I (.a3 ((x1 T).map D.str));let K:Sl:=.I (.a3 ((mP T M).map pD));let Y:Sl:=.I (.a3 (X.map D.str));refine F0 O ?_;refine vx (vQ (vv (b:=[A,F,u,P,K,.I (dN (n+1)),.un,.un,.un,.un,.un,.un]) ((wb (xn O (YG l O) (by rw[af,af];have:=YI g;have:=YJ (f:=f);omega))).t (by rw[<-aV];rfl)) ?_));refine vx (vQ (vv (Jg D.str "" x0 O (EW O (by decide) (by decide))) ?_));refine vx (vQ (vv (vp O O (md (by decide))) ?_));obtain⟨r,Q⟩:∃r,c % 9=r:=#v[_,O];have r9:r<9:=by rw[<-Q];exact aM _ (by decide)
 rw[Q];refine s_g O ?_;rintro _ rfl;have lit:∀r:Nat,Ws (vw (vM (a1 (cS "lit"))) [A,F,u,P,K,.I (dN (n+1)),Y,.I (.str a),.I (dN r),.un,.un,.un]) (λ_=>False) λd _=>TOk T M (fx T M B W V) f n d:=λr=>wy (vv O #v[.lit,O,acs,bT _,.lit]);have gt:∀(m r:Nat),n=m+1->cT (c2 Gg bc ay) [A,F,u,P,K,.I (dN (n+1)),Y,.I (.str a),.I (dN r),.un,.un,.un]=Z (γ,[A,F,u,P,K,.I (dN (n+1)),Y,.I (.str a),.I (dN r),.un,.un,.un]):=λm r j=>by show Z (decide ((1:Int)<((n+1:Nat):Int)),_)=_;rw[aY (by omega)]
 have S:∀(m:Nat) (t:bh),n=m+1->cV 5 t=Z (dN (n+1),t)->c2 Eh bc ay t=Z (dN (m+1),t):=λm t j h=>(vp h O O).t (by
  show Z (D.int (((n+1:Nat):Int) - 1),t)=_;rw[show ((n+1:Nat):Int) - 1=((m+1:Nat):Int) by omega])
 have cases9:=(by decide:∀r<9,r=0\/r=1\/r=2\/r=3\/r=4\/r=5\/r=6\/r=7\/r=8) r r9;clear Q r9;rcases cases9 with rfl|rfl|rfl|rfl|rfl|rfl|rfl|rfl|rfl
 .refine m? O (wy (vv (xO (vn O (vn O (vn (Jg D.str "" PK O (EW O (by decide) (by decide))) O))) (bX O)) ?_));exact#v[.at a p,O,aez g l hat hpt,bT _,.ats hat hpt]
 .exact e4 O (m? O (wy (vv O #v[.has a,O,acr g l hat,bT _,.has hat])))
 .exact e4 O (m? O (wy (vv O #v[.seen a,O,Xo g l hat,bT _,.seen hat])))
 .obtain⟨ml,m1,m2⟩:=Jf (mP T M);have y:=Kx m1 (by omega);refine e4 O (e4 O ?_);by_cases C:(mP T M).map pD=[]
  .rw[aY C]at y;exact e4 (BL O (v7 (vp O O y))) (e4 O (e4 O (e4 O (e4 O (lit 3)))))
  .rw[aZ C]at y;have w:0<(mP T M).length:=by
    rcases p9 (mP T M).length with z|z
    .exact ar (by rw[fK.1 z];rfl) C
    .exact z
   let q:=(mP T M).getD (c / 90 % (mP T M).length) ("", 0);have N:q∈mP T M:=wC (aM _ w);obtain⟨v,e1,v0,v1⟩:=pm (mP_b g N);refine m? (BL O (v7 (vp O O y))) (vx (Lm (vv (Jg pD ("", 0) w O (EW O (by decide) (by decide))) #v[[A,F,u,P,K,.I (dN (n+1)),Y,.I (.str a),.I (dN 3),.I (.str q.1),.I (.int q.2),.un],O,?_])));refine wy (vv (xO (vn O (vn O (vn (vp (EW O (by decide) (by decide)) O e1) O))) (bX O)) ?_);exact#v[.mark q.1 v,O,Xp g l (.inl N) v0 v1,bT _,.mark (.inl N)]
 .let k:=(["plain", "box", "lamp", "fixed"]:aE).getD (c / 90 % 4) "";have hk:k∈(["plain", "box", "lamp", "fixed"]:aE):=wC (show _<4 from aM _ (by decide));have J:k∈(["plain", "fixed", "box", "lamp", "room", "you"]:aE):=by simp only[aJ,bU,or_false]at hk ⊢;rcases hk with h|h|h|h<;>simp[h]
  refine e4 O (e4 O (e4 O (m? O (wy (vv (xO (vn O (vn O (vn (pk_c (L:=["plain", "box", "lamp", "fixed"]) (i:=0) (by decide) O O (EW O (by decide) (by decide))) O))) (bX O)) ?_)))));exact#v[.kind a k,O,Xq g l hat J,bT _,.kind hat]
 .refine e4 O (e4 O (e4 O (e4 O ?_)));by_cases hw:f="way"
  .subst hw;let x:=(["north", "up", "in"]:aE).getD (c / 90 % 3) "";have hx:x∈(["north", "up", "in"]:aE):=wC (show _<3 from aM _ (by decide));have R:=by
    have:((["north", "up", "in"]:aE).all λx=>decide (x∈wwL))=γ:=by kernel_rfl
    exact bj (aK.1 this x hx)
   refine m? O (wy (vv (xO (vn O (vn (pk_c (L:=["north", "up", "in"]) (i:=0) (by decide) O O (EW O (by decide) (by decide))) O)) (bX O)) ?_));exact#v[.word x,O,Xr R,bT _,.word O]
  .have e:b? δ (.str f) (.str "way")=Z (.X δ):=by rw[xa,aZ hw];rfl
   exact e4 (BL O (v7 (vp O O e))) (e4 O (e4 O (lit 5)))
 .refine e4 O (e4 O (e4 O (e4 O (e4 O ?_))));rcases o with rfl|⟨m,j,o⟩
  .exact e4 O (e4 O (lit 6))
  .obtain⟨d,e,s,rfl,E,h2,H⟩:=o (c / 7);refine m? (BL O (gt m 6 j)) (wy (vv (xO (vn O (vn (vm (vn (EW O (by decide) (by decide)) (vn O (vn O (vn O (vn O (vn (S m _ j O) O)))))) (by rw[j];exact e)) O)) (bX O)) ?_));subst j;exact#v[.no s,O,Uw E,by show dp s+1<=m+1;omega,.no H]
 .refine e4 O (e4 O (e4 O (e4 O (e4 O (e4 O ?_)))));rcases o with rfl|⟨m,j,o⟩
  .exact e4 O (lit 7)
  .obtain⟨d,e,s,rfl,E,h2,H⟩:=o (c / 11);obtain⟨d',e',s',rfl,G,h2',I⟩:=o (c / 13);refine m? (BL O (gt m 7 j)) (vx (vQ (vv (vm (vn (EW O (by decide) (by decide)) (vn O (vn O (vn O (vn O (vn (S m _ j O) O)))))) (by rw[j];exact e)) ?_)));refine wy (vv (xO (vn O (vn O (vn (vm (vn (EW O (by decide) (by decide)) (vn O (vn O (vn O (vn O (vn (S m _ j O) O)))))) (by rw[j];exact e')) O))) (bX O)) ?_);subst j;exact#v[.bo s s',O,Rh E G,by show max (dp s) (dp s')+1<=m+1;omega,.bo H I]
 .exact e4 O (e4 O (e4 O (e4 O (e4 O (e4 O (e4 O (lit 8)))))))
theorem PL(g:ea T M b W)(a:f∈k3):∀(n c:Nat),∃d,xk (n+1) [dN c,.str f,.a3 ((j? T).map D.str),.a3 ((x1 T).map D.str),.a3 ((mP T M).map pD),dN (n+1)]=Z d/\TOk T M (fx T M b W V) f n d
 |0,c=>Kg g a 0 c (.inl O)
 |n+1,c=>Kg g a (n+1) c (.inr #v[n,O,λc=>PL g a n c])
end
def Ov(b:c d=Z (δ,a)):xE c e d=Z (δ,a):=by unfold xE;rw[b]
def DOk(T:List Th)(M:List Mk)(w:L4.D)(f:Str)(d:L4.D):Prop:=∃s,d=N' s/\Dd w f (J? s)/\Ds T M f (J? s)
section
variable{V:List Vb}
def UM(b:f∈k3)(h:x∈j? T++tx f):Mv T f x:=by
 rcases aW.1 h with h|h
 .obtain⟨t,a,rfl⟩:=aw.1 h;exact .inl #v[t,(aO.1 a).1,O,by simpa using (aO.1 a).2]
 .exact .inr (YE b x h)
def d12(a:f∈k3):∃b,j2 δ (.str f) (.a7 [.str "one", .str "two"])=Z (.X b)/\(b=γ->f∈(["one", "two"]:aE)):=
 fm4 (P:=λf=>∃b,j2 δ (.str f) (.a7 [.str "one", .str "two"])=Z (.X b)/\(b=γ->f∈(["one", "two"]:aE))) #v[γ,by kernel_rfl,λy=>by decide] #v[γ,by kernel_rfl,λy=>by decide] #v[δ,by kernel_rfl,λz=>by cases z] #v[δ,by kernel_rfl,λz=>by cases z] f a
def rm_T(g:ea T M c W)(h:x∈gk T):Tm f (nq T) x/\∃t∈T,t.n=x/\t.k=.room:=by obtain⟨t,a,rfl⟩:=aw.1 h;have b:=bj (aO.1 a).2;exact#v[.inl (bY (aO.2 #v[(aO.1 a).1,by rw[b];rfl])),t,(aO.1 a).1,O,b]
def Xy(g:ea T M t W)(i:f∈k3)(c:Nat):∃d,zX [dN c,.str f,.a3 ((j? T).map D.str),.a3 ((x1 T).map D.str),.a3 ((mP T M).map pD),.a3 ((gk T).map D.str),.str (yN T)]=Z d/\DOk T M (fx T M t W V) f d:=by
 let X:=j? T++tx f;have N:X.length=(j? T).length+(tx f).length:=aA;have H:0<X.length:=by rw[N];have:=YH g;omega
 have G:0<(gk T).length:=by unfold gk;rw[af];exact g.r1
 let a:=X.getD (c / 5 % X.length) "";have hax:a∈X:=wC (aM _ H);let p:=(x1 T).getD (c / 50 % (x1 T).length) "";have hpt:Tm f (nq T) p:=YF g (wC (aM _ PK));let b:=(gk T).getD (c / 50 % (gk T).length) "";obtain⟨hbt,hbr⟩:=rm_T g (wC (aM _ G):b∈gk T);let A:Sl:=.I (dN c);let F:Sl:=.I (.str f);let o:Sl:=.I (.a3 ((j? T).map D.str));let P:Sl:=.I (.a3 ((x1 T).map D.str));let K:Sl:=.I (.a3 ((mP T M).map pD));let R:Sl:=.I (.a3 ((gk T).map D.str));let r:Sl:=.I (.str (yN T));let Y:Sl:=.I (.a3 (X.map D.str));let j:=[A,F,o,P,K,R,r,Y,.I (.str a),.un,.un];refine F0 O ?_;refine vx (vQ (vv (b:=[A,F,o,P,K,R,r,.un,.un,.un,.un]) ((wb (xn O (YG i O) (by rw[af,af];have:=YI g;have:=YJ (f:=f);omega))).t (by rw[<-aV];rfl)) ?_));refine vx (vQ (vv (Jg D.str "" H O (EW O (by decide) (by decide))) ?_));refine s_g O ?_;rintro _ rfl;have E:∀k:Nat,c2 (b? δ) (c2 vX aa cD) (cC (.int k)) j=Z (.X (decide (((c % 5:Nat):Int)=k)),j):=λk=>vp (vp O O (md (by decide))) O ((x4 δ _ _).t (by cases decide (((c % 5:Nat):Int)=(k:Int))<;>rfl));have tail:Ws (a0 (en (cT (c2 (b? δ) bP bu)) (vw (vM n5)) vz)
   (vw (vM n6)) j) (λs=>False) λd s=>DOk T M (fx T M t W V) f d:=by
  have e:c2 (b? δ) bP bu j=Z (.X (decide (a=yN T)),j):=vp O O ((xa δ a (yN T)).t (by cases decide (a=yN T)<;>rfl));by_cases h:a=yN T
  .rw[aY h]at e;refine m? (v7 e) (wy (vv (xO (vn O (vn O (vn (Jg D.str "" G O (EW O (by decide) (by decide))) O))) (bX O)) ?_));have B:Mv T f (yN T):=by rw[<-h];exact UM i hax
   exact#v[.mv (yN T) b,O,Py g i B hbt (λs=>hbr),.move B hbt λs=>hbr]
  .rw[aZ h]at e;refine e4 (v7 e) (wy (vv (xO (vn O (vn O (vn (Jg D.str "" PK O (EW O (by decide) (by decide))) O))) (bX O)) ?_));exact#v[.mv a p,O,Py g i (UM i hax) hpt (λz=>ar z h),.move (UM i hax) hpt λz=>ar z h]
 have C:Ws (a0 (en (xE (cT (c2 (b? δ) (c2 vX aa cD) ay)) (cT (c2 (j2 δ) ag (vM kY)))) (vw (vM sR)) vz)
  (a0 (en (cT (c2 (b? δ) bP bu)) (vw (vM n5)) vz)
   (vw (vM n6))) j) (λs=>False) λd s=>DOk T M (fx T M t W V) f d:=by
  have e:=E 1;cases h:decide (((c % 5:Nat):Int)=(1:Nat))
  .rw[h]at e;exact e4 (Ov (v7 e)) tail
  .rw[h]at e;obtain⟨b,J,y⟩:=d12 i;have x:=BL (v7 e) (v7 (vp (e:=cV 1) (e':=vM kY) O O J));cases b with
   |false=>exact e4 x tail
   |true=>refine m? x (wy (vv (xO (vn O (vn O (vn (vp (EW O (by decide) (by decide)) O (md (by decide))) O))) (bX O)) ?_));exact#v[.pu "it" (c / 50 % 4:Nat),O,Ux (q:=("it", 3)) g i (.inr #v[.inl #v[O,y O],nR 3]) (by omega) (by show ((c / 50 % 4:Nat):Int)<=3;omega),.put (q:=("it", 3)) (.inr #v[.inl #v[O,y O],nR 3]) (by omega)]
 have e:=E 0;cases h:decide (((c % 5:Nat):Int)=(0:Nat))
 .rw[h]at e;exact e4 (Ov (v7 e)) C
 .rw[h]at e;obtain⟨ml,Q,m2⟩:=Jf (mP T M);have m:=Kx Q (by omega);by_cases u:(mP T M).map pD=[]
  .rw[aY u]at m;exact e4 (BL (v7 e) (v7 (vp O O m))) C
  .rw[aZ u]at m;have l:0<(mP T M).length:=by
    rcases p9 (mP T M).length with z|z
    .exact ar (by rw[fK.1 z];rfl) u
    .exact z
   let q:=(mP T M).getD (c / 50 % (mP T M).length) ("", 0);have w:q∈mP T M:=wC (aM _ l);obtain⟨v,I,v0,S⟩:=pm (mP_b g w);refine m? (BL (v7 e) (v7 (vp O O m))) (vx (Lm (vv (Jg pD ("", 0) l O (EW O (by decide) (by decide))) #v[[A,F,o,P,K,R,r,Y,.I (.str a),.I (.str q.1),.I (.int q.2)],O,?_])));refine wy (vv (xO (vn O (vn O (vn (vp (EW O (by decide) (by decide)) O I) O))) (bX O)) ?_);exact#v[.pu q.1 v,O,Ux g i (.inl w) v0 S,.put (.inl w) v0]
end
def Jh:xK []=Z (v9.map l?):=by kernel_rfl
def txL:aE:=["So be it.", " two  blanks ", "x", "refuses at it", fC "~" 60]
def Xz(h:x∈txL):B6 [.str x]=Z (.X γ):=CW (aK.1 (show (txL.all λx=>ZX (B6 [.str x]))=γ by kernel_rfl) x h)
structure Rs where
 v:Vb
 ts:List Tst
 ds:List De
 tx:Str
 rf:Bool
def U?(r:Rs):L4.D:=.a7 [.str r.v.n,.a3 (r.ts.map B?),.a3 (r.ds.map N'),.str r.tx,.X r.rf]
structure M3(T:List Th)(M:List Mk)(w:L4.D)(V:List Vb)(r:Rs):Prop where
 v:r.v∈V++v9
 lt:r.ts.length<=2
 t:∀t∈r.ts,Tk w r.v.f 2 (Hj t)/\dp t<=2/\Ts T M r.v.f 2 (Hj t)
 ld:r.ds.length<=2
 d:∀d∈r.ds,Dd w r.v.f (J? d)/\Ds T M r.v.f (J? d)
 x:r.tx∈txL
 rf:r.rf=γ->r.ds=[]
def YK(h:v∈v6++v9):v.f∈k3:=bj (aK.1 (show ((v6++v9).all λv=>decide (v.f∈k3))=γ by kernel_rfl) v h)
def M4(h:e ρ=Z (dN m,a))(f:m<=100):u3 e ρ=Z ((aB m).map λj:Nat=>D.int j,a):=by obtain⟨c,b,d,rfl,rfl⟩:=Ro (kl:=λc b=>c=(aB m).map (λj:Nat=>D.int j)/\b=a) (vv h #v[m,O,f,O,O]);exact d
def UN(k:Kd):b? γ (.str k.s) (.str "room")=Z (.X (!decide (k=.room))):=by cases k<;>kernel_rfl
def aeU(T:List Th)(a:T.length<=1000)(hi:cV i ρ=Z (.a3 (T.map i0),ρ)):vy 1 [] (iL (cV i)) (gN 0) (cT (c2 (b? γ) (c2 b1 aa bA) cz)) (c2 b1 aa az) ρ=Z ((j? T).map D.str,ρ):=by refine(xl i0 (λt=>.str t.n) (λt=>!decide (t.k=.room)) T (Up hi) a λt y=>#v[[.I (i0 t)],_,O,v7 (vp (vp O O O) O (UN t.k)),λy=>#v[_,O,O],λy=>O]).t ?_;unfold j?;rw[aX];rfl
def acE{c:Type}(F:c->L4.D){l:List c}{a b:Nat}(h:a<=b)(f:b<=l.length):fg (l.map F) (Z (a:Int)) (Z (b:Int))=((l.drop a).take (b - a)).map F:=by
 unfold fg;have d:HT.e? (l.map F).length 0 (Z (a:Int))=a:=by rw[HT.HC,af,gA (by omega)]
 have e:HT.e? (l.map F).length (l.map F).length (Z (b:Int))=b:=by rw[HT.HC,af,gA f]
 rw[d,e,fw,fj]
section
variable{V:List Vb}
def XA(g:ea T M b W)(i:f∈k3):∃a:Nat->Tst,∀c,xk 3 [dN c,.str f,.a3 ((j? T).map D.str),.a3 ((x1 T).map D.str),.a3 ((mP T M).map pD),dN 3]=Z (B? (a c))/\Tk (fx T M b W V) f 2 (Hj (a c))/\dp (a c)<=2/\Ts T M f 2 (Hj (a c)):=
 o4 (r:=λc s=>xk 3 [dN c,.str f,.a3 ((j? T).map D.str),.a3 ((x1 T).map D.str),.a3 ((mP T M).map pD),dN 3]=Z (B? s)/\Tk (fx T M b W V) f 2 (Hj s)/\dp s<=2/\Ts T M f 2 (Hj s)) λc=>by obtain⟨d,e,s,rfl,h⟩:=PL g i 2 c;exact#v[s,e,h]
def XB(g:ea T M b W)(i:f∈k3):∃a:Nat->De,∀c,zX [dN c,.str f,.a3 ((j? T).map D.str),.a3 ((x1 T).map D.str),.a3 ((mP T M).map pD),.a3 ((gk T).map D.str),.str (yN T)]=Z (N' (a c))/\Dd (fx T M b W V) f (J? (a c))/\Ds T M f (J? (a c)):=
 o4 (r:=λc s=>zX [dN c,.str f,.a3 ((j? T).map D.str),.a3 ((x1 T).map D.str),.a3 ((mP T M).map pD),.a3 ((gk T).map D.str),.str (yN T)]=Z (N' s)/\Dd (fx T M b W V) f (J? s)/\Ds T M f (J? s)) λc=>by obtain⟨d,e,s,rfl,h⟩:=Xy g i c;exact#v[s,e,h]
def UO(g:ea T M N W)(hm:m<64)(c:Int):∃RS:List Rs,RS.length<=4/\(∀r∈RS,M3 T M (fx T M N W (vL m)) (vL m) r)/\Ao [.int c,.a3 (T.map i0),.a3 ((mP T M).map pD),.a3 ((vL m).map l?)]=Z (.a3 (RS.map U?)):=by
 suffices h:∃d,Ao [.int c,.a3 (T.map i0),.a3 ((mP T M).map pD),.a3 ((vL m).map l?)]=Z d/\∃RS:List Rs,RS.length<=4/\(∀r∈RS,M3 T M (fx T M N W (vL m)) (vL m) r)/\d=.a3 (RS.map U?) by obtain⟨_,e,RS,h1,h2,rfl⟩:=h;exact#v[RS,h1,h2,e]
 obtain⟨l,hl,el⟩:=Je c 40 (by decide);have lT:=g.len;have lV:=DV m;let V:=vL m++v9;have v0:=by show 0<(vL m++v9).length;rw[aA];show 0<_+9;omega
 let A:Sl:=.I (.int c);let S:Sl:=.I (.a3 (T.map i0));let K:Sl:=.I (.a3 ((mP T M).map pD));let C:Sl:=.I (.a3 ((vL m).map l?));let E:Sl:=.I (dl l);let R:Sl:=.I (.a3 ((gk T).map D.str));let u:Sl:=.I (.str (yN T));let p:Sl:=.I (.a3 ((j? T).map D.str));let P:Sl:=.I (.a3 ((x1 T).map D.str));let F:Sl:=.I (.a3 (V.map l?));have lbx:((T.filter λt=>decide (t.k=.box)).map Th.n).length<=13:=by rw[af];exact bz (cq _ _) lT
 have lrm:(gk T).length<=13:=by unfold gk;rw[af];exact bz (cq _ _) lT
 let J:=λ(i:Nat) (ρ:bh)=>∃(RS:List Rs) (s1 X Y s4 s5 s6 G H B y:Sl),ρ=[A,S,K,C,E,R,u,p,P,F,.ls (RS.map U?),s1,X,Y,s4,s5,s6,G,H,B,y]/\RS.length<=i/\∀r∈RS,M3 T M (fx T M N W (vL m)) (vL m) r;refine F0 O ?_;refine vx (vQ (vv (wb (vm O el)) ?_));refine vx (vQ (vv (wb (of_eq T (by omega) O .room)) ?_));refine vx (vQ (vv (vp ((wb (of_eq T (by omega) O .you)).t (by rw[g.y1])) O O) ?_));refine vx (vQ (vv (wb (aeU T (by omega) O)) ?_));refine vx (vQ (vv (a:=.a3 ((x1 T).map D.str)) (wb ((xn (wb (xn O O (by rw[af];show (gk T).length+2<=1000;omega))) (wb (of_eq T (by omega) O .box)) (by rw[aA,af,af (as:=c5 Th.n _)];show (gk T).length+2+_<=1000;omega)).t (by unfold x1;rw[aV,aV];rfl))) ?_));refine vx (vQ (vv (wb ((xn O (wb (vm O Jh)) (by rw[af,af];show _+9<=1000;omega)).t (by rw[<-aV]))) ?_));refine vx (Ab O ?_);refine vx (Ec (Ro (vv (vp (vp O O (y8 (i:=0) (by omega))) O (md (by decide))) #v[gd l 0 % 5,O,by have:gd l 0 % 5<5:=aM _ (by decide);omega,J,#v[[],_,_,_,_,_,_,_,_,_,_,O,aH _,λw hw=>(by cases hw)],?_,?_])))
 .rintro i _ _ hd ⟨RS,s1,X,Y,s4,s5,s6,G,H,B,y,rfl,lR,ok⟩;obtain⟨hi,rfl⟩:=GN hd;let z:=(l.drop (1+7 * i)).take 7;have lz:z.length=7:=by show ((l.drop (1+7 * i)).take 7).length=7;rw[cA,cW];omega
  let v:=V.getD (gd z 0 % V.length) #v["", [],"", U];have hv:v∈vL m++v9:=wC (aM _ v0);have hv6:v∈v6++v9:=by
   rcases aW.1 hv with h|h
   .exact bJ _ (GK h)
   .exact bB _ h
  have hf:=YK hv6;obtain⟨tf,htf⟩:=XA g hf;obtain⟨df,hdf⟩:=XB g hf;let nt:=gd z 1 % 3;let nd:=gd z 1 / 12 % 3;let ts:=(aB nt).map λk=>tf (gd z (2+k));let q:=(aB nd).map λk=>df (gd z (4+k));let Q:=decide (((gd z 1 / 3 % 4:Nat):Int)=0);let x:=txL.getD (gd z 6 % 5) "";have hx:x∈txL:=wC (show _<5 from aM _ (by decide));let I:Sl:=.I (dN i);let AT:Sl:=.I (dl z);let v1:Sl:=.I (.str v.n);let v2:Sl:=.I (.a7 (v.o.map D.str));let v3:Sl:=.I (.str v.f);let v4:Sl:=.I (oS v.j);let L:Sl:=.ls (RS.map U?);have ez:cL (Fh aG (mr (c2 wH ay (c2 yZ dg dE))) (mr (c2 wH fX (c2 yZ dg dE)))) [A,S,K,C,E,R,u,p,P,F,L,I,X,Y,s4,s5,s6,G,H,B,y]=Z (dl z,[A,S,K,C,E,R,u,p,P,F,L,I,X,Y,s4,s5,s6,G,H,B,y]):=by obtain⟨d,ρ,e,rfl,rfl⟩:=w_L (k:=λd ρ=>d=dl z/\ρ=[A,S,K,C,E,R,u,p,P,F,L,I,X,Y,s4,s5,s6,G,H,B,y]) (w_sx (e:=cV 4) (ρ:=[A,S,K,C,E,R,u,p,P,F,L,I,X,Y,s4,s5,s6,G,H,B,y]) (lo:=mr (c2 wH ay (c2 yZ dg dE))) (hi:=mr (c2 wH fX (c2 yZ dg dE))) (vv O #v[l.map dN,O,w_oA (vv (vp O (vp O O (yD (.inl (by decide)))) O) #v[((1+7 * i:Nat):Int),O,w_oA (vv (vp O (vp O O (yD (.inl (by decide)))) O) #v[((8+7 * i:Nat):Int),O,by rw[acE dN (by omega) (by omega),show 8+7 * i - (1+7 * i)=7 by omega];rfl,O])])]));exact e
  refine#v[_,O,vx (vQ (vv ez ?_))];refine vx (Lm (vv (Jg l? #v["", [],"", U] v0 O (vp O O (y8 (i:=0) (by omega)))) #v[[A,S,K,C,E,R,u,p,P,F,L,I,AT,v1,v2,v3,v4,G,H,B,y],O,?_]));have z1:∀ρ:bh,cV 12 ρ=Z (dl z,ρ)->c2 b1 dF ay ρ=Z (dN (gd z 1),ρ):=λρ h=>vp h O (y8 (i:=1) (by omega));refine vx (vQ (vv (a:=.a3 (ts.map B?)) (wb ((xw (λj:Nat=>D.int j) (λk=>B? (tf (gd z (2+k)))) (aB nt) (M4 (vp (z1 _ O) O (md (by decide))) (by show nt<=100;omega)) (by rw[bK];omega) λk hk=>#v[[.I (dN k),v3,p,P,K,AT],[.I (dN k),v3,p,P,K,AT],O,vm (vn (vp O O (y8 (by have:=bx.1 hk;omega))) O) (htf _).1,O]).t (by rw[show ts.map B?=(aB nt).map λk=>B? (tf (gd z (2+k))) from aX]))) ?_));refine vx (vQ (vv (vp (vp (vp (z1 _ O) O (dv (by decide) (by decide))) O (md (by decide))) O ((x4 δ _ _).t (by show Z (D.X _)=Z (D.X Q);cases h:Q<;>simp[Q]at h<;>simp[h]))) ?_));refine vx (vQ (vv (a:=.a3 (q.map N')) (b:=[A,S,K,C,E,R,u,p,P,F,L,I,AT,v1,v2,v3,v4,.I (.a3 (ts.map B?)),.I (.X Q),B,y]) (wb ((xw (λj:Nat=>D.int j) (λk=>N' (df (gd z (4+k)))) (aB nd) (M4 (vp (vp (z1 _ O) O (dv (by decide) (by decide))) O (md (by decide))) (by show nd<=100;omega)) (by rw[bK];omega) λk hk=>#v[[.I (dN k),v3,p,P,K,R,u,AT],[.I (dN k),v3,p,P,K,R,u,AT],O,vm (vn (vp O O (y8 (by have:=bx.1 hk;omega))) O) (hdf _).1,O]).t (by rw[show q.map N'=(aB nd).map λk=>N' (df (gd z (4+k))) from aX];rfl))) ?_));have oT:∀t∈ts,Tk (fx T M N W (vL m)) v.f 2 (Hj t)/\dp t<=2/\Ts T M v.f 2 (Hj t):=λt ht=>by obtain⟨k,_,rfl⟩:=aw.1 ht;exact(htf _).2
  have oD:∀d∈q,Dd (fx T M N W (vL m)) v.f (J? d)/\Ds T M v.f (J? d):=λd hd=>by obtain⟨k,_,rfl⟩:=aw.1 hd;exact(hdf _).2
  have lt:ts.length<=2:=by show ((aB nt).map _).length<=2;rw[af,bK];omega
  have ld:q.length<=2:=by show ((aB nd).map _).length<=2;rw[af,bK];omega
  have fin:∀ds:List De,ds.length<=2->(∀d∈ds,Dd (fx T M N W (vL m)) v.f (J? d)/\Ds T M v.f (J? d))->(Q=γ->ds=[])->Ws (a0 (vI 20 (c2 b1 (cL (vJ sE)) (c2 vX (c2 b1 dF fY) cD)))
    (v8 (Ae 10 (vM sH)))
    [A,S,K,C,E,R,u,p,P,F,L,I,AT,v1,v2,v3,v4,.I (.a3 (ts.map B?)),.I (.X Q),.I (.a3 (ds.map N')),y]) (J (i+1)) λd s=>∃RS:List Rs,RS.length<=4/\(∀r∈RS,M3 T M (fx T M N W (vL m)) (vL m) r)/\d=.a3 (RS.map U?):=λds hl2 ew hrf=>by
   refine vx (vQ (vv (pk_c (L:=txL) (i:=0) (by decide) O (by kernel_rfl) (vp O O (y8 (i:=6) (by omega)))) ?_));refine EV (vv (zB O O O (by rw[af];omega)) #v[RS++[#v[v,ts,ds,x,Q]],_,_,_,_,_,_,_,_,_,_,by rw[aV];rfl,by rw[aA];exact jY lR,snoc ok #v[hv,lt,oT,hl2,ew,hx,hrf]])
  refine vx (Ll (vv O #v[λh=>Ab O (fin [] (by decide) (λd hd=>by cases hd) λs=>O),λh=>Ab O (fin q ld oD λz=>by rw[h]at z;cases z)]))
 .rintro _ ⟨RS,s1,X,Y,s4,s5,s6,G,H,B,y,rfl,lR,ok⟩;rw[af,bK]at lR;exact Rm (vv O #v[RS,by have:gd l 0 % 5<5:=aM _ (by decide);omega,ok,O])
end
def Lq(b:List Int)(k:Nat):∃c,yz [.mn (b.map D.int),.int k]=Z (.int c):=by
 let d:bh:=[.I (.mn (b.map D.int)),.I (.int k)];have a:cT (c2 NQ ag (c1 wY aa)) d=Z (decide ((k:Int)<((b.map D.int).length:Nat)),d):=rfl;rw[af]at a;by_cases h:k<b.length
 .rw[aY (by omega)]at a;refine#v[b[k],vF O (vZ ((wt a).t (vP (vp O O ?_))))];exact y9 (by rw[bq,aP h];rfl)
 .rw[aZ (by omega)]at a;exact#v[0,vF O ((vt ((wU a))))]
def PD(T:List Th)(M:List Mk)(a:aE)(W:List Wy)(m:Nat)(RS:List Rs):L4.D:=.a7 [.a3 (T.map i0),.a3 (M.map mkS),.a3 (a.map D.str),.a3 (W.map m5),.a3 ((vL m).map l?),.a3 (RS.map U?)]
def XD(R:aE):(aB R.length).map (λk=>R.getD k "")=R:=by refine qG (by rw[af,bK]) λi b a=>?_;rw[qH,qa,bN,aP a];rfl
def g3(h:k<3):0<gd [1,4,16] k/\gd [1,4,16] k<1073741824:=by
 obtain rfl|rfl|rfl:k=0\/k=1\/k=2:=by omega
 all_goals decide
def UP(d:Lo l N T):∀t∈T,t.w.length<=3/\∀x∈t.w,x.length<=60:=λt c=>by
 obtain⟨r,n,y,P,_,_,_,i,eP,_⟩:=d.ex;rw[i]at c;rcases aW.1 c with h|h
 .obtain⟨x,_,rfl⟩:=aw.1 h;exact#v[by show 1<=3;decide,λx a=>J9 (by kernel_rfl) a]
 .rcases aJ.1 h with rfl|h
  .exact#v[by show 2<=3;decide,λx a=>J9 (by kernel_rfl) a]
  .have b:t.nw∈P.map Th.nw:=bY h;rw[eP]at b;obtain⟨k,_,e⟩:=aw.1 b;have f:=e;injection f with _ j;rw[<-j];exact#v[(Ln l k).2,λx a=>J9 (by kernel_rfl) (UF a)]
def UQ(u:List Int):∃T M c W m RS,ea T M c W/\(∀t∈T,t.w.length<=3/\∀x∈t.w,x.length<=60)/\T.length<=9/\M.length<=2/\c.length<=3/\W.length<=4/\m<64/\RS.length<=4/\(∀r∈RS,M3 T M (fx T M c W (vL m)) (vL m) r)/\CT [.mn (u.map D.int)]=Z (PD T M c W m RS):=by
 obtain⟨Q,X⟩:=Lq u 0;obtain⟨y,Y⟩:=Lq u 1;obtain⟨l,e,el⟩:=Je Q 32 (by decide);obtain⟨N,eN,hN⟩:=UD e;obtain⟨T0,j,B,eT⟩:=Rp e hN;obtain⟨M,q,F,eMn,G,eM⟩:=UH e hN;let T:=T0.drop j++T0.take j;obtain⟨g0,C,m2,f⟩:=PJ (W:=[]) hN B j F eMn G (List.nil_sublist _) (by decide) (λw hw=>by cases hw) .nil;have C:T.length<=9:=C;have f:(gk T).length<=3:=f;have rne:gk T≠[]:=λz=>by
  have h:1<=(T.filter λt=>decide (t.k=.room)).length:=g0.r1;have:(gk T).length=0:=by rw[z];rfl
  unfold gk at this;rw[af]at this;omega
 obtain⟨W,H,wo,wn,eW⟩:=Xw e T M (by omega) (by omega) rne;obtain⟨m,E,eV⟩:=UI e;let p:=λk=>decide (((gd l 29 / gd [1,4,16] k % 4:Nat):Int)=1);let c:=((aB (gk T).length).filter p).map λk=>(gk T).getD k "";have sub:=by have:=(lY (p:=p) (l:=aB (gk T).length)).map λk=>(gk T).getD k "";rw[XD]at this;exact this
 obtain⟨g,_,_,_⟩:=PJ hN B j F eMn G sub H wo wn;obtain⟨RS,r4,ok,eR⟩:=UO g E y;refine#v[T,M,c,W,m,RS,g,λt ht=>UP B t ((Kc T0 j).mem_iff.1 ht),C,m2,bz sub.length_le f,H,E,r4,ok,?_];let A:Sl:=.I (.mn (u.map D.int));let o:Sl:=.I (dl l);let n:Sl:=.I (.a3 (N.map D.str));let S:Sl:=.I (.a3 (T.map i0));let I:Sl:=.I (.a3 (M.map mkS));let R:Sl:=.I (.a3 ((gk T).map D.str));let K:Sl:=.I (.a3 ((mP T M).map pD));refine xT O ?_;refine vx (vQ (vv (wb (vm (vn (vm O X) O) el)) ?_));refine vx (vQ (vv (vm O eN) ?_));refine vx (vQ (vv (vm O eT) ?_));refine vx (vQ (vv (vm O eM) ?_));refine vx (vQ (vv (wb (of_eq T (by omega) O .room)) ?_));refine vx (vQ (vv (vm O (Lp T M (by omega) (by omega))) ?_));refine vx (vQ (vv (a:=.a3 (c.map D.str)) (b:=[A,o,n,S,I,R,K,.un,.un,.un]) (wb ((xl (λj:Nat=>D.int j) (λk=>.str ((gk T).getD k "")) p (aB (gk T).length) (M4 (Ke D.str O) (by omega)) (by rw[bK];omega) λk d=>?_).t (by rw[show c.map D.str=((aB (gk T).length).filter p).map λk=>.str ((gk T).getD k "") from aX];rfl))) ?_))
 .have d:=bx.1 d;obtain⟨J,P⟩:=g3 (cw d f);refine#v[[.I (dN k),R,o],[.I (dN k),R,o],O,v7 (vp (vp (vp (vp O O (y8 (i:=29) (by omega))) (vp (x:=dl [1,4,16]) O O (y8 (cw d f))) (dv J P)) O (md (by decide))) O ((x4 δ _ _).t ?_)),λs=>#v[[.I (dN k),R,o],vp O O (DW d),O],λs=>O];cases h:p k<;>simp[p]at h<;>simp[h]
 refine vx (vQ (vv (vm O eV) ?_));refine vx (vQ (vv (vm (vn (vm O Y) O) eR) ?_));exact wy (vv (xO (vn O (vn O (vn O (vn (vm O eW) O)))) (bX O)) O)
def rsO(r:Rs):L4.D:=p5 r.v.n (r.ts.map Hj) (r.ds.map J?) r.tx r.rf
def YL(v:Str)(c a:List L4.D)(x:Str)(b:Bool):xW [.str v,.a3 c,.a3 a,.str x,.X b]=Z (ruN,[.str v,.a3 c,.a3 a,.str x,.X b]):=by kernel_rfl
def UR{T:List Th}{M:List Mk}{w:L4.D}{V:List Vb}{r:Rs}(h:M3 T M w V r):DT [U? r]=Z (rsO r):=by
 obtain⟨v,b,a,x,c⟩:=r;have lt:b.length<=2:=h.lt;have ld:a.length<=2:=h.ld;let A:Sl:=.I (U? #v[v,b,a,x,c]);let B:Sl:=.I (.str v.n);let C:Sl:=.I (.a3 (b.map B?));let e:Sl:=.I (.a3 (a.map N'));let E:Sl:=.I (.str x);let F:Sl:=.I (.X c);refine xT O ?_;refine vx (Lm (vv O #v[[A,B,C,e,E,F,.un],O,?_]));refine vx (vQ (vv (wb (xw B? Hj b O (by omega) λt f=>#v[[.I (B? t)],[.I (B? t)],O,vm O (F1 t 3 (by have:=(h.t t f).2.1;omega)),O])) ?_));cases c with
 |false=>exact m? O (wy (vv (Fo (vn O (vn O (vn (wb (xw N' J? a O (by omega) λd y=>#v[[.I (N' d)],[.I (N' d)],O,vm O (Xx d),O])) O))) (YL _ _ _ _ _)) O))
 |true=>have:=h.rf O;subst this;exact e4 O (wy (vv (Fo O (YL _ _ _ _ _)) O))
def Rq{RS:List Rs}(g:ea T M c W)(H:m<64)(r4:RS.length<=4)(ok:∀r∈RS,M3 T M (fx T M c W (vL m)) (vL m) r):∃(u:List d?) (dss:List (List L4.D)),CU [PD T M c W m RS]=Z (.obj 14 wNs (wA T M c W (vL m) (RS.map rsO) (.Y u (dss.map .a3))))/\∀j,gl u dss j=(RS.map rsO++SH (yN T) W).filter λd=>decide (kv d=j):=by
 obtain⟨u,dss,P,Q⟩:=UC g H (λr y=>by
  obtain⟨r,h,rfl⟩:=aw.1 y;have o:=ok r h;exact Xs (λv R=>GK R) (J7 H) o.v (λt b=>by obtain⟨s,B,rfl⟩:=aw.1 b;exact(o.t s B).1) (by rw[af];have:=o.lt;omega) (λt b=>by obtain⟨s,B,rfl⟩:=aw.1 b;exact(o.d s B).1) (by rw[af];have:=o.ld;omega) (λz=>by rw[o.rf z];rfl) (Xz o.x)) (by rw[af];omega)
 refine#v[u,dss,?_,Q];have lT:=g.len;have lM:=g.m4;have lV:=DV m;let A:Sl:=.I (PD T M c W m RS);let S:Sl:=.I (.a3 (T.map i0));let l:Sl:=.I (.a3 (M.map mkS));let e:Sl:=.I (.a3 (c.map D.str));let a:Sl:=.I (.a3 (W.map m5));let q:Sl:=.I (.a3 ((vL m).map l?));let p:Sl:=.I (.a3 (RS.map U?));let J:=λ(i:Nat) (X:bh)=>∃C E F G:Sl,X=[A,S,l,e,a,q,p,.ls ((T.take i).map ey),C,E,F,G,.un,.un];refine xT O ?_;refine vx (Lm (vv O #v[[A,S,l,e,a,q,p,.un,.un,.un,.un,.un,.un,.un],O,?_]));refine vx (Ab O (vx (Ec (vv O #v[J,#v[_,_,_,_,O],?_,?_]))))
 .rintro i d _ hd ⟨C,E,F,G,rfl⟩;rw[bq]at hd;obtain⟨t,b,rfl⟩:=fL.1 hd;obtain⟨hi,Y⟩:=cj.1 b;have N:(T.take (i+1)).map ey=(T.take i).map ey++[ey t]:=by rw[gu,b,aV];rfl
  have I:((T.take i).map ey).length<1000:=by rw[af,cA];omega
  obtain⟨n,w,k,s⟩:=t;cases s with
  |none=>refine#v[[A,S,l,e,a,q,p,.ls ((T.take i).map ey),.I (.str n),.I (.a7 (w.map D.str)),.I (.str k.s),.I .O,.un,.un],O,s_y O (EV (vv (zB O O O I) #v[_,_,_,_,by rw[N];rfl]))]
  |some x=>refine#v[[A,S,l,e,a,q,p,.ls ((T.take i).map ey),.I (.str n),.I (.a7 (w.map D.str)),.I (.str k.s),.I (.str x),.un,.un],O,s_n O (EV (vv (zB O O O I) #v[_,_,_,_,by rw[N];rfl]))]
 .rintro _ ⟨C,E,F,G,rfl⟩;rw[af,mQ];refine vx (vQ (vv (wb (xw mkS G' M O (by omega) λx _=>#v[[.I (.str x.n),.I (.int x.st),.I (.int x.mo)],_,O,O,O])) ?_));refine vx (vQ (vv (wb (xw l? k4 (vL m) O (by omega) λx _=>#v[[.I (.str x.n),.I (.a7 (x.o.map D.str)),.I (.str x.f),.I (oS x.j)],_,O,O,O])) ?_));refine wy (vv (Fo (vn O (vn O (vn O (vn O (vn O (vn (wb (xw U? rsO RS O (by omega) λr y=>#v[[.I (U? r)],[.I (U? r)],O,vm O (UR (ok r y)),O])) O)))))) ?_) O);exact P
abbrev Ky:=Str×Str
def kD(k:Ky):L4.D:=.a7 [.str k.1,.str k.2]
def sP(P:List Ky)(v:Ky->L4.D):L4.D:=.a7 (P.map λk=>.a7 [kD k,v k])
def PM(k j:Ky):b? δ (kD k) (kD j)=Z (.X (decide (k=j))):=by obtain⟨a,b⟩:=k;obtain⟨c,d⟩:=j;have e:Gh δ (.a7 [.str a,.str b]) (.a7 [.str c,.str d])=U:=rfl;have f:KL δ (.a7 [.str a,.str b]) (.a7 [.str c,.str d])=Z (.X (L3.pk (.a7 [.str a,.str b]) (.a7 [.str c,.str d]))):=rfl;unfold b? kD;rw[e];simp only;rw[f];congr 2;rw[d5];simp[L3.pk,L3.D9]
theorem Ji(p:Sl)(k:Ky)(v:Ky->L4.D):∀(P:List Ky) (s:Sl),∃c,f3 (gN 2) (en (cT (c2 (b? δ) (c2 b1 ai az) ag)) (vw (c2 b1 ai ay)) vz) (P.map λk=>.a7 [kD k,v k]) [p,.I (kD k),s]=Z (if k∈P then .rt (v k) [p,.I (kD k),c]else .nx [p,.I (kD k),c])
 |[],s=>#v[s,by rw[ak bU];rfl]
 |q::P,s=>by
  let Q:Sl:=.I (.a7 [kD q,v q]);have a:cT (c2 (b? δ) (c2 b1 ai az) ag) [p,.I (kD k),Q]=Z (decide (q=k),[p,.I (kD k),Q]):=v7 (vp O O (PM _ _));rw[aU];unfold f3;rw[show gN 2 (.a7 [kD q,v q]) [p,.I (kD k),s]=Z [p,.I (kD k),Q] from O];by_cases h:q=k
  .rw[aY h]at a;refine#v[Q,?_];simp only[wt a];rw[aj (by rw[h];exact ba),<- h];rfl
  .rw[aZ h]at a;obtain⟨c,d⟩:=Ji p k v P Q;refine#v[c,?_];simp only[wU a,vz];rw[d];by_cases b:k∈P
   .rw[aj b,aj (bb _ b)]
   .rw[ak b,ak λz=>by rcases aJ.1 z with z|z;exact h z.symm;exact b z]
def M5(P:List Ky)(v:Ky->L4.D)(k:Ky):CJ [sP P v,kD k]=Z (if k∈P then v k else .O):=by
 obtain⟨b,h⟩:=Ji (.I (sP P v)) k v P .un;by_cases a:k∈P
 .rw[aj a]at h ⊢;exact vF O (vZ ((yO O).t h))
 .rw[ak a]at h ⊢;exact vF O ((vt ((yO O).t h)))
def up(v:Ky->L4.D)(k:Ky)(d:L4.D):Ky->L4.D:=λq=>if q=k then d else v q
def PN(P:List Ky)(hP:P.length<=900)(v:Ky->L4.D)(k:Ky)(d:L4.D):Bm [sP P v,kD k,d]=Z (sP P (up v k d)):=by
 let a:bh:=[.I (sP P v),.I (kD k),.I d];refine vF (ρ:=a) O (vP ?_);have e:cL (vy 1 [1,2] (iT aa) (gN 0) wG (mq (cT (c2 (b? δ) (c2 b1 aa az) ag)) (vM cu) aa)) a=Z (.a3 (P.map λq=>.a7 [kD q,up v k d q]),a):=by
  refine wb (xw (λq:Ky=>.a7 [kD q,v q]) (λq=>.a7 [kD q,up v k d q]) P O (by omega) λq y=>#v[[.I (.a7 [kD q,v q]),.I (kD k),.I d],[.I (.a7 [kD q,v q]),.I (kD k),.I d],O,?_,O]);have b:cT (c2 (b? δ) (c2 b1 aa az) ag) [.I (.a7 [kD q,v q]),.I (kD k),.I d]=Z (decide (q=k),[.I (.a7 [kD q,v q]),.I (kD k),.I d]):=v7 (vp O O (PM _ _));unfold mq up;rw[b];by_cases h:q=k
  .rw[aY h,aj h,h];rfl
  .rw[aZ h,ak h];rfl
 show zd _ a=_;unfold zd;rw[e];rfl
def va(f?:Str->Str)(mk:Str->Int):Ky->L4.D:=λk=>if k.1="at" then .str (f? k.2)else .int (mk k.2)
def K'{a:Type}(f:Str->a)(x:Str)(d:a):Str->a:=λy=>if y=x then d else f y
def aeV(f?:Str->Str)(mk:Str->Int)(x d:Str)(P:List Ky):sP P (up (va f? mk) ("at", x) (.str d))=sP P (va (K' f? x d) mk):=by
 unfold sP;congr 1;refine jK λk w=>?_;obtain⟨a,y⟩:=k;unfold up va K';by_cases h:a="at"
 .subst h;by_cases b:y=x
  .subst b;simp
  .simp[b]
 .simp[h]
def aeW(f?:Str->Str)(mk:Str->Int)(x:Str)(d:Int)(P:List Ky)(hP:∀k∈P,k.1="at" \/ k.1="mark"):sP P (up (va f? mk) ("mark", x) (.int d))=sP P (va f? (K' mk x d)):=by
 unfold sP;congr 1;refine jK λk b=>?_;have b:=hP k b;obtain⟨a,y⟩:=k;unfold up va K';rcases b with h|h
 .have h:a="at" := h;subst h;have:¬("at" : Str)="mark" := by decide
  simp[this]
 .have h:a="mark" := h;subst h;have:¬("mark" : Str)="at" := by decide
  by_cases c:y=x
  .subst c;simp[this]
  .simp[c,this]
def XC{c d:Type}(f:c->d)(a:c)(b:d)(l:List c){i:Nat}(h:i<l.length):(l.map f).getD i b=f (l.getD i a):=by rw[bN,bN,bq,aP h];rfl
def Ow{a:Type}(d:a):∀l:List a,(aB l.length).map (λi=>l.getD i d)=l:=λl=>by
 apply qG
 .rw[af,bK]
 .intro i c b;rw[qH,qa,bN,aP b];rfl
def kL2(k:Ky):aE:=[k.1,k.2]
theorem M6:∀P:List Ky,zy (P.map kD)=Z (P.map kL2)
 |[]=>rfl
 |q::P=>by rw[aU];unfold zy;rw[M6 P];rfl
def US(P:List Ky)(a:0<P.length)(d:P.length<64):∃b:List Ky,b.Perm P/\EE (P.map kD)=Z (b.map kD):=by
 let c:Nat->Nat->Bool:=λi j=>Jx ((P.map kL2).getD i []) ((P.map kL2).getD j []);refine#v[(N8 c P.length).map λi=>P.getD i ("", ""),?_,?_]
 .have:=(Gk c a).map λi=>P.getD i ("", "");rw[Ow]at this;exact this
 .unfold EE;rw[M6];simp only[af];rw[aj #v[a,d],aX];congr 1;exact jK λi e=>XC kD ("", "") .O P (KU c a i e)
def PT(T:List Th)(M:List Mk):List Ky:=((j? T).map λx=>(("at", x):Ky))++(u2 T M).map λx=>(("mark", x):Ky)
abbrev wO(T:List Th)(M:List Mk)(dk:aE)(W:List Wy)(V:List Vb)(R:List L4.D)(c:L4.D):L4.D:=.obj 14 wNs (wA T M dk W V R c)
section
variable{T:List Th}{V:List Vb}{P:List Ky}
def UT(T:List Th):(j? T).length<=T.length:=by unfold j?;rw[af];exact cq _ _
def UU(T:List Th)(M:List Mk):(u2 T M).length<=T.length+M.length:=by unfold u2;rw[aA,af,af];have:=cq (λt:Th=>t.k.mk) T;omega
def Lr{T:List Th}(b:(T.map Th.n).Nodup)(c:t∈T)(d:u∈T)(e:t.n=u.n):t=u:=by
 induction T with
 |nil=>cases c
 |cons a T f=>
  rw[aU,dO]at b;rcases aJ.1 c with h1|h1<;>rcases aJ.1 d with h2|h2
  .rw[h1,h2]
  .exact ar (show a.n∈T.map Th.n from by rw[<-h1,e];exact aw.2 #v[_,h2,O]) b.1
  .exact ar (show a.n∈T.map Th.n from by rw[<-h2,<- e];exact aw.2 #v[_,h1,O]) b.1
  .exact f b.2 h1 h2
def Lu(c:(T.map Th.n).Nodup)(p:Th->Bool)(b:t∈T):t.n∈(T.filter p).map Th.n ↔ p t=γ:=by
 constructor
 .intro h;obtain⟨u,a,e⟩:=aw.1 h;rw[aO]at a;rw[<-Lr c a.1 b e];exact a.2
 .exact λh=>aw.2 #v[t,aO.2 #v[b,h],O]
def YM(g:ea T M b W):(yN T)∈j? T:=by obtain⟨t,a,e,k⟩:=y_T g;rw[<-e];exact(Lu g.vf _ a).2 (by rw[k];rfl)
def Ox(g:ea T M a W):0<(PT T M).length/\(PT T M).length<64:=by have b:=UT T;have c:=UU T M;have d:=ik (YM g);have e:=g.len;have f:=g.m4;unfold PT;rw[aA,af,af];omega
def UV(h:P.Perm (PT T M))(x:Str):(("at", x):Ky)∈P ↔ x∈j? T:=by
 rw[h.mem_iff];unfold PT;rw[aW,aw,aw];constructor
 .rintro(⟨y,a,e⟩|⟨y,a,e⟩)
  .injection e with _ e;rw[<-e];exact a
  .injection e with e _;exact ar e (by decide)
 .exact λh=>.inl #v[x,h,O]
def YN(h:P.Perm (PT T M))(x:Str):(("mark", x):Ky)∈P ↔ x∈u2 T M:=by
 rw[h.mem_iff];unfold PT;rw[aW,aw,aw];constructor
 .rintro(⟨y,a,e⟩|⟨y,a,e⟩)
  .injection e with e _;exact ar e (by decide)
  .injection e with _ e;rw[<-e];exact a
 .exact λh=>.inr #v[x,h,O]
def YO(h:P.Perm (PT T M)):∀k∈P,k.1="at" \/ k.1="mark" := λk a=>by
 have a:=h.mem_iff.1 a;unfold PT at a;rw[aW,aw,aw]at a;rcases a with ⟨y,_,rfl⟩|⟨y,_,rfl⟩
 .exact .inl O
 .exact .inr O
def Rt(g:ea T M h W):∃f:List Ky,f.Perm (PT T M)/\EE ((PT T M).map kD)=Z (f.map kD)/\BE [wO T M h W V R c]=Z (.a3 (f.map kD)):=by
 have hT:=g.len;have hM:=g.m4;obtain⟨m,o⟩:=Ox g;obtain⟨f,pR,e⟩:=US (PT T M) m o;refine#v[f,pR,e,?_];let w:=wO T M h W V R c;let a:L4.D:=.a3 ((j? T).map λx=>kD ("at", x));let b:L4.D:=.a3 ((u2 T M).map λx=>kD ("mark", x));let d:Sl->Sl->bh:=λp q=>[.I w,p,q];have r:=UT T;have u:=UU T M;have i:vy 1 [] (iL (c1 (vA xG "kept_things") aa)) (gN 0) (cT (c2 (b? γ) (c1 (vA wq "kind") aa) cz)) (vM (ax hJ oj)) (d .un .un)=Z ((T.filter λt=>!decide (t.k=.room)).map λt=>kD ("at", t.n),d .un .un):=
  xl ey (λt=>kD ("at", t.n)) (λt=>!decide (t.k=.room)) T O (by omega) λt y=>#v[[.I (ey t)],[.I (ey t)],O,v7 (vp (we O (BI t)) O (UN t.k)),λy=>#v[_,O,O],λy=>O]
 have j:vy 1 [] (iL (cL (wm zl sN))) (gN 0) wG (vM (ax kI bI)) (d (.I a) .un)=Z ((u2 T M).map λx=>kD ("mark", x),d (.I a) .un):=
  xw D.str (λx=>kD ("mark", x)) (u2 T M) (Dm (wb (vm O (Ep T M (by omega) hM)))) (by omega) λx y=>#v[[.I (.str x)],[.I (.str x)],O,O,O]
 have l:Gr (cL (xi ag ai)) (d (.I a) (.I b))=Z (f.map kD,d (.I a) (.I b)):=by
  have q:cL (xi ag ai) (d (.I a) (.I b))=Z (.a3 ((PT T M).map kD),d (.I a) (.I b)):=by refine(wb (xn O O (by rw[af,af];omega))).t ?_;unfold PT;rw[aV,aX,aX];rfl
  unfold Gr;rw[q];simp only[e]
 refine Bt (ρ:=d (.I a) (.I b)) O ?_;refine(vt ((wN (wb i)).t ?_)).t ((vt ((wN (wb j)))).t (xB l));show Z (B'.nx [Sl.I w,.I (.a3 ((T.filter λt=>!decide (t.k=.room)).map λt=>kD ("at", t.n))),.un])=Z (B'.nx [Sl.I w,.I (.a3 (((T.filter λt=>!decide (t.k=.room)).map Th.n).map λx=>kD ("at", x))),.un]);rw[aX];rfl
def zY(b:(T.map Th.n).Nodup)(a:t∈T):xS [wO T M d W V R c,.str t.n]=Z (ey t):=by refine vF O (vP (vp O O ?_));show Z ((xj (nK T) (T.map ey) (kS t.n)).getD .O)=_;rw[FW b ey a];rfl
def Ru(g:ea T M d W):CH [wO T M d W V R c]=Z (.Y (M.map λm=>kS m.n) (M.map λm=>D.int m.st)):=by
 let w:=wO T M d W V R c;have l:((M.map λm=>kS m.n)).Nodup:=by have:=(cn.1 g.nd).2.1;rw[show (λm:Mk=>kS m.n)=kS∘Mk.n from O,<- aX];exact mH.2 (this.imp λh e=>h (Ol e))
 have r:=g.m4;obtain⟨o,e⟩:=B8 (g:=gN 2) (i:=1) (fk:=c1 (vA vT "name") ai) (fv:=c1 (vA xf "start") ai) G' Mk.n (λm=>D.int m.st) (λb a s=>[.I w,.dk b a,s])
  (λm b a s=>#v[[.I w,.dk b a,.I (G' m)],O,O,O,O,λj f=>#v[_,O]]) M [] [] .un (by rw[cB];exact l) (by simp;omega) O
 rw[cB,cB]at e;refine vF (ρ:=[.I w,.I (.Y (M.map λm=>kS m.n) (M.map λm=>D.int m.st)),o]) O ?_;refine(vt O).t ?_;refine(vt ((yO ?_).t e));exact Dm (v5 O O O O O)
def UW(g:ea T M a W)(b:t∈T)(st:L4.D):yQ [wO T M a W V R c,st,kD ("at", t.n)]=Z (oS t.s):=by refine vF O (vZ ((wt (v7 (vp O O (by rw[xa];rfl)))).t (vP (we (v5 O O O O (zY g.vf b)) (HJ t)))))
def Oy(x:Str)(b:List d?)(a:List L4.D):yQ [wO T M d W V R c,.Y b a,kD ("mark", x)]=Z ((xj b a (kS x)).getD (.int 0)):=by refine vF O ((vt ((wU (v7 (vp O O (by rw[xa];rfl)))))).t O)
theorem M7{c:Type}(kf:c->d?)(b:c->Int)(k:d?):∀l:List c,∃z,(xj (l.map kf) (l.map λa=>D.int (b a)) k).getD (.int 0)=.int z
 |[]=>#v[0,O]
 |a::l=>by
  rw[aU,aU];unfold xj;split
  .exact#v[b a,O]
  .exact M7 kf b k l
def at0(T:List Th)(x:Str):Str:=((T.find? λt=>decide (t.n=x)).bind Th.s).getD ""
def Lv(b:(T.map Th.n).Nodup)(a:t∈T):at0 T t.n=t.s.getD "" := by
 unfold at0;cases h:T.find? λu=>decide (u.n=t.n)with
 |none=>exact ar (mh.1 h t a) (by simp)
 |some u=>rw[Lr b (oQ h) a (bj (mV (p:=λu:Th=>decide (u.n=t.n)) h))];rfl
def PQ(g:ea T M l W)(i:t∈T)(h:t.k≠.room):∃p,t.s=Z p/\p∈nq T/\(t.k=.you->p∈gk T):=by
 have a:=g.st t i;unfold FV at a;have j:∀p,p∈gk T->p∈nq T:=λp f=>by obtain⟨u,c,e⟩:=aw.1 f;rw[aO]at c;exact aw.2 #v[u,aO.2 #v[c.1,by rw[bj c.2];rfl],e]
 cases d:t.s with
 |none=>rw[d]at a;cases b:t.k<;>rw[b]at a h<;>first|exact ar O h|exact a.elim
 |some p=>rw[d]at a;refine#v[p,O,?_];cases b:t.k<;>rw[b]at a h<;>first|exact ar O h|exact#v[j p a,λy=>a]|exact#v[a,λz=>by cases z]
def UX(g:ea T M l W):∃(P:List Ky) (m:Str->Int),P.Perm (PT T M)/\EE ((PT T M).map kD)=Z (P.map kD)/\BE [wO T M l W V R c]=Z (.a3 (P.map kD))/\(∀x,(xj (M.map λm=>kS m.n) (M.map λm=>D.int m.st) (kS x)).getD (.int 0)=.int (m x))/\BF [wO T M l W V R c]=Z (sP P (va (at0 T) m)):=by
 obtain⟨i,pR,eS,eR⟩:=Rt g;have d:∀x,∃z,(xj (M.map λm=>kS m.n) (M.map λm=>D.int m.st) (kS x)).getD (.int 0)=.int z:=λx=>M7 (λm:Mk=>kS m.n) Mk.st (kS x) M;refine#v[i,λx=>(d x).choose,pR,eS,eR,λx=>(d x).choose_spec,?_];let w:=wO T M l W V R c;let st:L4.D:=.Y (M.map λm=>kS m.n) (M.map λm=>D.int m.st);have hR:i.length<64:=by rw[pR.length_eq];exact(Ox g).2
 have val:∀k∈i,yQ [w,st,kD k]=Z (va (at0 T) (λx=>(d x).choose) k):=λk j=>by
  obtain⟨a,x⟩:=k;rcases YO pR _ j with h|h
  .have h:a="at" := h;subst h;have q:=(UV pR x).1 j;obtain⟨t,b,rfl⟩:=aw.1 q;rw[aO]at b;obtain⟨p,o,_⟩:=PQ g b.1 (λz=>by rw[z]at b;exact ar b.2 (by decide));rw[UW g b.1];unfold va;rw[aj O,Lv g.vf b.1,o];rfl
  .have h:a="mark" := h;subst h;rw[Oy,(d x).choose_spec];unfold va;rw[ak (show ¬("mark" : Str)="at" by decide)]
 let f:bh:=[.I w,.I st];refine vF (ρ:=f) O ((vt ((wN (vm O (Ru g))))).t (vP ?_));have e:=xw (k:=1) (d3:=[0,1]) (g:=gN 0) (fe:=vM tL) (s:=iL (vR Bk "parts" aa vO)) (ρ:=f) kD (λk=>.a7 [kD k,va (at0 T) (λx=>(d x).choose) k]) i
  (Dm (v5 O O O O eR)) (by omega) λk j=>#v[[.I (kD k),.I w,.I st],[.I (kD k),.I w,.I st],O,xO (vn O (vn (vm O (val k j)) O)) (show 2<=1000 by decide),O]
 show zd _ f=_;unfold zd;rw[wb e];rfl
end
inductive Ch(T:List Th) (a:Str->Str):Str->aE->Prop
 |nil {x:Str} (h:x∉j? T):Ch T a x []
 |cons {x:Str} {l:aE} (h:x∈j? T) (c:Ch T a (a x) l):Ch T a x (a x::l)
structure bt(T:List Th)(a:Str->Str):Prop where
 me:a (yN T)∈gk T
 hd:∀x∈j? T,a x∈nq T
 ch:∀x,∃l,Ch T a x l
section
variable{V:List Vb}
def acF(h:Ch T a x l):Ch T a x c->l=c:=by
 induction h generalizing c with
 |nil h=>intro b;cases b with
  |nil _=>rfl
  |cons b _=>exact ar b h
 |cons h _ e=>intro b;cases b with
  |nil b=>exact ar h b
  |cons _ d=>rw[e d]
def acG(h:Ch T a x l):∀y∈l,∃c,Ch T a y c/\c.length<l.length:=by
 induction h with
 |nil _=>intro y b;cases b
 |@cons x l h d i=>
  intro y b;rcases aJ.1 b with e|b
  .rw[e];exact#v[l,d,by rw[aS];omega]
  .obtain⟨c,f,j⟩:=i y b;exact#v[c,f,by rw[aS];omega]
def XE(h:Ch T a x l):x∉l:=λd=>by obtain⟨e,c,b⟩:=acG h x d;rw[acF h c]at b;exact fT _ b
def aeX(h:Ch T a x l):l.Nodup:=by
 induction h with
 |nil _=>exact m7
 |@cons x l h d b=>exact dO.2 #v[XE d,b]
def YQ(i:bt T a)(h:Ch T a x l):∀y∈l,y∈nq T:=by
 induction h with
 |nil _=>intro y b;cases b
 |@cons x l h d c=>
  intro y b;rcases aJ.1 b with e|b
  .rw[e];exact i.hd x h
  .exact c y b
theorem UY:∀{l L:aE},l.Nodup->(∀x∈l,x∈L)->l.length<=L.length
 |[],L,_,_=>bT _
 |a::l,L,b,d=>by rw[dO]at b;have c:=d a ba;have:=UY b.2 λz e=>(pA (show z≠a from λw=>b.1 (w▸e))).2 (d z (bb _ e));rw[oV c]at this;have:=ik c;rw[aS];omega
def Oz(g:ea T M b W)(i:bt T a)(h:Ch T a x l):l.length<=13:=by
 have c:=UY (aeX h) (YQ i h);have d:(nq T).length<=T.length:=by unfold nq;rw[af];exact cq _ _
 have:=g.len;omega
def XG(h:Ch T a w l):w≠x->x∉l->Ch T (K' a x b) w l:=by
 induction h with
 |nil h=>intro _ _;exact .nil h
 |@cons w l h d j=>intro i f;have e:K' a x b w=a w:=ak i;have c:=j (λz=>f (by rw[z];exact ba)) λz=>f (bb _ z);rw[<-e]at c ⊢;exact .cons h c
def bt.mv(g:ea T M dk W)(i:bt T a)(o:x∈j? T)(hb:b∈nq T)(hm:x=(yN T)->b∈gk T)(h1:b≠x)(j:Ch T a b f)(h2:x∉f):bt T (K' a x b) where
 me:=by
  unfold K';by_cases e:(yN T)=x
  .rw[aj e];exact hm e.symm
  .rw[ak e];exact i.me
 hd:=λy p=>by
  unfold K';by_cases e:y=x
  .rw[aj e];exact hb
  .rw[ak e];exact i.hd y p
 ch:=λw=>by
  have cx:Ch T (K' a x b) x (K' a x b x::f):=.cons o (by rw[show K' a x b x=b from aj O];exact XG j h1 h2);obtain⟨l,h⟩:=i.ch w
  induction h with
  |nil h=>exact#v[_,.nil h]
  |@cons w l h d q=>
   by_cases e:w=x
   .rw[e];exact#v[_,cx]
   .obtain⟨r,c⟩:=q;have m:K' a x b w=a w:=ak e;rw[<-m]at c;exact#v[_,.cons h c]
def PR(p:P.Perm (PT T M))(x:Str):Bl [sP P (va a m),.str x]=Z (if x∈j? T then .str (a x)else .O):=by
 refine vF O (vP (vm O ((M5 P (va a m) ("at", x)).t ?_)));congr 1;by_cases h:x∈j? T
 .rw[aj h,aj ((UV p x).2 h)];unfold va;rw[aj O]
 .rw[ak h,ak λz=>h ((UV p x).1 z)]
def Lw(p:P.Perm (PT T M))(x:Str):Ax [sP P (va a m),.str x]=Z (if x∈u2 T M then .int (m x)else .O):=by
 refine vF O (vP (vm O ((M5 P (va a m) ("mark", x)).t ?_)));congr 1;by_cases h:x∈u2 T M
 .rw[aj h,aj ((YN p x).2 h)];unfold va;rw[ak (show ¬("mark" : Str)="at" by decide)]
 .rw[ak h,ak λz=>h ((YN p x).1 z)]
def aD(T:List Th)(a:Str->Str)(x:Str):L4.D:=if x∈j? T then .str (a x)else .O
def Rv(p:P.Perm (PT T M))(w c:Sl)(h:Ch T a x l):∀(n:Nat) (b:List L4.D),l.length<n->b.length+l.length<=1000->
  whL (cT (c2 yc aG aN)) (a0 (v8 (Ae 3 aG)) (vI 4 (vq Bl k6))) n [w,.I (sP P (va a m)),c,.ls b,.I (aD T a x)]=Z (.nx [w,.I (sP P (va a m)),c,.ls (b++l.map D.str),.I .O]):=by
 let S:=sP P (va a m)
 induction h with
 |@nil x h=>
  intro n b e _;rw[show aD T a x=.O from ak h];cases n with
  |zero=>cases e
  |succ n=>rw[eh,bZ];rfl
 |@cons x l h d j=>
  intro n b e i;rw[show aD T a x=.str (a x) from aj h];rw[aS]at e i;cases n with
  |zero=>cases e
  |succ n=>
   have f:a0 (v8 (Ae 3 aG)) (vI 4 (vq Bl k6)) [w,.I S,c,.ls b,.I (.str (a x))]=Z (.nx [w,.I S,c,.ls (b++[.str (a x)]),.I (aD T a (a x))]):=by refine(vt (xH ((zB O O O (by omega))))).t ?_;exact(wN (vm O (PR p (a x)))).t O
   rw[aU];unfold whL;rw[show cT (c2 yc aG aN) [w,.I (sP P (va a m)),c,.ls b,.I (.str (a x))]=Z (γ,[w,.I S,c,.ls b,.I (.str (a x))]) from O];simp only[f];refine(j n (b++[.str (a x)]) (by omega) (by rw[aA,cR];omega)).t ?_;rw[cc];rfl
def Lx(p:P.Perm (PT T M))(w:L4.D)(h:Ch T a x l)(b:l.length<=13):yG [w,sP P (va a m),.str x]=Z (l.map D.str):=by let S:=sP P (va a m);refine z4 (ρ:=[.I w,.I S,.I (.str x),.un,.I .O]) O ?_;refine(vt O).t ?_;refine(vt ((wN (vm O (PR p x))))).t ?_;exact(vt (Rv p (.I w) (.I (.str x)) h 50 [] (by omega) (by simp;omega)))
def acH(p:P.Perm (PT T M))(h:Ch T a x l)(b:l.length<=13):Ug [wO T M d W V R c,sP P (va a m),.str x]=Z (.X (decide ((yN T)∈l))):=by refine vF O (vP (vp (v5 O O O O O) (wb (vm O (Lx p _ h b))) (zf δ _ _)))
def inv0(g:ea T M dk W):bt T (at0 T) where
 me:=by obtain⟨t,a,e,k⟩:=y_T g;obtain⟨q,h1,_,h2⟩:=PQ g a (by rw[k];exact λz=>by cases z);rw[<-e,Lv g.vf a,h1];exact h2 k
 hd:=λx b=>by obtain⟨t,a,rfl⟩:=aw.1 b;rw[aO]at a;obtain⟨q,h1,h2,_⟩:=PQ g a.1 (λz=>by rw[z]at a;exact ar a.2 (by decide));rw[Lv g.vf a.1,h1];exact h2
 ch:=λx=>by
  obtain⟨r,hr⟩:=g.rk;have:∀(n:Nat) (x:Str),r x<n->∃l,Ch T (at0 T) x l:=by
   intro n
   induction n with
   |zero=>intro x h;cases h
   |succ n c=>
    intro x h;by_cases b:x∈j? T
    .obtain⟨t,a,rfl⟩:=aw.1 b;rw[aO]at a;obtain⟨q,h1,_,_⟩:=PQ g a.1 (λz=>by rw[z]at a;exact ar a.2 (by decide));have e:at0 T t.n=q:=by rw[Lv g.vf a.1,h1];rfl
     have h2:=((hr t a.1).2 q h1).1;obtain⟨l,d⟩:=c q (by omega);rw[<-e]at d;exact#v[_,.cons b d]
    .exact#v[_,.nil b]
  exact this (r x+1) x (by omega)
end
def zZ(b:e ρ=Z (.X δ,a)):wM e c ρ=Z (.X δ,a):=by unfold wM;rw[b]
section
variable{V:List Vb}
structure u?(T:List Th)(M:List Mk)(dk:aE)(W:List Wy)(P:List Ky)(a:Str->Str):Prop where
 g:ea T M dk W
 p:P.Perm (PT T M)
 i:bt T a
def aeY(h:x∈nq T):∃t∈T,t.n=x/\t.k.hd=γ:=by obtain⟨t,a,e⟩:=aw.1 h;rw[aO]at a;exact#v[t,a.1,e,a.2]
def YR(g:ea T M b W)(a:t∈T):t.n∈u2 T M ↔ t.k.mk=γ:=by
 unfold u2;rw[aW,Lu g.vf _ a];constructor
 .rintro(h|h)
  .exact h
  .exact ar O ((cn.1 g.nd).2.2 _ (aw.2 #v[t,a,O]) _ h)
 .exact .inl
def PU(t:Th)(k:Kd):b? δ (.str t.k.s) (.str k.s)=Z (.X (decide (t.k=k))):=FQ t.k k
def XH(s:u? T M e W P a)(j:x∈nq T):∃b,zG [wO T M e W V R c,sP P (va a m),.str x]=Z (.X b):=by
 obtain⟨t,f,rfl,_⟩:=aeY j;let i:bh:=[.I (wO T M e W V R c),.I (sP P (va a m)),.I (.str t.n)];have d:c2 (b? δ) (c1 (vA wq "kind") (vR vV "thing_of" aa cv)) dU i=Z (.X (decide (t.k=.box)),i):=
  vp (we (v5 O O O O (zY s.g.vf f)) (BI t)) O (PU t .box)
 by_cases h:t.k=.box
 .rw[aY h]at d;refine#v[decide (m t.n=0),vF O (vP ((vN d).t (vp (vm O ((Lw s.p t.n).t (by rw[aj ((YR s.g f).2 (by rw[h];rfl))]))) O ?_)))];rw[x4];rfl
 .rw[aZ h]at d;exact#v[δ,vF O (vP (zZ d))]
def opn(b:Str->Bool)(h:Str):aE->Bool
 |[]=>δ
 |a::l=>if a=h then γ else if b a then δ else opn b h l
def UZ{b:Str->Bool}{h a:Str}{l:aE}:opn b h (a::l)=if a=h then γ else if b a then δ else opn b h l:=rfl
def oB:FS:=(a0 (en (cT (c2 (b? δ) aG au)) (vw dB) vz)
 (en (cT (vq zG oG)) (vw cg) vz))
theorem Kh{w st x:L4.D}{d:Str->Bool}(h:Str):∀(l:aE) (s:Sl),(∀a∈l,zG [w,st,.str a]=Z (.X (d a)))->∃j,f3 (gN 4) oB (l.map D.str) [.I w,.I st,.I x,.I (.str h),s]=Z (.rt (.X (opn d h l)) [.I w,.I st,.I x,.I (.str h),j])\/(opn d h l=δ/\f3 (gN 4) oB (l.map D.str) [.I w,.I st,.I x,.I (.str h),s]=Z (.nx [.I w,.I st,.I x,.I (.str h),j]))
 |[],s,_=>#v[s,.inr #v[O,O]]
 |a::l,s,o=>by
  let c:bh:=[.I w,.I st,.I x,.I (.str h),.I (.str a)];have e:cT (c2 (b? δ) aG au) c=Z (decide (a=h),c):=v7 (vp O O (xa δ a h));have f:cT (vq zG oG) c=Z (d a,c):=v7 (vm O (o a ba));rw[aU];unfold f3;rw[show gN 4 (.str a) [.I w,.I st,.I x,.I (.str h),s]=Z c from O];rw[UZ];by_cases i:a=h
  .rw[aY i]at e;rw[aj i];refine#v[.I (.str a),.inl ?_];have m:oB c=Z (.rt (.X γ) c):=vZ ((wt e));simp only[m];rfl
  .rw[aZ i]at e;rw[ak i];have m:oB c=_:=vt ((wU e));simp only[m];cases q:d a with
   |true=>rw[q]at f;refine#v[.I (.str a),.inl ?_];simp only[(wt f).t (O:vw cg c=Z (.rt (.X δ) c)),if_true];rfl
   |false=>rw[q]at f;obtain⟨j,g⟩:=Kh h l (.I (.str a)) λb p=>o b (bb _ p);refine#v[j,?_];simp only[(wU f).t (O:vz c=Z (.nx c)),gp,if_false];exact g
def Ly(s:u? T M j W P a)(x h:Str):∃b,zH [wO T M j W V R c,sP P (va a m),.str x,.str h]=Z (.X b):=by
 obtain⟨l,d⟩:=s.i.ch x;have r:∀y:Str,∃b:Bool,y∈nq T->zG [wO T M j W V R c,sP P (va a m),.str y]=Z (.X b):=λy=>by
  by_cases f:y∈nq T
  .obtain⟨b,e⟩:=XH s f;exact#v[b,λw=>e]
  .exact#v[δ,λz=>ar z f]
 refine#v[opn (λy=>(r y).choose) h l,?_];obtain⟨u,q⟩:=Kh h l .un λy f=>(r y).choose_spec (YQ s.i d y f);have o:=wb (vm (a:=ax aa cu) (ρ:=[.I (wO T M j W V R c),.I (sP P (va a m)),.I (.str x),.I (.str h),.un]) O (Lx s.p _ d (Oz s.g s.i d)));rcases q with q|⟨t,q⟩
 .exact vF O (vZ ((yO (Dm o)).t q))
 .rw[t];exact vF O ((vt ((yO (Dm o)).t q)))
def LA(s:u? T M b W P a):Ay [wO T M b W V R c,sP P (va a m)]=Z (.str (a (yN T))):=
 vF O (vP (vm (vn O (vn (v5 O O O O O) O)) ((PR s.p (yN T)).t (by rw[aj (YM s.g)]))))
def U0(s:u? T M e W P a)(j:t∈T)(i:t.k=.lamp)(r:Str):∃b,AX [wO T M e W V R c,sP P (va a m),.str t.n,.str r]=Z (.X b):=by
 let f:bh:=[.I (wO T M e W V R c),.I (sP P (va a m)),.I (.str t.n),.I (.str r)];have d:c2 (b? δ) (vq Ax cu) ay f=Z (.X (decide (m t.n=1)),f):=vp (vm O ((Lw s.p t.n).t (by rw[aj ((YR s.g j).2 (by rw[i];rfl))]))) O (by rw[x4];rfl);obtain⟨b,h⟩:=Ly s t.n r;cases q:decide (m t.n=1)with
 |true=>rw[q]at d;exact#v[b,vF O (vP ((vN d).t (vm O h)))]
 |false=>rw[q]at d;exact#v[δ,vF O (vP (zZ d))]
def U1(s:u? T M d W P a):∃b,FK [wO T M d W V R c,sP P (va a m)]=Z (.X b):=by
 let w:=wO T M d W V R c;let r:=a (yN T);let S:=sP P (va a m);let i:bh:=[.I w,.I S,.I (.str r)];have p:vI 2 (vq Ay cI) [.I w,.I S,.un]=Z (.nx i):=(wN (vm O (LA s))).t O;have j:w9 (cT (vR zK "is_dark" aa cv)) i=Z (!decide (r∈d),i):=yC (v7 (v5 O O O O (vF O (vP (vp O O (zf δ r d))))));cases q:decide (r∈d)with
 |false=>rw[q]at j;exact#v[γ,vF O ((vt p).t (vZ ((wt j))))]
 |true=>
  rw[q]at j;have x:=s.g.len;let L:=T.filter λt=>decide (t.k=.lamp);have o:∀t:Th,∃b:Bool,t∈L->AX [w,S,.str t.n,.str r]=Z (.X b):=λt=>by
   by_cases l:t∈L
   .have h:=aO.1 l;obtain⟨b,e⟩:=U0 s h.1 (bj h.2) r;exact#v[b,λy=>e]
   .exact#v[δ,λz=>ar z l]
  have u:vy 1 [0,1,2] (iL (vR yP "of_kind" aa (a1 fZ))) (gN 0) wG (vq AX tD) i=Z (L.map λt=>D.X (o t).choose,i):=by have f:L.length<=1000:=bz (cq _ _) (by omega);exact xw (λt:Th=>D.str t.n) (λt=>D.X (o t).choose) L (Dm (v5 O O O O (Jb T (by omega) _ _ .lamp))) f λt l=>#v[[.I (.str t.n),.I w,.I S,.I (.str r)],[.I (.str t.n),.I w,.I S,.I (.str r)],O,vm O ((o t).choose_spec l),O]
  exact#v[_,vF O ((vt p).t ((vt ((wU j))).t (vP (we (wb u) (Pg _ _)))))]
def LB(s:u? T M l W P a)(x:t∈T):∃b,xx [wO T M l W V R c,sP P (va a m),.str t.n]=Z (.X b):=by
 let w:=wO T M l W V R c;let S:=sP P (va a m);let d:bh:=[.I w,.I S,.I (.str t.n),.I (ey t)];have f:vI 3 (vR vV "thing_of" aa cv) [.I w,.I S,.I (.str t.n),.un]=Z (.nx d):=(wN (v5 O O O O (zY s.g.vf x))).t O;have e:xC (cT (c2 zw au aN)) (w9 (cT (vR wL "is_plainly" au vO))) d=Z (!t.k.pl,d):=yM O (yC (v7 (v5 O O O O (FR t))));obtain⟨i,q⟩:=Ly s t.n (yN T);obtain⟨j,r⟩:=Ly s t.n (a (yN T));obtain⟨y,u⟩:=U1 s;have h:cT (vq zH sQ) d=Z (i,d):=v7 (vm (vn O (vn O (vn O (vn (v5 O O O O O) O)))) q);have o:vq zH tu d=Z (.X j,d):=vm (vn O (vn O (vn O (vn (vm O (LA s)) O)))) r;cases p:t.k.pl with
 |false=>rw[p]at e;exact#v[_,vF O ((vt f).t (vZ ((wt e))))]
 |true=>
  rw[p]at e;cases i with
  |true=>exact#v[_,vF O ((vt f).t ((vt ((wU e))).t (vZ ((wt h)))))]
  |false=>
   cases j with
   |true=>exact#v[_,vF O ((vt f).t ((vt ((wU e))).t ((vt ((wU h))).t (vP ((vN o).t (vm O u))))))]
   |false=>exact#v[_,vF O ((vt f).t ((vt ((wU e))).t ((vt ((wU h))).t (vP (zZ o)))))]
def XI(S:L4.D):xx [wO T M a W V R c,S,.O]=Z (.X δ):=by let w:=wO T M a W V R c;let d:bh:=[.I w,.I S,.I .O,.I .O];have b:vI 3 (vR vV "thing_of" aa cv) [.I w,.I S,.I .O,.un]=Z (.nx d):=(wN (v5 O O O O (by rfl))).t O;exact vF O ((vt b).t (vZ ((wt O))))
end
section
variable{V:List Vb}
def nf(v:Vb):Str×Str:=(v.n,v.f)
def U'(W:List Wy):aE:=wZ (tX (W.map Wy.w))
theorem YS:∀(l acc:aE),(l.foldl (λacc k=>if k∈acc then acc else acc++[k]) acc).length<=acc.length+l.length
 |[],acc=>aH _
 |x::l,acc=>by
  rw[jf,aS];refine bz (YS l (if x∈acc then acc else acc++[x])) ?_;split
  .omega
  .rw[aA,cR];omega
def PV(g:ea T M a W):(U' W).length<=8:=by show (wZ (tX (W.map Wy.w))).length<=8;rw[show (wZ (tX (W.map Wy.w))).length=_ from(dq _ sm).length_eq];have:=YS (W.map Wy.w) [];rw[af]at this;exact bz this (by rw[du,iB];exact g.w8)
def PX(hW:W.length<=60):Bj [wO T M b W V R c]=Z (.a3 ((U' W).map D.str)):=by let a:bh:=[.I (wO T M b W V R c)];refine Bt (ρ:=a) O (xB ?_);have e:cL (vy 1 [] (iL (c1 (vA Bu "kept_ways") aa)) (gN 0) wG (c2 b1 aa ay)) a=Z (.a3 ((W.map Wy.w).map D.str),a):=(wb (xw m5 (λw=>.str w.w) W O (by omega) λw y=>#v[[.I (m5 w)],[.I (m5 w)],O,O,O])).t (by rw[aX];rfl);show p' _ a=_;unfold p';rw[e];dsimp only;rw[Ca];dsimp only;rw[aj (by rw[af];omega)];rfl
def n9(T:List Th):aE:=(T.filter λt=>t.k.pl).map Th.n
def Ki(T:List Th)(b:T.length<=13):Eo [wO T M a W V R c]=Z (.a3 (T.map λt=>.str t.n)):=by exact Bt O (xB (xw ey (λt=>.str t.n) T O (by omega) λt y=>#v[[.I (ey t)],[.I (ey t)],O,O,O]))
def GO(e:f ρ=Z (.rn b a)):a0 f h ρ=Z (.rn b a):=by unfold a0;rw[e]
def obF(N c:aE)(f:Str):List (L4.D×L4.D):=if f="alone" then [(.O,.O)]else if f="way" then c.map λx=>(.str x,.O)else if f="one" then N.map λx=>(.str x,.O)else N.flatMap λa=>N.map λb=>(.str a,.str b)
def p2(q:L4.D×L4.D):L4.D:=.a7 [q.1,q.2]
def p3(v:Str)(q:L4.D×L4.D):L4.D:=.a7 [.str v,q.1,q.2]
theorem PY(N:aE)(hN:N.length<=7):∀l:aE,(l.flatMap λa=>N.map λb=>(D.str a,D.str b)).length<=7 * l.length
 |[]=>aH _
 |a::l=>by rw[fO,aA,af,aS];have:=PY N hN l;omega
def acI{N a:aE}(hN:N.length<=7)(hD:a.length<=8)(f:Str):(obF N a f).length<=49:=by
 unfold obF;split
 .decide
 .split
  .rw[af];omega
  .split
   .rw[af];omega
   .have:=PY N hN N;omega
theorem M8{x:Sl}(N:aE)(hN:N.length<=7):∀(l:aE) (acc:List (L4.D×L4.D)) (s:Sl),acc.length+7 * l.length<=900->∃d,f3 (gN 4) (v8 (Ii 3 (vy 1 [4] (iL ai) (gN 0) wG (vM fI)))) (l.map D.str) [a,b,.I (.a3 (N.map D.str)),.ls (acc.map p2),s]=Z (.nx [a,b,.I (.a3 (N.map D.str)),.ls ((acc++l.flatMap λa=>N.map λb=>(D.str a,D.str b)).map p2),d])
 |[],acc,s,_=>#v[s,by rw[List.flatMap_nil,bZ];rfl]
 |y::l,acc,s,i=>by rw[aS]at i;let Q:Sl:=.I (.a3 (N.map D.str));let Y:Sl:=.I (.str y);let nw:List (L4.D×L4.D):=N.map λb=>(D.str y,D.str b);obtain⟨d,e⟩:=M8 (x:=x) N hN l (acc++nw) Y (by rw[aA];show acc.length+(N.map _).length+7 * l.length<=900;rw[af];omega);refine#v[d,?_];rw[aU];unfold f3;let c:bh:=[a,b,Q,.ls (acc.map p2),Y];rw[show gN 4 (.str y) [a,b,Q,.ls (acc.map p2),s]=Z c from O];have h:vy 1 [4] (iL ai) (gN 0) wG (vM fI) c=Z (nw.map p2,c):=(xw D.str (λz=>.a7 [.str y,.str z]) N O (by omega) λz w=>#v[[.I (.str z),Y],[.I (.str z),Y],O,O,O]).t (by show _=Z ((N.map _).map p2,c);rw[aX];rfl);have f:v8 (Ii 3 (vy 1 [4] (iL ai) (gN 0) wG (vM fI))) c=Z (.nx [a,b,Q,.ls ((acc++nw).map p2),Y]):=(xH (S5 O h O (by rw[af,af];show acc.length+(N.map _).length<=1000;rw[af];omega))).t (by rw[aV];rfl);simp only[f];rw[e,fO,cc]
def OA(g:ea T M b W)(h:f∈k3):yI [wO T M b W V R c,.str f]=Z ((obF (n9 T) (U' W) f).map p2):=by
 have j:=g.len;let w:=wO T M b W V R c;have lN:(n9 T).length<=7:=by unfold n9;rw[af];exact g.p7
 have ld:=PV g;have nms:∀F:Sl,vy 1 [0] (iL (vR yy "names" aa vO)) (gN 0) (cT (vR wL "is_plainly" (vR vV "thing_of" ag bI) vO)) aa [.I w,F,.un,.un,.un]=Z ((n9 T).map D.str,[.I w,F,.un,.un,.un]):=λF=>by
  let a:bh:=[.I w,F,.un,.un,.un];refine(xl (λt:Th=>D.str t.n) (λt=>.str t.n) (λt=>t.k.pl) T ?_ (by omega) λt l=>#v[[.I (.str t.n),.I w],[.I (.str t.n),.I w],O,?_,λy=>#v[_,O,O],λy=>O]).t (by unfold n9;rw[aX];rfl)
  .unfold iL;rw[v5 O O O O (Ki T j)]
  .have d:xS [w,.str t.n]=Z ((xj (nK T) (T.map ey) (kS t.n)).getD .O):=by kernel_rfl
   rw[FW g.vf ey l]at d;refine v7 (v5 ?_ O O O (FR t));exact v5 O O O O d
 let NL:Sl:=.I (.a3 ((n9 T).map D.str));have i:∀F:Sl,vI 2 (cL (vy 1 [0] (iL (vR yy "names" aa vO)) (gN 0) (cT (vR wL "is_plainly" (vR vV "thing_of" ag bI) vO)) aa)) [.I w,F,.un,.un,.un]=Z (.nx [.I w,F,NL,.un,.un]):=λF=>(wN (wb (nms F)));simp only[k3,aJ,bU,or_false]at h;rcases h with rfl|rfl|rfl|rfl
 .let a:bh:=[.I w,.I (.str "one"),NL,.un,.un];refine z4 (ρ:=a) O ?_;unfold yH;refine(xg O).t ((xg O).t ((vt (i _)).t (GO ((wt O).t (xB ((xw D.str (λx=>.a7 [.str x,.O]) (n9 T) O (by omega) λx y=>#v[[.I (.str x)],[.I (.str x)],O,O,O]).t ?_))))));show _=Z (((n9 T).map λx=>(D.str x,D.O)).map p2,a);rw[aX];rfl
 .obtain⟨m,e⟩:=M8 (x:=.un) (n9 T) lN (n9 T) [] .un (by simp;omega);refine z4 (ρ:=[.I w,.I (.str "two"),NL,.un,m]) O ?_;unfold yH;refine(xg O).t ((xg O).t ((vt (i _)).t ((xg O).t ((vt O).t ((vt ((yO O).t e)).t ?_)))));rfl
 .refine z4 (ρ:=[.I w,.I (.str "alone"),.un,.un,.un]) O ?_;unfold yH;exact GO ((wt O))
 .let a:bh:=[.I w,.I (.str "way"),.un,.un,.un];refine z4 (ρ:=a) O ?_;unfold yH;refine(xg O).t (GO ((wt O).t (xB ((xw D.str (λx=>.a7 [.str x,.O]) (U' W) (ρ1:=a) ?_ (by omega) λx y=>#v[[.I (.str x)],[.I (.str x)],O,O,O]).t ?_))))
  .show iL _ a=_;unfold iL;rw[v5 O O O O (PX (bz g.w8 (by decide)))]
  .show _=Z (((U' W).map λx=>(D.str x,D.O)).map p2,a);rw[aX];rfl
end
def cmV(N a:aE)(v:Str×Str):List L4.D:=(obF N a v.2).map (p3 v.1)
def cmA(N a:aE)(Q:List (Str×Str)):List L4.D:=Q.flatMap (cmV N a)
section
variable{V:List Vb}
theorem PZ(g:ea T M a W):∀(L:List Vb) (acc:List L4.D) (s:Sl),(∀v∈L,v.f∈k3)->acc.length+49 * L.length<=900->∃d,f3 (gN 2) (v8 (Ii 1 (vy 2 [2] (iL (cL (wm yI kQ))) (gT kE 2) wG (vM kZ)))) (L.map k4) [.I (wO T M a W V R c),.ls acc,s]=Z (.nx [.I (wO T M a W V R c),.ls (acc++cmA (n9 T) (U' W) (L.map nf)),d])
 |[],acc,s,_,_=>#v[s,by show _=Z (B'.nx [_,.ls (acc++[]),s]);rw[bZ];rfl]
 |v::L,acc,s,h,l=>by
  rw[aS]at l;have lN:(n9 T).length<=7:=by unfold n9;rw[af];exact g.p7
  have lo:=acI lN (PV g) v.f;let w:=wO T M a W V R c;let nw:List L4.D:=cmV (n9 T) (U' W) (nf v);have o:nw.length<=49:=by show (c5 _ _).length<=49;rw[af];exact lo
  obtain⟨d,e⟩:=PZ g L (acc++nw) (.I (k4 v)) (λu m=>h u (bb _ m)) (by rw[aA];omega);refine#v[d,?_];rw[aU];unfold f3;let b:bh:=[.I w,.ls acc,.I (k4 v)];rw[show gN 2 (k4 v) [.I (wO T M a W V R c),.ls acc,s]=Z b from O];have j:vy 2 [2] (iL (cL (wm yI kQ))) (gT kE 2) wG (vM kZ) b=Z (nw,b):=by refine xw p2 (p3 v.n) (obF (n9 T) (U' W) v.f) ?_ (by omega) λq y=>#v[[.I q.1,.I q.2,.I (k4 v)],[.I q.1,.I q.2,.I (k4 v)],O,O,O];unfold iL;rw[wb (vm O (OA g (h v ba)))]
  have i:v8 (Ii 1 (vy 2 [2] (iL (cL (wm yI kQ))) (gT kE 2) wG (vM kZ))) b=Z (.nx [.I w,.ls (acc++nw),.I (k4 v)]):=(xH (S5 O j O (by omega)));simp only[i];rw[e,cc];rfl
def U2(b:∀v∈V,v∈v6):∀v∈V++v9,v.f∈k3:=λv a=>YK (by
 rcases aW.1 a with a|a
 .exact bJ _ (b v a)
 .exact bB _ a)
def M9(g:ea T M a W)(b:∀v∈V,v∈v6)(lV:V.length<=6):ET [wO T M a W V R c]=Z (cmA (n9 T) (U' W) ((V++v9).map nf)):=by
 let w:=wO T M a W V R c;have d:(V++v9).length<=15:=by rw[aA];show V.length+9<=15;omega
 obtain⟨f,e⟩:=PZ g (V++v9) [] .un (U2 b) (by simp only[du];omega);refine z4 (ρ:=[.I w,.un,f]) O ?_;unfold ES;refine(vt (ρ':=[.I w,.ls [],.un]) O).t ((vt ((yO ?_).t e)));unfold iL;rw[v5 O O O O (FZ V lV _ _ _ _ _ _)]
end
def q3(v:Str)(x y:Option Str):L4.D:=.a7 [.str v,oS x,oS y]
def Cm(T:List Th)(W:List Wy)(v:Vb)(x y:Option Str):Prop:=(v.f="one" /\ ∃n∈n9 T,x=Z n/\y=U)\/(v.f="two" /\ ∃n∈n9 T,∃k∈n9 T,x=Z n/\y=Z k)\/(v.f="alone" /\ x=U/\y=U)\/(v.f="way" /\ ∃d∈U' W,x=Z d/\y=U)
def thO(v:Vb)(x y:Option Str):List (Option Str):=if v.f="way" then [U,U]else [x,y]
section
variable{V:List Vb}
def OB(h:e r=Z (wO T M f W V R c,a))(i:g 14=Z p)(j:wNs.contains k=δ)(m:l a=Z (q,b))(o:p (wO T M f W V R c::q)=Z d):vR g k e l r=Z (d,b):=v5 h i j m o
def Na(h:q b=Z (δ,a)):mq q f g b=g a:=by unfold mq;rw[h]
def P1(b:((V++v9).flatMap Vb.ws).Nodup)(a:v∈V++v9):yf [wO T M d W V R c,.str v.n]=Z (k4 v):=xT O (wy (vv (vp O O (Lj b a)) O))
def U3(b:((V++v9).flatMap Vb.ws).Nodup)(a:v∈V++v9)(x y:Option Str):Bn [wO T M d W V R c,q3 v.n x y]=Z (.X (decide (v.f="way"))):=xT O (vx (vQ (vv ((Na O).t (OB O O O O (P1 b a))) (wy (vv ((vN O).t (vp O O (xa δ v.f "way"))) O)))))
def Kj(b:((V++v9).flatMap Vb.ws).Nodup)(a:v∈V++v9)(x y:Option Str):xu [wO T M dk W V R c,q3 v.n x y]=Z (.a7 ((thO v x y).map oS)):=xT O (vx (Ll (vv (yM O (v7 (vm O (U3 b a x y)))) #v[λh=>wy (vv O (by unfold thO;rw[aj (bj h)];rfl)),λh=>Ab O (wy (vv O (by unfold thO;rw[ak (of_decide_eq_false h)];rfl)))])))
def m_it(h:xu [w,q]=Z (.a7 [oS x,oS y])):xb [w,S,q,.str "it"]=Z (oS x):=xT O (e4 O (m? O (wy (vv (vp (vm O h) O O) O))))
def XJ(h:xu [w,q]=Z (.a7 [oS x,oS y])):xb [w,S,q,.str "other"]=Z (oS y):=xT O (e4 O (e4 O (m? O (wy (vv (vp (vm O h) O O) O)))))
def acJ(s:u? T M b W P a)(q:L4.D):xb [wO T M b W V R c,sP P (va a m),q,.str "here"]=Z (.str (a (yN T))):=xT O (m? O (wy (vv (vm O (LA s)) O)))
def Jj(w S q:L4.D){x:Str}(h:Nm x):xb [w,S,q,.str x]=Z (.str x):=by have all:=aK.1 (show (υ.all λx=>!decide (x="here")&&!decide (x="it")&&!decide (x="other"))=γ by kernel_rfl) x h;simp only[aT,c7,decide_eq_false_iff_not]at all;have e:∀t:Str,¬x=t->cT (c2 (b? δ) au (cC (.str t))) [.I w,.I S,.I q,.I (.str x)]=Z (δ,[.I w,.I S,.I q,.I (.str x)]):=λt a=>v7 (vp O O ((xa δ x t).t (by rw[aZ a];rfl)));exact xT O (e4 (e _ all.1.1) (e4 (e _ all.1.2) (e4 (e _ all.2) (wy (vv O O)))))
def XM(m:((V++v9).flatMap Vb.ws).Nodup)(l:v∈V++v9)(d:Cm T W v x y)(S:L4.D)(h:By v.f t):∃z∈n9 T,xb [wO T M dk W V R c,S,q3 v.n x y,.str t]=Z (.str z):=by
 have a:=Kj (T:=T) (M:=M) (dk:=dk) (W:=W) (R:=R) (c:=c) m l x y;have nw:∀f:Str,f∈(["one", "two"]:aE)->v.f=f->xu [wO T M dk W V R c,q3 v.n x y]=Z (.a7 [oS x,oS y]):=λf i e=>by unfold thO at a;rw[ak (show ¬v.f="way" from by rw[e];intro z;rw[z]at i;exact ar i (by decide))]at a;exact a
 rcases h with ⟨rfl,h⟩|⟨rfl,h⟩
 .have a:=nw _ h O;rcases d with ⟨_,n,b,rfl,rfl⟩|⟨_,n,b,k,j,rfl,rfl⟩|⟨e,_⟩|⟨e,_⟩
  .exact#v[n,b,m_it a]
  .exact#v[n,b,m_it a]
  .rw[e]at h;exact ar h (by decide)
  .rw[e]at h;exact ar h (by decide)
 .have a:=nw "two" (by decide) h;rcases d with ⟨e,_⟩|⟨_,n,b,k,j,rfl,rfl⟩|⟨e,_⟩|⟨e,_⟩
  .rw[e]at h;exact ar h (by decide)
  .exact#v[k,j,XJ a]
  .rw[e]at h;exact ar h (by decide)
  .rw[e]at h;exact ar h (by decide)
def U4(g:ea T M a W)(h:z∈T.map Th.n):Nm z:=g.nm _ (bJ _ h)
set_option r "pl_T n9;Nc nq;U5 gk" in def ϑ0(h:z∈ϑ1 T):z∈T.map Th.n:=by obtain⟨t,a,rfl⟩:=aw.1 h;exact aw.2 #v[t,(aO.1 a).1,O]
def m_tm(s:u? T M b W P a)(o:((V++v9).flatMap Vb.ws).Nodup)(j:v∈V++v9)(d:Cm T W v x y)(hN:∀z∈N,z∈T.map Th.n)(h:Tm v.f N t):∃z∈T.map Th.n,xb [wO T M b W V R c,sP P (va a m),q3 v.n x y,.str t]=Z (.str z):=by
 rcases h with h|rfl|h
 .exact#v[t,hN t h,Jj _ _ _ (U4 s.g (hN t h))]
 .exact#v[_,U5 s.i.me,acJ s _]
 .obtain⟨z,l,e⟩:=XM o j d (sP P (va a m)) h;exact#v[z,pl_T l,e]
def Hold(k:Nat)(w S q t:L4.D)(b:Bool):Prop:=∃j c d a,t=.obj j c d/\wz k j=Z a/\c.contains "holds" = δ/\a [t,w,S,q]=Z (.X b)
def Rw(s:u? T M H W P a)(nd:((V++v9).flatMap Vb.ws).Nodup)(hv:v∈V++v9)(X:Cm T W v x y)(h:Ts T M v.f n t):∀k,n<=k->∃b,Hold k (wO T M H W V R c) (sP P (va a m)) (q3 v.n x y) t b:=by
 have B:∀{N:aE},(∀z∈N,z∈T.map Th.n)->∀{t:Str},Tm v.f N t->∃u∈T,xb [wO T M H W V R c,sP P (va a m),q3 v.n x y,.str t]=Z (.str u.n):=λhN _ h=>by obtain⟨z,A,e⟩:=m_tm s nd hv X hN h;obtain⟨u,G,rfl⟩:=aw.1 A;exact#v[u,G,e]
 induction h with
 |@ats n t1 t2 q hb=>
  intro k _;obtain⟨z,A,o⟩:=B (λ_ h=>h) q;obtain⟨u,G,eu⟩:=B (λ_ h=>Nc h) hb;have e:=PR (a:=a) (m:=m) s.p z.n;by_cases r:z.n∈j? T
  .rw[aj r]at e;exact#v[_,3,_,_,EN,O,by cases k<;>rfl,O,xT O (vx (vQ (vv (vm O o) (vx (vQ (vv (vm O e) (wy (vv ((vN O).t (vp O (vm O eu) (xa δ _ _))) O))))))))]
  .rw[ak r]at e;exact#v[δ,3,_,_,EN,O,by cases k<;>rfl,O,xT O (vx (vQ (vv (vm O o) (vx (vQ (vv (vm O e) (wy (vv (zZ O) O))))))))]
 |@has n t1 q=>intro k _;obtain⟨z,A,o⟩:=B (λ_ h=>h) q;obtain⟨l,ch⟩:=s.i.ch z.n;exact#v[_,4,_,_,Hl,O,by cases k<;>rfl,O,xT O (wy (vv (vm (vn O (vn O (vn (vm O o) O))) (acH s.p ch (Oz s.g s.i ch))) O))]
 |@seen n t1 q=>intro k _;obtain⟨z,A,o⟩:=B (λ_ h=>h) q;obtain⟨b,I⟩:=LB s A;exact#v[b,5,_,_,FM,O,by cases k<;>rfl,O,xT O (wy (vv (vm (vn O (vn O (vn (vm O o) O))) I) O))]
 |@mark n p val w=>
  intro k _;obtain⟨z,o⟩:∃z,xb [wO T M H W V R c,sP P (va a m),q3 v.n x y,.str p.1]=Z (.str z):=by
   rcases w with w|⟨w,_⟩
   .exact#v[_,Jj _ _ _ (Uu s.g w)]
   .obtain⟨z,_,e⟩:=XM nd hv X (sP P (va a m)) w;exact#v[z,e]
  have e:=Lw (a:=a) (m:=m) s.p z;by_cases r:z∈u2 T M
  .rw[aj r]at e;exact#v[_,6,_,_,AY,O,by cases k<;>rfl,O,xT O (vx (vQ (vv (vm (vn O (vn (vm O o) O)) e) (wy (vv ((vN O).t (vp O O (x4 _ _ _))) O)))))]
  .rw[ak r]at e;exact#v[δ,6,_,_,AY,O,by cases k<;>rfl,O,xT O (vx (vQ (vv (vm (vn O (vn (vm O o) O)) e) (wy (vv (zZ O) O)))))]
 |@kind n t1 kk q=>intro k _;obtain⟨u,G,o⟩:=B (λ_ h=>h) q;exact#v[_,7,_,_,FN,O,by cases k<;>rfl,O,xT O (vx (vQ (vv (OB O O O (vn (vm O o) O) (zY s.g.vf G)) (wy (vv ((vN O).t (vp O O (xa _ _ _))) O)))))]
 |@word n d Y=>
  intro k _;obtain⟨z,rfl⟩:∃z,x=Z z:=by
   rcases X with ⟨e,_⟩|⟨e,_⟩|⟨e,_⟩|⟨_,d,_,rfl,_⟩
   iterate 3 rw[e]at Y;exact ar Y (by decide)
   exact#v[d,O]
  exact#v[_,8,_,_,FP,O,by cases k<;>rfl,O,xT O (wy (vv ((vN (vm O ((U3 nd hv (Z z) y).t (by rw[aY Y])))).t (vp O O (xa _ _ _))) O))]
 |@lit n=>intro k _;obtain⟨b,I⟩:=U1 s;exact#v[b,15,_,_,Hm,O,by cases k<;>rfl,O,xT O (wy (vv (vm O I) O))]
 |@no n d h ih=>intro k hk;obtain⟨k,rfl⟩:∃j,k=j+1:=#v[k - 1,by omega];obtain⟨b,j,ns,ds,hh,rfl,C,E,F⟩:=ih k (by omega);exact#v[!b,9,["inner"],_,dr 4 4 (zV (wz k)),O,O,O,xT O (wy (vv (Lg (v5 O C E O F)) O))]
 |@bo n d e h h' ih ih'=>
  intro k hk;obtain⟨k,rfl⟩:∃j,k=j+1:=#v[k - 1,by omega];obtain⟨b,j,ns,ds,hh,rfl,C,E,F⟩:=ih k (by omega);obtain⟨b',j',ns',ds',hh',rfl,J,Q,S⟩:=ih' k (by omega);refine#v[b&&b',10,["one", "other"],_,dr 4 4 (zr (wz k)),O,O,O,xT O (wy ?_)];cases b with
  |true=>exact vv ((vN (v5 O C E O F)).t (v5 O J Q rfl S)) O
  |false=>exact vv (zZ (v5 O C E O F)) O
end
section
variable{V:List Vb}
def u?.len(s:u? T M b W P a):P.length<=900:=by have:=(Ox s.g).2;rw[s.p.length_eq];omega
def ae2{x:Str}(h:x∈j? T):∃t∈T,t.n=x/\¬t.k=.room:=by obtain⟨t,a,e⟩:=aw.1 h;rw[aO]at a;exact#v[t,a.1,e,λz=>by rw[z]at a;exact ar a.2 (by decide)]
def U6(s:Str)(x:Str):b? γ (.a3 [kD (s,x)]) (.a3 [])=Z (.X γ):=by rfl
def Nd(g:ea T M b W){x:Str}(h:x∈j? T):EL [wO T M b W V R c,.str x]=Z (.a3 [kD ("at", x)]):=by obtain⟨t,j,rfl,i⟩:=ae2 h;let w:=wO T M b W V R c;let a:bh:=[.I w,.I (.str t.n),.I (ey t)];have d:vI 2 (vR vV "thing_of" aa bQ) [.I w,.I (.str t.n),.un]=Z (.nx a):=(wN (v5 O O O O (zY g.vf j))).t O;have e:cT (c2 (b? δ) (c1 (vA wq "kind") ai) cz) a=Z (δ,a):=v7 (vp (we O (BI t)) O ((PU t .room).t (by rw[aZ i])));have f:xC (cT (c2 zw ai aN)) (cT (c2 (b? δ) (c1 (vA wq "kind") ai) cz)) a=Z (δ,a):=yM O e;refine vF (ρ:=a) O ((vt d).t (vP ?_));unfold mq;rw[f];rfl
def Rx(g:ea T M d W){x:Str}{t:Th}(i:x∈j? T)(h:t∈T):FL [wO T M d W V R c,.str x,.str t.n]=Z (.X (t.k.hd&&!decide (t.n=x))):=by
 let w:=wO T M d W V R c;let a:bh:=[.I w,.I (.str x),.I (.str t.n),.I (ey t)];have f:vI 3 (vR vV "thing_of" aa cv) [.I w,.I (.str x),.I (.str t.n),.un]=Z (.nx a):=(wN (v5 O O O O (zY g.vf h))).t O;have b:vR wR "can_hold" au vO a=Z (.X t.k.hd,a):=v5 O O O O (Le t);refine vF (ρ:=a) O ((vt f).t (vP ((vN (vp (vm O (Nd g i)) O (U6 _ _))).t ((vN O).t ?_))));cases e:t.k.hd with
 |true=>rw[e]at b;exact(vN b).t (vp O O (by rw[xa];rfl))
 |false=>rw[e]at b;exact zZ b
def Done(w S q d:L4.D)(o:L4.D):Prop:=∃k b c a,d=.obj k b c/\CL k=Z a/\b.contains "done" = δ/\a [d,w,S,q]=Z o
def stO(P:List Ky):Option ((Str->Str)×(Str->Int))->L4.D
 |none=>.O
 |some q=>sP P (va q.1 q.2)
def P2(s:u? T M e W P a)(I:Mr T M m){q:L4.D}{t d x:Str}{u:Th}(C:x∈j? T)(A:u∈T)(H:x=(yN T)->u.k=.room)(F:xb [wO T M e W V R c,sP P (va a m),q,.str t]=Z (.str x))(G:xb [wO T M e W V R c,sP P (va a m),q,.str d]=Z (.str u.n)):
  ∃o,Done (wO T M e W V R c) (sP P (va a m)) q (T1 t d) (stO P o)/\∀p,o=Z p->bt T p.1/\Mr T M p.2:=by
 let w:=wO T M e W V R c;let S:=sP P (va a m);obtain⟨l,h⟩:=s.i.ch u.n;let b:bh:=[.I (T1 t d),.I w,.I S,.I q,.I (.str x),.I (.str u.n)];have j:cT (vq FL (ax ag oA)) b=Z (u.k.hd&&!decide (u.n=x),b):=v7 (vm O (Rx s.g C A));have E:cT (c2 (j2 δ) aG (cL (wm yG kR))) b=Z (decide (x∈l),b):=v7 (vp O (wb (vm O (Lx s.p _ h (Oz s.g s.i h)))) (zf δ _ _));have y:∀f:FS,a0 (vI 4 (vq xb hX)) (a0 (vI 5 (vq xb oe)) f) [.I (T1 t d),.I w,.I S,.I q,.un,.un]=f b:=λf=>(vt ((wN (vm O F)))).t (vt ((wN (vm O G)).t O))
 cases k:u.k.hd&&!decide (u.n=x)with
 |false=>rw[k]at j;exact#v[U,#v[11,_,_,Bo,O,O,O,vF O ((y _).t (vZ ((wt (MX (yC j))))))],λp z=>by cases z]
 |true=>
  rw[k]at j;rw[aT,c7,decide_eq_false_iff_not]at k;have r:=yM (yC j) E;cases B:decide (x∈l)with
  |true=>rw[B]at r;exact#v[U,#v[11,_,_,Bo,O,O,O,vF O ((y _).t (vZ ((wt r))))],λp z=>by cases z]
  |false=>rw[B]at r;refine#v[Z (K' a x u.n,m),#v[11,_,_,Bo,O,O,O,vF O ((y _).t ((xg r).t (vP (vm O ((PN P s.len (va a m) ("at", x) (.str u.n)).t (by rw[aeV];rfl))))))],λp z=>?_];cases z;exact#v[s.i.mv s.g C (aw.2 #v[u,aO.2 #v[A,k.1],O]) (λz=>aw.2 #v[u,aO.2 #v[A,aY (H z)],O]) k.2 h (of_decide_eq_false B),I]
theorem U7{c:Type}(kf:c->d?)(b:c->Int)(k:d?):∀l:List c,(xj (l.map kf) (l.map λa=>D.int (b a)) k).getD .O=.O\/∃z,(xj (l.map kf) (l.map λa=>D.int (b a)) k).getD .O=.int z
 |[]=>.inl O
 |a::l=>by
  rw[aU,aU];unfold xj;split
  .exact .inr #v[b a,O]
  .exact U7 kf b k l
def U8(s:u? T M y W P a)(X:Mr T M m)(A:xb [wO T M y W V R c,sP P (va a m),q,.str t]=Z (.str z))(Y:0<=n):
  ∃o,Done (wO T M y W V R c) (sP P (va a m)) q (puO t n) (stO P o)/\∀p,o=Z p->bt T p.1/\Mr T M p.2:=by
 let w:=wO T M y W V R c;let S:=sP P (va a m);let x:bh:=[.I (puO t n),.I w,.I S,.I q,.I (.str z)];have F:ye [w,.str z]=Z ((xj ((mP T M).map λq=>kS q.1) ((mP T M).map λq=>D.int q.2) (kS z)).getD .O):=vF O (vP (vp O O O));have H:vI 4 (vq xb hX) [.I (puO t n),.I w,.I S,.I q,.un]=Z (.nx x):=(wN (vm O A)).t O;have C:∀(d:L4.D),ye [w,.str z]=Z d->∀f:bh,cV 0 f=Z (w,f)->cV 1 f=Z (.str z,f)->vR xt "most_of" aa bQ f=Z (d,f):=λd hd f J A=>v5 J O O (vn A O) hd;have fin:∀b,EM [w,.str z,.int n]=Z (.X b)->(b=γ->∀q∈mP T M,q.1=z->n<=q.2)->∃o,Done w S q (puO t n) (stO P o)/\∀p,o=Z p->bt T p.1/\Mr T M p.2:=λb B N=>by
  have G:=yC (v7 (vm (a:=ax ag (ax aG og)) (ρ:=x) O B));cases b with
  |false=>exact#v[U,#v[12,_,_,EO,O,O,O,vF O ((vt H).t (vZ ((wt G))))],λp z=>by cases z]
  |true=>exact#v[Z (a,K' m z n),#v[12,_,_,EO,O,O,O,vF O ((vt H).t ((xg G).t (vP (vm O ((PN P s.len (va a m) ("mark", z) (.int n)).t (by rw[aeW _ _ _ _ _ (YO s.p)];rfl))))))],λp e=>by
   cases e;refine#v[s.i,λq I=>?_];show 0<=(if q.1=z then n else m q.1)/\(if q.1=z then n else m q.1)<=q.2;by_cases l:q.1=z
   .rw[aj l];exact#v[Y,N O q I l]
   .rw[ak l];exact X q I]
 let j:bh:=[.I w,.I (.str z)];let r3:bh:=[.I w,.I (.str z),.I (.int n)];rcases U7 (λq:Str×Int=>kS q.1) b8 (kS z) (mP T M)with h|⟨k,h⟩
 .have r:=F.t (bD Z h);have E:Am [w,.str z]=Z (.a3 []):=by refine vF O (vP ((FY (v7 (vp (C _ r j O O) O O)))))
  exact fin δ (vF O (vP (zZ (vp (vm O E) O O)))) λz=>by cases z
 .have r:=F.t (bD Z h);have E:Am [w,.str z]=Z (.a3 [kD ("mark", z)]):=by refine vF (ρ:=j) O (vP ?_);have e:cT (c2 zw (vR xt "most_of" aa bQ) aN) j=Z (δ,j):=v7 (vp (C _ r j O O) O O);show mq _ _ _ j=_;unfold mq;rw[e];rfl
  exact fin (decide (n<=k)) (vF O (vP ((vN (vp (vm O E) O (U6 _ _))).t (vp O (C _ r r3 O O) O)))) λB u Q l=>by rw[<-l,AI (Uq s.g) (by rw[ji];exact bY Q)]at h;injection h with h;rw[h];exact bj B
def ae3(g:ea T M d W)(h:z∈n9 T):z∈j? T/\¬z=(yN T):=by obtain⟨t,b,rfl⟩:=aw.1 h;rw[aO]at b;have a:=b.2;refine#v[(Lu g.vf _ b.1).2 (by cases e:t.k<;>rw[e]at a<;>first|rfl|cases a),λz=>?_];obtain⟨u,c,e,k⟩:=y_T g;rw[Lr g.vf b.1 c (z.t e.symm),k]at a;cases a
def U9(s:u? T M A W P a)(l:Mr T M m)(F:((V++v9).flatMap Vb.ws).Nodup)(E:v∈V++v9)(B:Cm T W v x y){d:L4.D}(h:Ds T M v.f d):∃o,Done (wO T M A W V R c) (sP P (va a m)) (q3 v.n x y) d (stO P o)/\∀p,o=Z p->bt T p.1/\Mr T M p.2:=by
 cases h with
 |@put q n h H=>
  rcases h with h|⟨h,_⟩
  .exact U8 s l (Jj _ _ _ (Uu s.g h)) H
  .obtain⟨z,_,e⟩:=XM F E B (sP P (va a m)) h;exact U8 s l e H
 |@move t b Y hb hm=>
  obtain⟨z,hz,i⟩:=m_tm s F E B (λ_ h=>Nc h) hb;obtain⟨u,C,rfl⟩:=aw.1 hz;rcases Y with ⟨w,j,rfl,hk⟩|h
  .have I:=Jj (wO T M A W V R c) (sP P (va a m)) (q3 v.n x y) (U4 s.g (aw.2 #v[w,j,O]));refine P2 s l ((Lu s.g.vf _ j).2 (by rw[aZ hk];rfl)) C (λz=>?_) I i;obtain⟨r,G,e,kr⟩:=hm z;have J:=Jj (wO T M A W V R c) (sP P (va a m)) (q3 v.n x y) (U4 s.g (aw.2 #v[r,G,e]));rw[J]at i;have N:b=u.n:=by injection i with i;injection i
   rw[<-Lr s.g.vf G C (e.t N)];exact kr
  .obtain⟨w,j,Q⟩:=XM F E B (sP P (va a m)) h;obtain⟨S,X⟩:=ae3 s.g j;exact P2 s l S C (λz=>ar z X) Q i
end
section
variable{V:List Vb}
def Va(n:Str)(a c:List L4.D)(tx:Str)(e:Bool)(h:∀t∈a,∃b,Hold 3 w S q t b):∃d,Lb [w,S,q,p5 n a c tx e]=Z d/\∃b,d=.X b:=by
 let J:=λ(_:Nat) (r:bh)=>∃s,r=[.I w,.I S,.I q,.I (p5 n a c tx e),s];refine F0 O (vx (Ec (vv O #v[J,#v[_,O],?_,?_])))
 .rintro j t _ hd ⟨s,rfl⟩;obtain⟨b,k,p,m,o,rfl,f,i,l⟩:=h t (cf hd);exact#v[_,O,Ll (vv (yC (v7 (v5 O f i O l))) #v[λy=>wy (vv O #v[_,O]),λy=>Ab O #v[_,O]])]
 .rintro _ ⟨s,rfl⟩;exact wy (vv O #v[_,O])
def YT(k tx:Str)(S:L4.D):L4.D:=.a7 [.a7 [.str k,.str tx],S]
def Gd(T:List Th)(M:List Mk)(P:List Ky)(S o:L4.D):Prop:=∃k tx a b,o=YT k tx (sP P (va a b))/\k∈(["told", "refused", "unseen"]:aE)/\(k="told" \/ sP P (va a b)=S)/\bt T a/\Mr T M b
def P3(i:bt T a)(b:Mr T M m){k tx:Str}(h:k∈(["told", "refused", "unseen"]:aE)):Gd T M P (sP P (va a m)) (YT k tx (sP P (va a m))):=#v[_,_,a,m,O,h,.inr O,i,b]
def XN(s:u? T M z W P a)(w:Mr T M m)(N:((V++v9).flatMap Vb.ws).Nodup)(I:v∈V++v9)(G:Cm T W v x y)(n:Str)(B l:List L4.D)(tx:Str)(A:Bool)(hd:∀d∈l,Ds T M v.f d):∃o,D7 [wO T M z W V R c,sP P (va a m),q3 v.n x y,p5 n B l tx A]=Z o/\Gd T M P (sP P (va a m)) o:=by
 refine F0 O ?_;cases A with
 |true=>exact m? O (wy (vv O (P3 s.i w (by decide))))
 |false=>
  let J:=λ(_:Nat) (r:bh)=>∃e h t,r=[.I (wO T M z W V R c),.I (sP P (va a m)),.I (q3 v.n x y),.I (p5 n B l tx δ),.I (sP P (va e h)),t]/\bt T e/\Mr T M h;refine e4 O (vx (Ab O (vx (Ec (vv O #v[J,#v[a,m,_,O,s.i,w],?_,?_])))))
  .rintro j d _ q ⟨e,h,t,rfl,u,b⟩;obtain⟨o,⟨k,X,Q,S,rfl,C,E,F⟩,H⟩:=U9 #v[s.g,s.p,u] b N I G (hd d (cf q));refine#v[_,O,vx (vQ (vv (v5 O C E O F) ?_))];cases o with
   |none=>exact s_y O (wy (vv O (P3 s.i w (by decide))))
   |some p=>exact s_n O (Ab O #v[p.1,p.2,_,O,H p O])
  .rintro _ ⟨e,h,t,rfl,u,b⟩;exact wy (vv O #v["told", tx,e,h,O,by decide,.inl O,u,b])
def Ry{c b:FT}{d a:bh}(h:c d=Z (γ,a)):xE c b d=b a:=by unfold xE;rw[h]
def YU(h:e c=Z (.a7 b,a)):iT e c=Z (b,a):=by unfold iT;rw[h]
def nmP(a:List (Option Str)):aE:=a.filterMap id
theorem HK(p:Str->Bool):∀a:List (Option Str),(a.filter λo=>match o with|none=>δ|some x=>p x).map oS=((nmP a).filter p).map D.str
 |[]=>rfl
 |none::a=>HK p a
 |some x::a=>by
  show _=((x::nmP a).filter p).map D.str;rw[gx,gx];show c5 oS (if p x=γ then _ else _)=c5 _ (if p x=γ then _ else _);by_cases b:p x=γ
  .rw[aj b,aj b,aU,aU,HK p a];rfl
  .rw[ak b,ak b];exact HK p a
def Vc(s:u? T M e W P a)(w:Mr T M m){q:L4.D}{n:Str}{f:List (Option Str)}{p:Str->Bool}{rs:List L4.D}(hO:f.length<=2)(I:∃h l,q=.a7 [.str n,h,l])(C:yU [wO T M e W V R c,q]=Z .O)(u:xu [wO T M e W V R c,q]=Z (.a7 (f.map oS)))(E:∀x∈nmP f,xx [wO T M e W V R c,sP P (va a m),.str x]=Z (.X (p x)))
  (F:xJ [wO T M e W V R c,.str n]=Z (.a3 rs)) (G:∀r∈rs,(∃d,Lb [wO T M e W V R c,sP P (va a m),q,r]=Z d/\∃b,d=.X b)/\∃o,D7 [wO T M e W V R c,sP P (va a m),q,r]=Z o/\Gd T M P (sP P (va a m)) o):∃o,Lc [wO T M e W V R c,sP P (va a m),q]=Z o/\Gd T M P (sP P (va a m)) o:=by
 obtain⟨h,l,rfl⟩:=I;obtain⟨o,H,g⟩:∃o,ER [wO T M e W V R c,sP P (va a m),.a7 [.str n,h,l],.a3 (((nmP f).filter p).map D.str)]=Z o/\Gd T M P (sP P (va a m)) o:=by
  let z:Sl->Sl->bh:=λx y=>[.I (wO T M e W V R c),.I (sP P (va a m)),.I (.a7 [.str n,h,l]),.I (.a3 (((nmP f).filter p).map D.str)),x,y];let J:=λ(_:Nat) (r:bh)=>∃x,r=z x .un;refine F0 O (vx (Ec (vv (YU (vm O u)) #v[J,#v[_,O],?_,?_])))
  .rintro j d _ hd ⟨t,rfl⟩;rw[bq]at hd;obtain⟨x,_,rfl⟩:=fL.1 hd;refine#v[_,O,?_];cases x with
   |none=>exact s_n O (Ab O #v[_,O])
   |some x=>exact Ll (vv ((Ry O).t (v7 (vp O O (zf γ x _)))) #v[λ_=>wy (vv O (P3 s.i w (by decide))),λ_=>Ab O #v[_,O]])
  .rintro _ ⟨t,rfl⟩;let J:=λ(_:Nat) (r:bh)=>∃y,r=z t y;refine vx (Ec (vv (Dm (OB O O O O F)) #v[J,#v[_,O],?_,?_]))
   .rintro j r _ hd ⟨y,rfl⟩;obtain⟨⟨_,A,b,rfl⟩,o,B,g⟩:=G r (cf hd);exact#v[_,O,Ll (vv (v7 (vm O A)) #v[λ_=>wy (vv (vm O B) g),λ_=>Ab O #v[_,O]])]
   .rintro _ ⟨y,rfl⟩;exact wy (vv O (P3 s.i w (by decide)))
 refine#v[o,xT O (vx (EV (vv (vm O C) (vx (vQ (w_L (vv ((xl oS oS (λo=>match o with|none=>δ|some x=>p x) f (YU (vm O u)) (by omega) λx N=>#v[_,_,O,v7 (vm O ?_),λ_=>#v[_,O,O],λ_=>O]).t (by rw[HK])) (wy (vv (vm O H) O))))))))),g];cases x with
 |none=>exact XI _
 |some x=>exact E x (iq.2 #v[_,N,O])
end
section
variable{V:List Vb}
def RuS(T:List Th)(M:List Mk)(V:List Vb)(d:L4.D):Prop:=∃v∈V++v9,∃b a tx c,d=p5 v.n b a tx c/\(∀t∈b,Ts T M v.f 2 t)/\∀e∈a,Ds T M v.f e
def ae4(g:ea T M b W):(yN T)∈nq T:=by obtain⟨t,a,e,k⟩:=y_T g;exact aw.2 #v[t,aO.2 #v[a,by rw[k];rfl],e]
def trR(v k:Str)(n:Int)(a b c:Str):List L4.D:=[p5 v [noO (kiO "it" k)] [] a γ,p5 v [mkO "it" n] [] b γ,p5 v [] [puO "it" n] c δ]
def acK(u:Str):A21 u=[p5 "take" [kiO "it" "fixed"] [] "That stays." γ,p5 "take" [atO "it" u] [] "You have that." γ,p5 "take" [] [T1 "it" u] "Taken." δ,p5 "drop" [hsO "it"] [T1 "it" "here"] "Dropped." δ,p5 "drop" [] [] "You lack that." γ,p5 "put" [noO (hsO "it")] [] "You lack that." γ,p5 "put" [noO (kiO "other" "box")] [] "It holds nothing." γ,p5 "put" [mkO "other" 0] [] "It is shut." γ,p5 "put" [] [T1 "it" "other"] "Done." δ]++(trR "open" "box" 1 "It has no lid." "It is open." "Opened." ++ trR "shut" "box" 0 "It has no lid." "It is shut." "Shut." ++ (trR "light" "lamp" 1 "It burns not." "It is lit." "Lit." ++ trR "douse" "lamp" 0 "It burns not." "It is out." "Doused.")):=by kernel_rfl
def AZ(h:v∈v9){b a:List L4.D}{tx:Str}{c:Bool}(d:∀t∈b,Ts T M v.f 2 t)(hd:∀e∈a,Ds T M v.f e):RuS T M V (p5 v.n b a tx c):=#v[v,bB _ h,b,a,tx,c,O,d,hd]
def Q'{a:Type}{p:a->Prop}{d:a}(h:p d):∀e∈[d],p e:=λe b=>by rw[br.1 b];exact h
def G?{a:Type}{p:a->Prop}:∀e∈([]:List a),p e:=λe b=>by cases b
def P4(d:0<=z)(a:(#v[n,[],"one", U]:Vb)∈v9):∀r∈trR n k z e f h,RuS T M V r:=λr b=>by
 have c:By "one" "it" := .inl #v[O,by decide];have mt:Mt T M "one" ("it", 1):=.inr #v[c,by decide];simp only[trR,aJ,bU,or_false]at b;rcases b with rfl|rfl|rfl
 .exact AZ a (Q' (.no (.kind (.inr (.inr c))))) G?
 .exact AZ a (Q' (.mark mt)) G?
 .exact AZ a G? (Q' (.put mt d))
def acL(g:ea T M o W):∀r∈A21 (yN T),RuS T M V r:=λr hr=>by
 have a:By "one" "it" := .inl #v[O,by decide];have i:By "two" "it" := .inl #v[O,by decide];have e:By "two" "other" := .inr #v[O,O];have j:=ae4 g;obtain⟨m,d,l,_⟩:=y_T g;have nmy:Nm (yN T):=g.nm _ (bJ _ (aw.2 #v[m,d,l]));have nme:("it" : Str)=(yN T)->∀b:Str,∃t∈T,t.n=b/\t.k=.room:=λz=>ar (show ("it" : Str)∈υ from z▸nmy) (of_decide_eq_false (by kernel_rfl));have f:(#v["take", [],"one", U]:Vb)∈v9:=by simp[v9]
 have h:(#v["drop", [],"one", U]:Vb)∈v9:=by simp[v9]
 have c:(#v["put", [],"two", Z "in"]:Vb)∈v9:=by simp[v9]
 rw[acK]at hr;rcases aW.1 hr with hr|hr
 .simp only[aJ,bU,or_false]at hr;rcases hr with rfl|rfl|rfl|rfl|rfl|rfl|rfl|rfl|rfl
  .exact AZ f (Q' (.kind (.inr (.inr a)))) G?
  .exact AZ f (Q' (.ats (.inr (.inr a)) (.inl j))) G?
  .exact AZ f G? (Q' (.move (.inr a) (.inl j) λz=>nme z _))
  .exact AZ h (Q' (.has (.inr (.inr a)))) (Q' (.move (.inr a) (.inr (.inl O)) λz=>nme z _))
  .exact AZ h G? G?
  .exact AZ c (Q' (.no (.has (.inr (.inr i))))) G?
  .exact AZ c (Q' (.no (.kind (.inr (.inr e))))) G?
  .exact AZ c (Q' (.mark (q:=("other", 1)) (.inr #v[e,by decide]))) G?
  .exact AZ c G? (Q' (.move (.inr i) (.inr (.inr e)) λz=>nme z _))
 .rcases aW.1 hr with hr|hr
  .rcases aW.1 hr with hr|hr
   .exact P4 (by decide) (by simp[v9]) r hr
   .exact P4 (by decide) (by simp[v9]) r hr
  .rcases aW.1 hr with hr|hr
   .exact P4 (by decide) (by simp[v9]) r hr
   .exact P4 (by decide) (by simp[v9]) r hr
def Vd(h:r∈gk T):r∈nq T:=by obtain⟨u,a,e⟩:=aw.1 h;rw[aO]at a;exact aw.2 #v[u,aO.2 #v[a.1,by rw[bj a.2];rfl],e]
def ae5(g:ea T M l W)(a:MW T M w):RuS T M V (goO (yN T) w):=by
 have i:(#v["go", [],"way", U]:Vb)∈v9:=by simp[v9]
 obtain⟨t,f,e,k⟩:=y_T g;have j:(yN T)∈T.map Th.n:=aw.2 #v[t,f,e];refine AZ i (λd hd=>?_) (Q' (.move (.inl #v[t,f,e,by rw[k];exact λz=>by cases z]) (.inl (Vd a.hg)) λy=>?_))
 .unfold wtL at hd;rcases aW.1 hd with hd|hd
  .rw[aJ,br]at hd;rcases hd with rfl|rfl
   .exact .ats (.inl j) (.inl (Vd a.hr))
   .exact .word O
  .cases b:w.m with
   |none=>rw[b]at hd;cases hd
   |some k=>rw[b]at hd;rw[br.1 hd];have:=a.hm k b;rw[<-Li]at this;obtain⟨q,h,rfl⟩:=aw.1 this;exact .no (.mark (.inl h))
 .obtain⟨u,c,e⟩:=aw.1 a.hg;rw[aO]at c;exact#v[u,c.1,e,bj c.2]
def ae6(g:ea T M d W):∀r∈SH (yN T) W,RuS T M V r:=λr hr=>by
 have a:(#v["go", [],"way", U]:Vb)∈v9:=by simp[v9]
 have c:(#v["wait", [],"alone", U]:Vb)∈v9:=by simp[v9]
 unfold SH at hr;rcases aW.1 hr with hr|hr
 .rcases aW.1 hr with hr|hr
  .exact acL g r hr
  .rcases aW.1 hr with hr|hr
   .obtain⟨w,b,rfl⟩:=aw.1 hr;exact ae5 g (g.wo w b)
   .rw[br.1 hr];exact AZ a G? G?
 .rw[br.1 hr];exact AZ c G? G?
def vb_f{L:List Vb}(b:(L.flatMap Vb.ws).Nodup)(d:u∈L)(h:v∈L)(e:u.n=v.n):u.f=v.f:=by have a:=Lj b d;have c:=Lj b h;rw[e,c]at a;injection a with a;injection a with _ _ a;injection a with _ a;injection a with _ a;injection a with a _;injection a with a;exact a.symm
def acM(f:∀j,gl b dss j=(R++SH (yN T) W).filter λd=>decide (kv d=j))(n:Str):xJ [wO T M c W V R (.Y b (dss.map .a3)),.str n]=Z (.a3 ((R++SH (yN T) W).filter λd=>decide (kv d=kS n))):=by let a:bh:=[.I (wO T M c W V R (.Y b (dss.map .a3))),.I (.str n)];refine Bt (ρ:=a) O (xB ?_);have e:DC (c1 (vA zh "rules_by_verb") aa) ag (cL (vJ vO)) a=Z ((xj b (dss.map .a3) (kS n)).getD (.a3 []),a):=rfl;rw[Pz,f]at e;show yj _ a=_;unfold yj;rw[e];rfl
def Try(T:List Th)(M:List Mk)(a:aE)(W:List Wy)(V:List Vb)(R:List L4.D)(c:L4.D):Prop:=∀n:Str,xJ [wO T M a W V R c,.str n]=Z (.a3 ((R++SH (yN T) W).filter λd=>decide (kv d=kS n)))
def OC(g:ea T M b W){x:Str}(d:x∈n9 T):zW [wO T M b W V R c,.str x]=Z (.X γ):=by obtain⟨t,a,rfl⟩:=aw.1 d;rw[aO]at a;exact xT O (vx (vQ (vv ((FY O).t (OB O O O O (zY g.vf a.1))) (wy (vv ((vN O).t (v5 O O O O ((FR t).t (by rw[a.2])))) O)))))
def XO(g:ea T M b W)(h:Cm T W v x y):DR [wO T M b W V R c,.str v.f,oS x,oS y]=Z (.X γ):=by
 rcases h with ⟨e,n,a,rfl,rfl⟩|⟨e,n,a,k,i,rfl,rfl⟩|⟨e,rfl,rfl⟩|⟨e,d,hd,rfl,rfl⟩<;>rw[e]
 .exact xT O (e4 O (e4 O (e4 O (wy (vv ((Na O).t (vm O (OC g a))) O)))))
 .exact xT O (m? O (wy (vv ((vN (vm O (OC g a))).t (vm O (OC g i))) O)))
 .exact xT O (e4 O (e4 O (e4 O (wy (vv O O)))))
 .exact xT O (e4 O (e4 O (m? O (wy (vv ((vN O).t (vp O (OB O O O O (PX (bz g.w8 (by decide)))) (zf δ _ _))) (by rw[aY hd];rfl))))))
def acN(g:ea T M a W)(e:((V++v9).flatMap Vb.ws).Nodup)(d:v∈V++v9)(b:Cm T W v x y):yU [wO T M a W V R c,q3 v.n x y]=Z .O:=by have h:CM [wO T M a W V R c,q3 v.n x y]=Z (.X γ):=xT O (e4 O (vx (vQ (vv (OB O O O O (P1 e d)) (wy (vv ((vN O).t ((vN (vp O O (by rw[xa];simp))).t (vm O (XO g b)))) O))))));exact Bs O ((wU (yC (v7 (vm O h)))))
def ae7(c:Cm T W v x y):∀z∈nmP (thO v x y),z∈n9 T:=λz a=>by
 unfold thO at a;rcases c with ⟨e,n,b,rfl,rfl⟩|⟨e,n,b,k,f,rfl,rfl⟩|⟨e,rfl,rfl⟩|⟨e,d,hd,rfl,rfl⟩
 .rw[e,ak (by decide),show nmP [Z n,U]=[n] from O,br]at a;rw[a];exact b
 .rw[e,ak (by decide),show nmP [Z n,Z k]=[n,k] from O,aJ,br]at a;rcases a with rfl|rfl
  .exact b
  .exact f
 .rw[e,ak (by decide)]at a;cases a
 .rw[e,aj O]at a;cases a
def IL(s:u? T M d W P a):∃p:Str->Bool,∀x∈n9 T,xx [wO T M d W V R c,sP P (va a m),.str x]=Z (.X (p x)):=by
 have h:∀x:Str,∃b:Bool,x∈n9 T->xx [wO T M d W V R c,sP P (va a m),.str x]=Z (.X b):=λx=>by
  by_cases f:x∈n9 T
  .obtain⟨t,i,rfl⟩:=aw.1 f;obtain⟨b,e⟩:=LB s (aO.1 i).1;exact#v[b,λy=>e]
  .exact#v[δ,λz=>ar z f]
 exact#v[λx=>(h x).choose,λx=>(h x).choose_spec]
def Ve(s:u? T M j W P a)(w:Mr T M m)(d:((V++v9).flatMap Vb.ws).Nodup)(C:Try T M j W V R c)(hR:∀r∈R,RuS T M V r)(b:v∈V++v9)(e:Cm T W v x y):∃o,Lc [wO T M j W V R c,sP P (va a m),q3 v.n x y]=Z o/\Gd T M P (sP P (va a m)) o:=by obtain⟨p,A⟩:=IL s;refine Vc s w (by unfold thO;split<;>exact aH 2) #v[_,_,O] (acN s.g d b e) (Kj d b x y) (λz F=>A z (ae7 e z F)) (C v.n) λr B=>?_;obtain⟨f,i⟩:=aO.1 B;obtain⟨u,E,I,G,tx,H,rfl,l,q⟩:RuS T M V r:=(aW.1 f).elim (hR r) (ae6 s.g r);rw[vb_f d E b (Ol (bj i))]at l q;exact#v[Va _ _ _ _ _ λt h=>Rw s d b e (l t h) 3 (by decide),XN s w d b e _ _ _ _ _ q]
def ae8(i:∀v∈V++v9,v.f∈k3)(l:q∈cmA (n9 T) (U' W) ((V++v9).map nf)):∃v∈V++v9,∃x y,q=q3 v.n x y/\Cm T W v x y:=by
 obtain⟨n,j,l⟩:=c8.1 l;obtain⟨v,m,rfl⟩:=aw.1 j;obtain⟨z,a,rfl⟩:=aw.1 l;refine#v[v,m,?_];have i:=i v m;unfold obF at a;show ∃x y,p3 v.n z=q3 v.n x y/\Cm T W v x y;by_cases b:v.f="alone"
 .rw[aj (show (nf v).2="alone" from b)]at a;rw[br.1 a];exact#v[U,U,O,.inr (.inr (.inl #v[b,O,O]))]
 .rw[ak (show ¬(nf v).2="alone" from b)]at a;by_cases c:v.f="way"
  .rw[aj (show (nf v).2="way" from c)]at a;obtain⟨d,hd,rfl⟩:=aw.1 a;exact#v[Z d,U,O,.inr (.inr (.inr #v[c,d,hd,O,O]))]
  .rw[ak (show ¬(nf v).2="way" from c)]at a;by_cases e:v.f="one"
   .rw[aj (show (nf v).2="one" from e)]at a;obtain⟨d,hd,rfl⟩:=aw.1 a;exact#v[Z d,U,O,.inl #v[e,d,hd,O,O]]
   .rw[ak (show ¬(nf v).2="one" from e)]at a;obtain⟨n,j,a⟩:=c8.1 a;obtain⟨k,p,rfl⟩:=aw.1 a;have o:v.f="two" := by
     simp only[k3,aJ,bU,or_false]at i;rcases i with h|h|h|h
     .exact ar h e
     .exact h
     .exact ar h b
     .exact ar h c
    exact#v[Z n,Z k,O,.inr (.inl #v[o,n,j,k,p,O,O])]
end
section
variable{T:List Th}{M:List Mk}{dk:aE}{W:List Wy}{V:List Vb}{R:List L4.D}{c:L4.D}{P:List Ky}{a:Str->Str}{m:Str->Int}{v:Vb}{x y:Option Str}
def mr0(g:ea T M dk W)(h:∀x,(xj (M.map λm=>kS m.n) (M.map λm=>D.int m.st) (kS x)).getD (.int 0)=.int (m x)):Mr T M m:=λq b=>by
 have ndm:(M.map λm=>kS m.n).Nodup:=by have:=As (cn.1 g.nd).2.1;rw[aX]at this;exact this
 have e:=h q.1;rcases aW.1 b with b|b
 .obtain⟨t,f,rfl⟩:=aw.1 b;rw[Gm λz=>by
   obtain⟨u,d,e⟩:=aw.1 z;exact(cn.1 g.nd).2.2 _ (bY (aO.1 f).1) _ (bY d) (Ol e).symm]at e
  injection e with e;rw[<-e];exact#v[nR _,(by decide:(0:Int)<=1)]
 .obtain⟨u,d,rfl⟩:=aw.1 b;rw[AI ndm (by rw[ji];exact aw.2 #v[u,d,O])]at e;injection e with e;rw[<-e];have:=g.mo u d;exact#v[this.2.2.1,this.2.2.2]
def ae9{m:Nat}{r:Rs}{w:L4.D}(h:M3 T M w (vL m) r):RuS T M (vL m) (rsO r):=#v[r.v,h.v,_,_,_,_,O,λt e=>by
 obtain⟨s,b,rfl⟩:=aw.1 e;exact(h.t s b).2.2,λt e=>by
 obtain⟨s,b,rfl⟩:=aw.1 e;exact(h.d s b).2]
end
def XQ{a:List L4.D}(o:0<a.length)(i:Int):∃q∈a,∀{e c:FE} {b:bh},e b=Z (.a3 a,b)->c b=Z (.int i,b)->c2 b1 e (c2 vX c (c1 wY e)) b=Z (q,b):=by
 let j:=i % (a.length:Int);have m:0<=j:=jg _ (by omega);have p:j<a.length:=mj _ (by omega);obtain⟨n,h⟩:∃n:Nat,j=(n:Nat):=#v[j.toNat,(Int.toNat_of_nonneg m).symm];have f:n<a.length:=by omega
 refine#v[a[n],gv f,λ{e c b} d l=>vp (y:=.int j) d (vp l (we d O) ?_) ?_]
 .show (if decide (0<(a.length:Int))=γ then Z (D.int (i % (a.length:Int)))else U)=_;rw[aj (aY (by omega))]
 .rw[h];exact y9 (aP f)
def acO(d:f l=Z (.int i,a))(e:c a=Z (.int j,b))(h:(-1000000<=i/\i<=1000000)/\-1000000<=j/\j<=1000000):iR2 f c l=Z (Im i (j - i).toNat,b):=by unfold iR2;simp only[d,e];rw[aj h]
def RA(g:ea T M f W)(H:m<64)(hR:∀r∈R,RuS T M (vL m) r)(F:∀j,gl u dss j=(R++SH (yN T) W).filter λd=>decide (kv d=j))(b:List Int):∃P a k,u? T M f W P a/\zM [wO T M f W (vL m) R (.Y u (dss.map .a3)),.mn (b.map D.int),.int 2,.int 4]=Z (sP P (va a k)):=by
 have t:∀v∈vL m,v∈v6:=λv h=>GK h;let c:L4.D:=.Y u (dss.map .a3);let V:=vL m;have Q:=J7 H;let w:=wO T M f W V R c;let p:=cmA (n9 T) (U' W) ((V++v9).map nf);have C:0<p.length:=by
  refine ik (a:=q3 "wait" U U) (c8.2 #v[("wait", "alone"),?_,?_])
  .exact aw.2 #v[#v["wait", [],"alone", U],bB _ (by simp[v9]),O]
  .unfold cmV obF;rw[aj O];exact aw.2 #v[(.O,.O),br.2 O,O]
 obtain⟨P,Y,pP,eS,X,G,S⟩:=UX g;let A:L4.D->Sl->bh:=λst k=>[.I w,.I (.mn (b.map D.int)),.I (.int 2),.I (.int 4),.I st,.I (.a3 p),k];let J:=λ(_:Nat) (r:bh)=>∃a k s,r=A (sP P (va a k)) s/\bt T a/\Mr T M k;obtain⟨d,e,a,k,rfl,i,_⟩:∃d,zM [w,.mn (b.map D.int),.int 2,.int 4]=Z d/\∃a k,d=sP P (va a k)/\bt T a/\Mr T M k:=by
  refine F0 O ?_;refine vx (vQ (vv (vm O S) (vx (vQ (w_L (vv (vm O (M9 g t (DV m))) (vx (Ec (vv (acO O O (by decide)) #v[J,#v[_,_,_,O,inv0 g,mr0 g G],?_,?_])))))))))
  .rintro j d _ hd ⟨a,k,s,rfl,i,l⟩;obtain⟨n,rfl⟩:∃n:Nat,d=.int n:=by unfold Im at hd;rw[bq]at hd;obtain⟨n,_,rfl⟩:=fL.1 hd;exact#v[2+n,O]
   obtain⟨z,E⟩:=Lq b n;obtain⟨q,hqm,eq⟩:=XQ C z;obtain⟨v,h,x,y,rfl,hcm⟩:=ae8 (U2 t) hqm;obtain⟨_,e,kx,tx,B,N,rfl,_,_,I,o⟩:=Ve #v[g,pP,i] l Q (λn=>acM F n) hR h hcm;exact#v[A (sP P (va a k)) (.I (.int n)),O,vQ (vv (vp (vm (vn O (vn O (vn (eq O (vm O E)) O))) e) O O) #v[B,N,_,O,I,o])]
  .rintro _ ⟨a,k,s,rfl,i,l⟩;exact wy (vv O #v[a,k,O,i,l])
 exact#v[P,a,k,#v[g,pP,i],e]
def v?:List Nat->List (List Nat)
 |[]=>[[]]
 |x::r=>if x=32 then []::v? r else match v? r with
  |[]=>[[x]]
  |h::t=>(x::h)::t
theorem Nf:∀l,∃h t,v? l=h::t
 |[]=>#v[[],[],O]
 |x::r=>by
  obtain⟨h,t,q⟩:=Nf r;unfold v?;rw[q];split
  .exact#v[_,_,O]
  .exact#v[_,_,O]
theorem LC:∀a b,v? (a++32::b)=v? a++v? b
 |[],b=>by show v? (32::b)=[]::v? b;rw[v?,aj O]
 |x::a,b=>by rw[jX,v?,v?,LC a b];obtain⟨h,t,q⟩:=Nf a;rw[q];split<;>rfl
theorem F2:∀w,¬32∈w->v? w=[w]
 |[],_=>rfl
 |x::r,h=>by rw[v?,ak λz=>h (by rw[z];exact ba),F2 r λm=>h (bb _ m)]
def Ng:List (List Nat)->List Nat
 |[]=>[]
 |[p]=>p
 |p::q::r=>p++32::Ng (q::r)
theorem Kk:∀a:List (List Nat),a≠[]->(∀p∈a,¬32∈p)->v? (Ng a)=a
 |[],h,_=>ar O h
 |[p],_,h=>F2 p (h p ba)
 |p::q::r,_,h=>by rw[Ng,LC,F2 p (h p ba),Kk (q::r) (by simp) λx b=>h x (bb _ b)];rfl
theorem Jk:∀a:aE,cd (Str.join " " a)=Ng (a.map cd)
 |[]=>rfl
 |[p]=>rfl
 |p::q::r=>by show cd (p++" " ++ Str.join " " (q::r))=_;rw[BK,BK,Jk (q::r),show cd " " = [32] by decide +kernel,cc];rfl
def Nh(x:Str):(cZ x " ").map cd=v? (cd x):=by
 have b:(" " : Str)=#v[#[32]]:=by decide +kernel
 have d:=StrLaws.join_split x " ";have c:=StrLaws.split_free x 32;rw[<-b]at c;have h:=uz x " ";have e:cd x=Ng ((cZ x " ").map cd):=by rw[<-Jk,d]
 rw[e,Kk]
 .intro z;have:=bD cO z;rw[af,du]at this;omega
 .intro p a;obtain⟨q,f,rfl⟩:=aw.1 a;exact c q f
def kpB(p:List Nat):Bool:=!decide (p=[])&&!decide (p∈[cd "the", cd "a"])
def Wd(l:List Nat):List (List Nat):=(v? l).filter kpB
def Jl(a b:List Nat):Wd (a++32::b)=Wd a++Wd b:=by unfold Wd;rw[LC,mm]
def OD:Wd []=[]:=rfl
def Eb(l:List Nat):Prop:=l=[]\/∃r,l=r++[32]
def Vf(h:Eb l)(x:List Nat):Wd (l++x)=Wd l++Wd x:=by
 rcases h with rfl|⟨r,rfl⟩
 .rfl
 .rw[cc,List.singleton_append,Jl,Jl,OD,bZ]
def wd_w(h:¬32∈w)(k:kpB w=γ):Wd w=[w]:=by unfold Wd;rw[F2 w h,gx,aj k];rfl
structure GW(w:Str):Prop where
 fr:¬32∈cd w
 kp:kpB (cd w)=γ
 le:w.length<=12
def gwB(w:Str):Bool:=!decide (32∈cd w)&&(kpB (cd w)&&decide (w.length<=12))
def afb(h:gwB w=γ):GW w:=by unfold gwB at h;simp only[aT,c7,decide_eq_false_iff_not,bE]at h;exact#v[h.1,h.2.1,h.2.2]
def YV(n:Nat)(h:n<=2):cd (fC " " (n:Int))=eZ n 32/\(fC " " (n:Int)).length=n:=by
 obtain rfl|rfl|rfl:n=0\/n=1\/n=2:=by omega
 all_goals exact#v[by decide +kernel,by decide +kernel]
def XR(h:Eb l)(f:Eb a)(d:Wd a=[])(c:¬32∈w)(k:kpB w=γ)(b:n=1\/n=2):Wd (l++a++w++eZ n 32)=Wd l++[w]/\Eb (l++a++w++eZ n 32):=by
 have e:Wd (w++eZ n 32)=[w]:=by
  rcases b with rfl|rfl
  .show Wd (w++32::[])=_;rw[Jl,wd_w c k,OD];rfl
  .show Wd (w++32::([]++32::[]))=_;rw[Jl,Jl,wd_w c k,OD];rfl
 refine#v[by rw[cc,cc,Vf h,Vf f,e,d];rfl,.inr ?_];rcases b with rfl|rfl
 .exact#v[_,O]
 .exact#v[l++a++w++[32],by rw[cc (l++a++w)];rfl]
theorem Vg:∀{a b:aE},a.map cd=b.map cd->a=b
 |[],[],_=>rfl
 |[],_::_,h=>by cases h
 |_::_,[],h=>by cases h
 |x::a,y::b,h=>by rw[aU,aU]at h;injection h with c d;rw[UK c,Vg d]
def kpS(x:Str):Bool:=!decide (x="")&&!decide (x∈(["the", "a"]:aE))
def afc(x:Str):kpS x=kpB (cd x):=by
 have e:∀y:Str,(cd x=cd y)=(x=y):=λy=>propext #v[UK,λh=>by rw[h]];have a:(cd x=[])=(x=""):=by rw[<-e ""];rfl
 unfold kpS kpB;simp only[aJ,bU,or_false,e,a]
def Ni{x:Str}{ws:aE}(l:x.length<=500)(h:Wd (cd x)=ws.map cd):CN [.str x]=Z (.a7 (ws.map D.str)):=by
 have hle:=qV x " ";have e:(cZ x " ").filter kpS=ws:=by refine Vg ?_;rw[<-h];unfold Wd;rw[<-Nh,qS];congr 2;exact funext afc
 let b:bh:=[.I (.str x)];have d:iL (cL (ξ aa (cS " "))) b=Z ((cZ x " ").map D.str,b):=by refine Dm (wb ?_);show (if _ then _ else _)=_;rw[aj #v[by decide +kernel,by omega]]
 have f:=xl (k:=1) (d3:=[]) (g:=gN 0) (ft:=xE (cT (c2 (b? γ) aa di)) (cT (c2 (j2 γ) aa kH))) (fe:=cV 0) D.str D.str kpS (cZ x " ") d (by omega) λw y=>#v[[.I (.str w)],[.I (.str w)],O,?_,λy=>#v[_,O,O],λy=>O]
 .refine vF (ρ:=b) O (vP ?_);show zd _ b=_;unfold zd;rw[wb f,e]
 .have a1:cT (c2 (b? γ) aa di) [.I (.str w)]=Z (!decide (w=""),[.I (.str w)]):=v7 (vp O O (xa γ w ""));have c:cT (c2 (j2 γ) aa kH) [.I (.str w)]=Z (!decide (w∈(["the", "a"]:aE)),[.I (.str w)]):=v7 (vp O O (AH γ w ["the", "a"]));unfold xE kpS;rw[a1];cases m:!decide (w="")with
  |true=>exact c
  |false=>rfl
theorem AB:∀l:aE,xY (l.map D.str)=Z (l.map L3.Dq.str)/\xm (l.map L3.Dq.str)=0
 |[]=>#v[O,O]
 |x::l=>by obtain⟨a,b⟩:=AB l;rw[aU,aU];refine#v[by unfold xY;rw[a];rfl,by unfold xm;rw[b];unfold fc;rfl]
def D8(l:aE):i? (.a7 (l.map D.str))=Z (.a7 (l.map L3.Dq.str))/\fc (.a7 (l.map L3.Dq.str))=1:=by obtain⟨a,b⟩:=AB l;exact#v[by unfold i?;rw[a],by rw[fc,b]]
def Vh(e:xY a=Z x)(f:xY b=Z y)(h:xm x<=19)(i:xm y<=19):b? neg (.a7 a) (.a7 b)=Z (.X (if neg then !L3.pk (.a7 x) (.a7 y)else L3.pk (.a7 x) (.a7 y))):=by
 have c:i? (.a7 a)=Z (.a7 x):=by unfold i?;rw[e]
 have d:i? (.a7 b)=Z (.a7 y):=by unfold i?;rw[f]
 unfold b?;rw[show Gh neg (.a7 a) (.a7 b)=U from O];unfold KL;rw[c,d];simp only;rw[aj (by simp only[aT,bE];exact#v[#v[O,by rw[fc];omega],by rw[fc];omega])]
def P5(neg:Bool)(l:aE):b? neg (.a7 (l.map D.str)) (.a7 [])=Z (.X (if neg then !decide (l=[])else decide (l=[]))):=by obtain⟨a,b⟩:=AB l;rw[Vh a O (by omega) (bT _)];cases l<;>rfl
def acP(a b:aE):R' (.a7 []) (.a7 [.a7 (a.map D.str),.a7 (b.map D.str)])=Z (.X (decide (a=[])||decide (b=[]))):=by
 obtain⟨a1,f⟩:=D8 a;obtain⟨c,h⟩:=D8 b;have e:xY [.a7 (a.map D.str),.a7 (b.map D.str)]=Z [.a7 (a.map L3.Dq.str),.a7 (b.map L3.Dq.str)]:=by unfold xY;rw[a1];unfold xY;rw[c];rfl
 show (match i? (.a7 []),xY [.a7 (a.map D.str),.a7 (b.map D.str)]with
  |some d,Z l=>if decide (fc d<=20)&&l.all (λe=>decide (fc e<=20))then Z (D.X (l.any λe=>pk e d))else U
  |_,_=>U)=_
 rw[e,show i? (.a7 [])=Z (.a7 []) from O];simp only;rw[aj (by simp only[gH,List.all_nil,aT,bE];exact#v[by rw[fc];show 0+1<=20;decide,by omega,by omega,trivial])];cases a<;>cases b<;>rfl
def fdV(V:List Vb)(x:Str):Option Vb:=V.find? λv=>decide (x∈v.ws)
def vD:Option Vb->L4.D
 |some v=>k4 v
 |none=>.O
def Vi{V:List Vb}(d:(V.flatMap Vb.ws).Nodup)(x:Str):Dh (vwD V) (.str x)=Z (vD (fdV V x)):=by
 show Z ((xj (V.flatMap λv=>v.ws.map kS) (V.flatMap λv=>v.ws.map λw=>k4 v) (kS x)).getD .O)=_;cases h:fdV V x with
 |some v=>
  rw[AI]
  .rfl
  .have:=As d;rw[qF]at this;exact this
  .rw[Oo];exact c8.2 #v[v,oQ h,aw.2 #v[x,bj (mV (p:=λv:Vb=>decide (x∈v.ws)) h),O]]
 |none=>
  rw[Gm]
  .rfl
  .intro z;obtain⟨v,a,c⟩:=c8.1 z;obtain⟨y,b,e⟩:=aw.1 c;have:=mh.1 h v a;rw[<-show y=x by injection e]at this;exact this (aY b)
def y'(j:Str)(r:aE):Bool:=decide (j∉r)||(decide (r.idxOf j=0)||decide (r.idxOf j+1=r.length))
def Vj(x:Str):L4.D:=.a7 [.str "noform", .str x]
def Jm{ds:List L4.D}(i:Nat)(h:i<=ds.length):fg ds U (Z (i:Int))=ds.take i:=by
 unfold fg;have e:HT.e? ds.length ds.length (Z (i:Int))=i:=by unfold HT.e?;simp only;split<;>omega
 rw[e];simp[HT.e?]
def F3{ds:List L4.D}(i:Nat)(h:i<=ds.length):fg ds (Z (i:Int)) U=ds.drop i:=by
 unfold fg;have e:HT.e? ds.length 0 (Z (i:Int))=i:=by unfold HT.e?;simp only;split<;>omega
 rw[e];refine gh ?_;rw[cW];simp[HT.e?]
def YW(h:e ρ=Z (.a7 (x::ds),a)):K4 e (Z 1) U ρ=Z (.a7 ds,a):=by
 have c:=F3 (ds:=x::ds) 1 (Nat.le_add_left 1 _);unfold K4;rw[h];simp only;rw[ak (by
  rintro⟨z,_⟩;have e:HT.e? (ds.length+1) 0 (Z ((1:Nat):Int))=1:=by unfold HT.e?;simp only;split<;>omega
  exact ar (e.symm.t z) (by decide)),show fg (x::ds) (Z 1) U=ds from c]
def Jn(h:e ρ=Z (.int i,a)):mr e ρ=Z (Z i,a):=by unfold mr;rw[h]
def GP(f:e ρ=Z (.a7 d,a))(h:lo a=Z (l,b))(i:j b=Z (u,c)):BV e lo j ρ=Z (.a7 (fg d l u),c):=by unfold BV;rw[f];simp only[h,i]
def acQ(d:e ρ=Z (.a3 ds,a))(f:lo a=Z (l,b))(h:hi b=Z (u,c)):Fh e lo hi ρ=Z (fg ds l u,c):=by unfold Fh;rw[d];simp only[f,h]
set_option r "LD γ f;P6 δ g" in def ϑ0(h:q ρ=Z (ϑ1,ρ1)):mq q f g ρ=ϑ2 ρ1:=by unfold mq;rw[h]
def tp(p:aE):L4.D:=.a7 (p.map D.str)
def Vk{r:aE}(q:r.length<=100):Aa [.a7 (r.map D.str),.str j]=Z (if y' j r=γ then .O else .a7 [tp (r.take (r.idxOf j)),tp (r.drop (r.idxOf j+1))]):=by
 let A:Sl:=.I (.a7 (r.map D.str));let J:Sl:=.I (.str j);have c:cT (c2 (j2 γ) ag aa) [A,J,.un,.un]=Z (!decide (j∈r),[A,J,.un,.un]):=v7 (vp O O (AH γ j r));refine xT O ?_;by_cases a:j∈r
 .rw[aY a]at c;have p:=jC.2 a;have i:c2 o? aa ag [A,J,.un,.un]=Z (.int (r.idxOf j:Nat),[A,J,.un,.un]):=vp O O (by
   show (match BU (r.map D.str)with
    |some e=>if j∈e/\e.length<=1000 then Z (D.int (e.idxOf j:Nat))else U
    |none=>U)=_
   rw[Ca];exact aj #v[a,by omega])
  let I:Sl:=.I (dN (r.idxOf j));have l:vM sO [A,J,I,.un]=Z (.a7 [.a7 ((r.take (r.idxOf j)).map D.str),.a7 ((r.drop (r.idxOf j+1)).map D.str)],[A,J,I,.un]):=by
   refine xO (vn (ρ1:=[A,J,I,.un]) ?_ (vn ?_ O)) (bX O)
   .show Z (D.a7 (fg (r.map D.str) U (Z ((r.idxOf j:Nat):Int))),_)=_;rw[Jm _ (by rw[af];omega),fw]
   .show Z (D.a7 (fg (r.map D.str) (Z ((r.idxOf j:Int)+1)) U),_)=_;rw[show (r.idxOf j:Int)+1=((r.idxOf j+1:Nat):Int) from O,F3 _ (by rw[af];omega),fj]
  have m:(decide (r.take (r.idxOf j)=[])||decide (r.drop (r.idxOf j+1)=[]))=y' j r:=by
   unfold y';rw[show decide (¬j∈r)=δ from aZ (λz=>z a),nv];congr 1
   .refine decide_eq_decide.2 #v[λz=>?_,λz=>by rw[z];rfl];have:=bD cO z;rw[cA,du]at this;omega
   .refine decide_eq_decide.2 #v[λz=>?_,λz=>List.drop_of_length_le (by omega)];have:=bD cO z;rw[cW,du]at this;omega
  let K:Sl:=.I (.a7 [.a7 ((r.take (r.idxOf j)).map D.str),.a7 ((r.drop (r.idxOf j+1)).map D.str)]);have f:=acP (r.take (r.idxOf j)) (r.drop (r.idxOf j+1));rw[m]at f;have d:cT (c2 R' (vM vO) au) [A,J,I,K]=Z (y' j r,[A,J,I,K]):=v7 (vp O O f);refine e4 c (vx (vQ (vv i (vx (vQ (vv l (wy (vv (b:=[A,J,I,K]) ?_ O))))))));cases h:y' j r with
  |true=>rw[h]at d;exact LD d
  |false=>rw[h]at d;exact P6 d
 .rw[aZ a]at c;have n:y' j r=γ:=by unfold y';rw[aY a];rfl
  rw[aj n];exact m? c (wy (vv O O))
def fq(v:Vb)(c:Str)(h:cV i ρ=Z (k4 v,ρ)):cT (c2 (b? δ) (c1 (vA yd "form") (cV i)) (cS c)) ρ=Z (decide (v.f=c),ρ):=v7 (vp (we h O) O (xa δ _ _))
def XS{l:aE}(h:cV i ρ=Z (.a7 (l.map D.str),ρ)):c1 wY (cV i) ρ=Z (dN l.length,ρ):=we h (by show Z (D.int _)=_;rw[af])
def len0{l:aE}(h:cV i ρ=Z (.a7 (l.map D.str),ρ)):cT (c2 Gg (c1 wY (cV i)) az) ρ=Z (!decide (l=[]),ρ):=v7 (vp (XS h) O (by
 show Z (D.X (decide ((l.length:Int) > 0)))=_;cases l with
 |nil=>rfl
 |cons x l=>rw[aY (by rw[aS];omega)];rfl))
def sq(f c:Str)(h:cV i ρ=Z (.str f,ρ)):cT (c2 (b? δ) (cV i) (cS c)) ρ=Z (decide (f=c),ρ):=v7 (vp h O (xa δ _ _))
def atL(r:aE)(j:Str):List Nat:=(aB r.length).filter λk=>decide (r.getD k "" = j)
def acR(r:aE)(j:Str)(h:j∉r):atL r j=[]:=by unfold atL;rw[iZ];intro k a e;have a:=bx.1 a;exact h (bj e▸wC a)
def XT(r:aE)(j:Str)(h:j∈r):∃l,atL r j=r.idxOf j::l:=by
 have a:=jC.2 h;have e:(atL r j).head?=Z (r.idxOf j):=by
  unfold atL;rw[qr];refine List.find?_range_eq_some.2 #v[?_,bx.2 a,λk c=>?_]
  .rw[bE,bN,aP a];simpa using p8 a
  .have b:k<r.length:=by omega
   have:=IK c b;rw[c7,decide_eq_false_iff_not,bN,aP b];intro z;rw[show r[k]=j from z]at this;simp at this
 cases q:atL r j with
 |nil=>rw[q]at e;cases e
 |cons x l=>rw[q]at e;cases e;exact#v[l,O]
def XU:∀l:List Nat,b? δ (.a3 (l.map dN)) (.a3 [])=Z (.X (decide (l=[]))):=by
 have h:∀l:List Nat,∃m,xY (l.map dN)=Z m/\xm m=0/\m.length=l.length:=λl=>by
  induction l with
  |nil=>exact#v[[],O,O,O]
  |cons x l e=>obtain⟨m,a,b,c⟩:=e;refine#v[.int x::m,by rw[aU];unfold xY;rw[a];rfl,by unfold xm;rw[b];unfold fc;rfl,by rw[aS,aS,c]]
 intro l;obtain⟨m,a,b,c⟩:=h l;have d:i? (.a3 (l.map dN))=Z (.a3 m):=by unfold i?;rw[a]
 unfold b?;rw[show Gh δ (.a3 (l.map dN)) (.a3 [])=U from O];unfold KL;rw[d,show i? (.a3 [])=Z (.a3 []) from O];simp only;rw[aj (by simp only[aT,bE];exact#v[#v[O,by rw[fc,b];decide],by rw[fc];show 0+1<=20;decide])];cases l<;>cases m<;>first|rfl|cases c
def n_eq(a b:Nat):b? δ (dN a) (dN b)=Z (.X (decide (a=b))):=by rw[x4];congr 2;exact decide_eq_decide.2 (by omega)
def P7(h:c ρ=Z (γ,a)):xC c b ρ=Z (γ,a):=by unfold xC;rw[h]
def pcs(v:Vb)(r:aE):Option (List aE):=if v.f="two" then (if y' (v.j.getD "") r=γ then U else Z [r.take (r.idxOf (v.j.getD "")),r.drop (r.idxOf (v.j.getD "")+1)])else if r=[]then U else Z [r]
set_option r "tps 7;lps 3" in def ϑ0:Option (List aE)->L4.D
 |none=>.O
 |some a=>.aϑ1 (a.map tp)
def afe(v:Vb)(r:aE)(b:r.length<=100)(h:v.f="one" \/ v.f="two" /\ ∃j,v.j=Z j):CO [k4 v,tp r]=Z (tps (pcs v r)):=by
 unfold pcs;rcases h with h|⟨h,j,a⟩
 .rw[h,ak (by decide)];refine xT O (e4 ((fq v "alone" O).t (by rw[h];rfl)) (e4 ((fq v "two" O).t (by rw[h];rfl)) (e4 ((fq v "way" O).t (by rw[h];rfl)) (wy ?_))));have e:=len0 (i:=1) (ρ:=[.I (k4 v),.I (.a7 (r.map D.str))]) O;cases r with
  |nil=>exact vv ((P6 e)) O
  |cons x r=>exact vv ((LD e)) O
 .rw[aj h,a];refine xT O (e4 ((fq v "alone" O).t (by rw[h];rfl)) (m? ((fq v "two" O).t (by rw[aY h])) (wy (vv (vm (vn O (vn (d:=.str j) (we O ?_) O)) (Vk b)) ?_))))
  .show Z (oS v.j)=_;rw[a];rfl
  .show (if y' j r=γ then D.O else _)=tps (if y' j r=γ then _ else _);cases y' j r<;>rfl
def acS(j:Str)(r:aE)(t:r.length<=100):zu [.str "two", .str j,tp r]=Z (if y' j r=γ then .O else .a3 [tp (r.take (r.idxOf j)),tp (r.drop (r.idxOf j+1))]):=by
 let A:Sl:=.I (.str "two");let J:Sl:=.I (.str j);let a:Sl:=.I (.a7 (r.map D.str));have o:cL (vy 1 [1,2] (u3 (c1 wY ai)) (gN 0) (cT (c2 (b? δ) (c2 b1 ai aa) ag)) aa) [A,J,a,.un]=Z (.a3 ((atL r j).map dN),[A,J,a,.un]):=by refine wb (xl (λk:Nat=>dN k) dN (λk=>decide (r.getD k "" = j)) (aB r.length) (M4 (XS O) (by omega)) (by rw[bK];omega) λk c=>#v[[.I (dN k),J,a],[.I (dN k),J,a],O,v7 (vp (vp O O (y9 ?_)) O (xa δ _ _)),λy=>#v[_,O,O],λy=>O]);have c:=bx.1 c;rw[bq,aP c,bN,aP c];rfl
 refine xT O (e4 (sq "two" "alone" O) (m? (sq "two" "two" O) (vx (vQ (vv o ?_)))));let L:Sl:=.I (.a3 ((atL r j).map dN));refine s_g (R:=λp=>p=[A,J,a,L]) O ?_;rintro _ rfl;have e:cT (c2 (b? δ) au (cL (vJ vO))) [A,J,a,L]=Z (decide (atL r j=[]),[A,J,a,L]):=v7 (vp O O (XU _));by_cases b:j∈r
 .obtain⟨l,i⟩:=XT r j b;have q:=jC.2 b;rw[i]at e;have d:c2 b1 au az [A,J,a,L]=Z (dN (r.idxOf j),[A,J,a,L]):=vp O O (by rw[i];exact y9 O);have f:cT (c2 (b? δ) (c2 b1 au az) az) [A,J,a,L]=Z (decide (r.idxOf j=0),[A,J,a,L]):=v7 (vp d O (n_eq _ 0));have q3:cT (c2 (b? δ) (c2 b1 au az) (c2 Eh (c1 wY ai) ay)) [A,J,a,L]=Z (decide (r.idxOf j+1=r.length),[A,J,a,L]):=by refine v7 (vp d (vp (XS O) O O) ?_);rw[x4];congr 2;exact decide_eq_decide.2 (by omega)
  have h:xC (cT (c2 (b? δ) au (cL (vJ vO)))) (xC (cT (c2 (b? δ) (c2 b1 au az) az)) (cT (c2 (b? δ) (c2 b1 au az) (c2 Eh (c1 wY ai) ay)))) [A,J,a,L]=Z (y' j r,[A,J,a,L]):=by
   unfold y';rw[aZ (λz=>z b),nv];refine(yM e ?_);by_cases z:r.idxOf j=0
   .rw[aY z]at f ⊢;unfold xC;rw[f];rfl
   .rw[aZ z]at f ⊢;exact yM f q3
  cases m:y' j r with
  |true=>rw[m]at h;rw[aj O];exact m? h (wy (vv O O))
  |false=>rw[m]at h;rw[ak (by decide)];refine e4 h (Rm (vv (KO (vn (GP O O (Jn d)) (vn (GP O (Jn (vp d O O)) O) O)) (bX O)) ?_));rw[Jm _ (by rw[af];omega),show (((r.idxOf j:Nat):Int)+1)=((r.idxOf j+1:Nat):Int) from O,F3 _ (by rw[af];omega)];unfold tp;rw[fw,fj]
 .rw[acR r j b]at e;have n:y' j r=γ:=by unfold y';rw[aY b];rfl
  rw[aj n];exact m? (by unfold xC;rw[e];rfl) (wy (vv O O))
def aff(v:Vb)(r:aE)(d:r.length<=100)(h:v.f="one" \/ v.f="two" /\ ∃j,v.j=Z j):zu [.str v.f,oS v.j,tp r]=Z (lps (pcs v r)):=by
 unfold pcs;rcases h with h|⟨h,j,c⟩
 .rw[h,ak (by decide)];let A:Sl:=.I (.str "one");let J:Sl:=.I (oS v.j);let b:Sl:=.I (.a7 (r.map D.str));have a:cT (c2 (b? δ) ai (vM vO)) [A,J,b,.un]=Z (decide (r=[]),[A,J,b,.un]):=v7 (vp O O (P5 δ r));refine xT O (e4 (sq "one" "alone" O) (e4 (sq "one" "two" O) ?_));by_cases z:r=[]
  .rw[aY z]at a;rw[aj z];exact m? (P7 a) (wy (vv O O))
  .rw[aZ z]at a;rw[ak z];exact e4 (yM a (Ov (sq "one" "way" O))) (Rm (vv O O))
 .rw[aj h,h,c];refine(acS j r d).t ?_;show Z (if y' j r=γ then D.O else _)=Z (lps (if y' j r=γ then _ else _));cases y' j r<;>rfl
def Nj(q:Str->Bool)(L:aE):(wZ L).filter q=wZ (L.filter q):=
 lh (λa b y y=>IH a b) ((iU Gp Fp L).filter q) (iU Gp Fp _) (((dq L sm).filter q).t (dq _ sm).symm)
def hwB(p:aE)(t:Th):Bool:=p.all λx=>decide (x∈t.w)
def cmdT(v:Vb)(acc:aE):L4.D:=.a7 [.str "command", .a7 [.str v.n,(acc.map D.str++[D.O,D.O]).getD 0 D.O,(acc.map D.str++[D.O,D.O]).getD 1 D.O]]
def P8(p:aE):L4.D:=.a7 [.str "none", tp p]
def LF(p l:aE):L4.D:=.a7 [.str "which", tp p,tp l]
def Wo(v:Vb)(f:aE->aE):List aE->aE->L4.D
 |[],acc=>cmdT v acc
 |p::a,acc=>match f p with
  |[]=>P8 p
  |[x]=>Wo v f a (acc++[x])
  |l=>LF p l
def Nk{v:Vb}{f:aE->aE}{a:List aE}{m:Nat}{p:aE}(h:a[m]?=Z p)(acc:aE):Wo v f (a.drop m) acc=match f p with
  |[]=>P8 p
  |[x]=>Wo v f (a.drop (m+1)) (acc++[x])
  |l=>LF p l:=by
 obtain⟨b,e⟩:=cj.1 h;rw[ic b,e];rfl
section
variable{V:List Vb}
def YX(g:ea T M a W)(b:t∈T)(p:aE)(d:p.length<=100):y7 [wO T M a W V R c,.str t.n,tp p]=Z (.X (hwB p t)):=by let w:=wO T M a W V R c;refine xT O (wy (vv (we (wb (xw D.str (λx=>.X (decide (x∈t.w))) p O (by omega) λx y=>#v[[.I (.str x),.I (.str t.n),.I w],[.I (.str x),.I (.str t.n),.I w],O,vp O (we (OB O O O O (zY g.vf b)) O) (AH δ x t.w),O])) (KZ p λx=>decide (x∈t.w))) O))
def XW(s:u? T M f W P a):∃Q:Str->Bool,EK [wO T M f W V R c,sP P (va a m)]=Z ((wZ ((T.filter λt=>Q t.n).map Th.n)).map D.str):=by
 let w:=wO T M f W V R c;let S:=sP P (va a m);have hT:=s.g.len;let q:=λx=>match xx [w,S,.str x]with
  |some (.X b)=>b
  |_=>δ
 have h:∀t∈T,xx [w,S,.str t.n]=Z (.X (q t.n)):=λt d=>by obtain⟨b,e⟩:=LB s d;show _=Z (D.X (match xx [w,S,.str t.n]with|some (.X b)=>b|_=>δ));rw[e]
 let p:Th->Bool:=λt=>q t.n;have e:=xl (k:=1) (d3:=[0,1]) (g:=gN 0) (ft:=cT (vq xx jz)) (fe:=cV 0) (ρ:=[.I w,.I S]) (s:=iL (vR yy "names" aa vO)) (λt:Th=>D.str t.n) (λt:Th=>D.str t.n) p T (Dm (v5 O O O O (Ki T hT))) (by omega) λt d=>#v[[.I (.str t.n),.I w,.I S],[.I (.str t.n),.I w,.I S],O,v7 (vm O (h t d)),λy=>#v[_,O,O],λy=>O];refine#v[q,z4 (ρ:=[.I w,.I S]) O (xB ?_)];show Cr _ [.I w,.I S]=_;unfold Cr;rw[wb e];simp only;rw[show ((T.filter p).map λt=>D.str t.n)=((T.filter p).map Th.n).map D.str by rw[aX];rfl,Ca];simp only;rw[aj (by rw[af];exact gn (cq _ _) (by omega))]
def Hs(T:List Th)(Q:Str->Bool)(p:aE):aE:=wZ (((T.filter λt=>Q t.n).filter (hwB p)).map Th.n)
def Jo(L:aE):(wZ L).length=L.length:=(dq L sm).length_eq
def gt1(n:Nat):Gg (dN n) (D.int 1)=Z (.X (decide (1<n))):=by show Z (D.X (decide ((n:Int) > 1)))=_;congr 2;exact decide_eq_decide.2 (by omega)
def Vl(g:ea T M d W)(Q:Str->Bool)(p:aE)(f:p.length<=100):cL (vy 1 [0,6] (iL aG) (gN 0) (cT (vq y7 (ax ag dj))) aa) [.I (wO T M d W V R c),A,B,E,.I (.a3 ((wZ ((T.filter λt=>Q t.n).map Th.n)).map D.str)),F,.I (tp p),X,Y]=Z (.a3 ((Hs T Q p).map D.str),[.I (wO T M d W V R c),A,B,E,.I (.a3 ((wZ ((T.filter λt=>Q t.n).map Th.n)).map D.str)),F,.I (tp p),X,Y]):=by
 have hT:=g.len;let w:=wO T M d W V R c;let q:=λx=>match y7 [w,.str x,tp p]with
  |some (.X b)=>b
  |_=>δ
 have h:∀t∈T,q t.n=hwB p t:=λt a=>by show (match y7 [w,.str t.n,tp p]with|some (.X b)=>b|_=>δ)=_;rw[YX g a p f]
 have e:Hs T Q p=(wZ ((T.filter λt=>Q t.n).map Th.n)).filter q:=by rw[Nj,qS];unfold Hs;congr 2;exact qp λt a=>(h t (aO.1 a).1).symm
 rw[e];refine wb (xl D.str D.str q (wZ ((T.filter λt=>Q t.n).map Th.n)) O ?_ λx i=>?_)
 .rw[Jo,af];exact bz (cq _ _) (by omega)
 .obtain⟨t,a,rfl⟩:=aw.1 ((dq _ sm).mem_iff.1 i);have a:=(aO.1 a).1;exact#v[[.I (.str t.n),.I w,.I (tp p)],[.I (.str t.n),.I w,.I (tp p)],O,v7 (vm O ((YX g a p f).t (by rw[h t a]))),λy=>#v[_,O,O],λy=>O]
def acT(s:u? T M o W P a)(A:EK [wO T M o W V R c,sP P (va a m)]=Z ((wZ ((T.filter λt=>Q t.n).map Th.n)).map D.str))(v:Vb)(u:∀p∈j,p.length<=100)(r:j.length<=2):BG [wO T M o W V R c,sP P (va a m),k4 v,.a7 (j.map tp)]=Z (Wo v (Hs T Q) j []):=by
 let w:Sl:=.I (wO T M o W V R c);let S:Sl:=.I (sP P (va a m));let B:Sl:=.I (k4 v);let E:Sl:=.I (.a7 (j.map tp));let L:Sl:=.I (.a3 ((wZ ((T.filter λt=>Q t.n).map Th.n)).map D.str));let J:=λ(i:Nat) (C:bh)=>∃(acc:aE) (x y:Sl),C=[w,S,B,E,L,.ls (acc.map D.str),x,y,.un]/\acc.length<=i/\Wo v (Hs T Q) j []=Wo v (Hs T Q) (j.drop i) acc;refine xT O (vx (vQ (vv (wb (vm O A)) ?_)));refine vx (Ab O (vx (Ec (vv O #v[J,#v[[],_,_,O,aH _,O],?_,?_]))))
 .rintro i d _ hd ⟨acc,x,y,rfl,h,b⟩;rw[bq]at hd;obtain⟨p,hpi,rfl⟩:=fL.1 hd;have F:=(cj.1 hpi).1;rw[Nk hpi]at b;refine#v[[w,S,B,E,L,.ls (acc.map D.str),.I (tp p),y,.un],O,vx (vQ (vv (Vl s.g Q p (u p (cf hpi))) ?_))];refine s_g O ?_;rintro _ rfl;generalize Hs T Q p=N at b ⊢;have e:cT (c2 (b? δ) (c1 wY b9) az) [w,S,B,E,L,.ls (acc.map D.str),.I (tp p),.I (.a3 (N.map D.str)),.un]=Z (decide (N.length=0),[w,S,B,E,L,.ls (acc.map D.str),.I (tp p),.I (.a3 (N.map D.str)),.un]):=v7 (vp (Ke D.str O) O (n_eq _ 0));have f:cT (c2 Gg (c1 wY b9) ay) [w,S,B,E,L,.ls (acc.map D.str),.I (tp p),.I (.a3 (N.map D.str)),.un]=Z (decide (1<N.length),[w,S,B,E,L,.ls (acc.map D.str),.I (tp p),.I (.a3 (N.map D.str)),.un]):=v7 (vp (Ke D.str O) O (gt1 _))
  match N,b,e,f with
  |[],b,e,f=>exact m? e (wy (vv O b.symm))
  |[z],b,e,f=>exact e4 e (e4 f (EV (vv (zB O O O (by rw[af];omega)) #v[acc++[z],_,_,by rw[aV];rfl,by rw[aA];exact jY h,b])))
  |z::q::l,b,e,f=>rw[show decide (1<(z::q::l).length)=γ from aY (by rw[aS,aS];omega)]at f;exact e4 e (m? f (wy (vv O b.symm)))
 .rintro _ ⟨acc,x,y,rfl,h,b⟩;rw[af]at h b;rw[mN]at b;rw[b]
  match acc,h with
  |[],_=>exact vx (vQ (vv O (wy (vv O O))))
  |[z],_=>exact vx (vQ (vv O (wy (vv O O))))
  |[z,q],_=>exact vx (vQ (vv O (wy (vv O O))))
  |_::_::_::l,h=>exact ar (bz h r) (by simp)
end
def ans(v:Vb)(f:aE->aE)(r:aE):L4.D:=match pcs v r with
 |none=>Vj v.n
 |some a=>Wo v f a []
def Vm(h:pcs v r=Z b):b.length<=2/\∀p∈b,p.length<=r.length:=by
 unfold pcs at h;split at h
 .split at h
  .cases h
  .cases h;refine#v[aH 2,λp a=>?_];rcases aJ.1 a with rfl|a
   .exact lI ..
   .rw[br.1 a,cW];omega
 .split at h
  .cases h
  .cases h;exact#v[dw 1,λp a=>by rw[br.1 a];exact aH _]
def V12(v:Vb):Prop:=v.f="one" \/ v.f="two" /\ ∃j,v.j=Z j
theorem V12.way(h:V12 v):decide (v.f="way")=δ:=by rcases h with h|⟨h,_⟩<;>rw[h]<;>rfl
def XX(h:xY (x::a)=Z l)(hd:xm l<=19):b? δ (.a3 (x::a)) (.a3 [])=Z (.X δ):=by
 have b:i? (.a3 (x::a))=Z (.a3 l):=by unfold i?;rw[h]
 unfold b?;rw[show Gh δ (.a3 (x::a)) (.a3 [])=U from O];unfold KL;rw[b,show i? (.a3 [])=Z (.a3 []) from O];simp only;rw[aj (by simp only[aT,bE];exact#v[#v[O,by rw[fc];omega],by rw[fc];show 0+1<=20;decide])];cases l with
 |nil=>
  unfold xY at h;split at h
  .split at h<;>cases h
  .cases h
 |cons y l=>rfl
theorem P9:∀l:List Vb,∃m,xY (l.map l?)=Z m/\xm m<=2
 |[]=>#v[[],O,by decide]
 |v::l=>by
  obtain⟨m,b,c⟩:=P9 l;obtain⟨i,p⟩:=D8 v.o;have a:∃j,i? (oS v.j)=Z j/\fc j=0:=by cases v.j with
   |none=>exact#v[_,O,by unfold fc;rfl]
   |some x=>exact#v[_,O,by unfold fc;rfl]
  obtain⟨j,d,h⟩:=a;have e:i? (l? v)=Z (.a7 [.str v.n,.a7 (v.o.map L3.Dq.str),.str v.f,j]):=by
   show (match xY [.str v.n,.a7 (v.o.map D.str),.str v.f,oS v.j]with
    |some l=>Z (L3.Dq.a7 l)
    |none=>U)=_
   have:xY [.str v.n,.a7 (v.o.map D.str),.str v.f,oS v.j]=Z [.str v.n,.a7 (v.o.map L3.Dq.str),.str v.f,j]:=by unfold xY;rw[show i? (.str v.n)=Z (.str v.n) from O];unfold xY;rw[i];unfold xY;rw[show i? (.str v.f)=Z (.str v.f) from O];unfold xY;rw[d];rfl
   rw[this]
  refine#v[.a7 [.str v.n,.a7 (v.o.map L3.Dq.str),.str v.f,j]::m,by rw[aU];unfold xY;rw[e,b],?_];refine sy.2 #v[?_,c];rw[fc];simp only[xm,(AB v.o).2,h,fc];decide
section
variable{T:List Th}{M:List Mk}{dk:aE}{W:List Wy}{V:List Vb}{R:List L4.D}{c:L4.D}{P:List Ky}{a:Str->Str}{m:Str->Int}{Q:Str->Bool}{v:Vb}{y:Str}{r:aE}
def XY(s:u? T M dk W P a)(l:EK [wO T M dk W V R c,sP P (va a m)]=Z ((wZ ((T.filter λt=>Q t.n).map Th.n)).map D.str))(u:((V++v9).flatMap Vb.ws).Nodup)(o:CN [.str x]=Z (tp (y::r)))(b:r.length<=100)(f:fdV (V++v9) y=Z v)(d:V12 v):Of [wO T M dk W V R c,sP P (va a m),.str x]=Z (ans v (Hs T Q) r):=by
 let w:=wO T M dk W V R c;let A:Sl:=.I w;let S:Sl:=.I (sP P (va a m));let X:Sl:=.I (.str x);have z:yf [w,.str y]=Z (k4 v):=xT O (wy (vv (vp O O (Vi u y)) (by rw[f];rfl)));refine xT O (vx (vQ (vv (vm O o) ?_)));let e:Sl:=.I (tp (y::r));refine s_g O ?_;rintro _ rfl;have q:=len0 (i:=3) (ρ:=[A,S,X,e,.un,.un,.un]) O;refine vx (vQ (vv ((LD q).t (vp O O (y9 O))) (vx (vQ (vv (v5 O O O O z) ?_)))));refine e4 O (vx (vQ (vv (vm (vn O (vn (YW O) O)) (afe v r b d)) ?_)));unfold ans;cases j:pcs v r with
 |none=>exact m? O (wy (vv O O))
 |some B=>obtain⟨p2,pl⟩:=Vm j;exact e4 O (e4 ((fq v "way" O).t (by rw[d.way])) (wy (vv (vm O (acT s l v (λp h=>bz (pl p h) b) p2)) O)))
def Vn(l:aE):tm (.a3 (l.map D.str)) (.a3 [])=Z (.X (decide (l=[]))):=by cases l<;>rfl
def acU(p:aE)(t:Th):decide (p.filter (λx=>!decide (x∈t.w))=[])=hwB p t:=by
 unfold hwB;cases h:p.all λx=>decide (x∈t.w)with
 |true=>exact aY (iZ.2 λx b=>by rw[aK.1 h x b];decide)
 |false=>
  refine aZ λz=>?_;rw[aK.2 λx b=>?_]at h
  .cases h
  .have:=iZ.1 z x b;cases q:decide (x∈t.w)with
   |true=>rfl
   |false=>rw[q]at this;exact ar O this
def Vo(b:t∈T):decide (t.n∈wZ ((T.filter λt=>Q t.n).map Th.n))=Q t.n:=by
 cases h:Q t.n with
 |true=>exact aY ((dq _ sm).mem_iff.2 (bY (aO.2 #v[b,h])))
 |false=>refine aZ λz=>?_;obtain⟨u,d,e⟩:=aw.1 ((dq _ sm).mem_iff.1 z);have:=(aO.1 d).2;rw[e,h]at this;cases this
def qT(Q:Str->Bool)(p:aE)(t:Th):Bool:=Q t.n&&hwB p t
def afh(p:aE):Hs T Q p=wZ ((T.filter (qT Q p)).map Th.n):=by
 unfold Hs;rw[List.filter_filter];congr 3
 funext t
 exact Bool.and_comm _ _
def Qa{c d:FT}{ρ b:bh}(e:c ρ=Z (δ,b)):xE c d ρ=Z (δ,b):=by unfold xE;rw[e]
def Vp{W:List Wy}(g:ea T M dk W){m:Nat}(hm:m<64){RS:List Rs}(hr:r.length<=100)(hf:fdV (vL m++v9) y=Z v)(hv:V12 v):DU [PD T M dk W m RS,.a3 ((wZ ((T.filter λt=>Q t.n).map Th.n)).map D.str),tp (y::r)]=Z (ans v (Hs T Q) r):=by
 let V:=vL m++v9;have lV:=DV m;have lT:=g.len;have l9:v9.length=9:=rfl;let P:Sl:=.I (PD T M dk W m RS);let B:Sl:=.I (.a3 ((wZ ((T.filter λt=>Q t.n).map Th.n)).map D.str));let C:Sl:=.I (.a7 ((y::r).map D.str));refine xT O ?_;have q0:cT (c2 (b? δ) ai (vM vO)) [P,B,C,.un,.un,.un,.un,.un,.un,.un,.un,.un,.un]=Z (decide (y::r=[]),[P,B,C,.un,.un,.un,.un,.un,.un,.un,.un,.un,.un]):=v7 (vp O O (P5 δ (y::r)));refine e4 q0 ?_;let p:Vb->Bool:=λv=>decide (y∈v.ws);have hx:∀{ρ:bh} {i:Nat},cV i ρ=Z (.a7 ((y::r).map D.str),ρ)->c2 b1 (cV i) az ρ=Z (.str y,ρ):=λh=>vp h O (y9 O);have e1:=xl (k:=1) (d3:=[2]) (g:=gN 0) (ft:=xC (cT (c2 (b? δ) (c2 b1 ag az) (c2 b1 aa az))) (cT (c2 (j2 δ) (c2 b1 ag az) (c2 b1 aa ay)))) (fe:=cV 0) (s:=iL (cL (xi (c2 b1 aa ck) (cL (wm xK vO))))) (ρ:=[P,B,C,.un,.un,.un,.un,.un,.un,.un,.un,.un,.un]) l? l? p V
  (Dm ((wb (xn O (wb (vm O Jh)) (by rw[af,af];omega))).t (by rw[<-aV]))) (by rw[aA];omega) λv c=>#v[[.I (l? v),C],[.I (l? v),C],O,?_,λc=>#v[_,O,O],λc=>O]
 .refine vx (vQ (vv (wb e1) ?_));rw[show fdV (vL m++v9) y=(V.filter p).head? from(qr ..).symm]at hf;refine s_g O ?_;rintro _ rfl;cases hF:V.filter p with
  |nil=>rw[hF]at hf;cases hf
  |cons v' F=>
   rw[hF]at hf;cases hf;obtain⟨k,k1,k2⟩:=P9 (v::F);refine e4 (v7 (vp O O (XX k1 (by omega)))) ?_;let L:Sl:=.I (.a3 ((v::F).map l?));let X:Sl:=.I (.str v.n);let Y:Sl:=.I (.a7 (v.o.map D.str));let A6:Sl:=.I (.str v.f);let A7:Sl:=.I (oS v.j);refine vx (Lm (vv (vp O O (y9 O)) #v[[P,B,C,L,X,Y,A6,A7,.un,.un,.un,.un,.un],O,?_]));refine vx (vQ (vv (vm (vn O (vn O (vn (YW O) O))) (aff v r hr hv)) ?_));unfold ans;cases hp:pcs v r with
   |none=>exact m? O (wy (vv O O))
   |some ps=>
    obtain⟨p2,pl⟩:=Vm hp;let E:Sl:=.I (.a3 (ps.map tp));let J:=λ(i:Nat) (ρ:bh)=>∃(acc:aE) (x z u:Sl),ρ=[P,B,C,L,X,Y,A6,A7,E,.ls (acc.map D.str),x,z,u]/\acc.length<=i/\Wo v (Hs T Q) ps []=Wo v (Hs T Q) (ps.drop i) acc;refine e4 O (e4 ((sq v.f "way" O).t (by rw[hv.way])) (vx (Ab O (vx (Ec (vv O #v[J,#v[[],_,_,_,O,aH _,O],?_,?_]))))))
    .rintro i d _ hd ⟨acc,x,z,u,rfl,S,A⟩;rw[bq]at hd;obtain⟨q,hpi,rfl⟩:=fL.1 hd;have hi:=(cj.1 hpi).1;have hq:=bz (pl q (cf hpi)) hr;rw[Nk hpi,afh]at A;let G:=λl s=>[P,B,C,L,X,Y,A6,A7,E,.ls (acc.map D.str),.I (tp q),.ls l,s];refine#v[[P,B,C,L,X,Y,A6,A7,E,.ls (acc.map D.str),.I (tp q),z,u],O,vx (Ab O (vx (Ec (vv O #v[λi ρ=>∃s:Sl,ρ=G ((((T.take i).filter (qT Q q)).map Th.n).map D.str) s,#v[_,O],?_,?_]))))]
     .rintro i d _ hd ⟨s,rfl⟩;rw[bq]at hd;obtain⟨t,ht,rfl⟩:=fL.1 hd;have mt:=cf ht;generalize hl:((T.take i).filter (qT Q q)).map Th.n=l;have ll:l.length<=13:=by rw[<-hl,af];exact bz (cq _ _) (by rw[cA];omega)
      have ta:(((T.take (i+1)).filter (qT Q q)).map Th.n)=l++(if qT Q q t=γ then [t.n]else []):=by
       rw[gu,ht,mm,aV,hl];congr 1;show ([t].filter (qT Q q)).map Th.n=_;cases h:qT Q q t with
       |true=>rw[jF h];rfl
       |false=>rw[lp (by rw[h];decide)];rfl
      let ρ:=G (l.map D.str) (.I (i0 t));have H:cT (c2 (j2 δ) (c2 b1 dF az) ag) ρ=Z (Q t.n,ρ):=(v7 (vp (vp O O O) O (zf δ t.n _))).t (by rw[Vo mt];rfl);have c2':cT (c2 tm (cL (vy 1 [12] (iT f6) (gN 0) (cT (c2 (j2 γ) aa (c2 b1 ag ay))) aa)) (cL (vJ vO))) ρ=Z (hwB q t,ρ):=by have e:=xl (k:=1) (d3:=[12]) (g:=gN 0) (ft:=cT (c2 (j2 γ) aa (c2 b1 ag ay))) (fe:=cV 0) (ρ:=ρ) (s:=iT f6) D.str D.str (λx=>!decide (x∈t.w)) q O (by omega) λx c=>#v[[.I (.str x),.I (i0 t)],[.I (.str x),.I (i0 t)],O,v7 (vp O (vp O O O) (AH γ x t.w)),λc=>#v[_,O,O],λc=>O];exact v7 (vp (wb e) O ((Vn _).t (by rw[acU])))
      have c3:xE (cT (c2 (j2 δ) (c2 b1 dF az) ag)) (cT (c2 tm (cL (vy 1 [12] (iT f6) (gN 0) (cT (c2 (j2 γ) aa (c2 b1 ag ay))) aa)) (cL (vJ vO)))) ρ=Z (qT Q q t,ρ):=by
       unfold qT;cases h:Q t.n with
       |true=>rw[h]at H;exact BL H c2'
       |false=>rw[h]at H;exact Qa H
      refine#v[ρ,O,?_];cases h:qT Q q t with
      |true=>rw[h]at c3;exact s_y c3 (EV (vv (zB O O O (by rw[af];omega)) #v[_,by rw[ta,h,aj O,aV];rfl]))
      |false=>rw[h]at c3;exact s_n c3 (Ab O #v[_,by rw[ta,h,ak (by decide),bZ]])
     .rintro _ ⟨s,rfl⟩;rw[af,mQ];have lq:((T.filter (qT Q q)).map Th.n).length<=13:=by rw[af];exact bz (cq _ _) lT
      generalize (T.filter (qT Q q)).map Th.n=N at A lq ⊢
      match N,A,lq with
      |[],A,_=>exact m? O (wy (vv (vp O O O) (by rw[show wZ ([]:aE)=[] from fK.1 (Jo [])]at A;exact A.symm)))
      |[b],A,_=>exact e4 O (EV (vv (zB O O O (by rw[af];omega)) #v[acc++[b],_,_,_,by rw[aV];rfl,by rw[aA];exact jY S,by rw[show wZ [b]=[b] from pO.1 (dq [b] sm)]at A;exact A]))
      |b::b'::l,A,lq=>
       obtain⟨N,hN⟩:∃N,b::b'::l=N:=#v[_,O];have h2:2<=N.length:=by rw[<-hN,aS,aS];omega
       rw[hN]at A lq ⊢;let ρ:=G (N.map D.str) s;let I:=[P,B,C,L,X,Y,A6,A7,E,.ls (acc.map D.str),.I (tp q),.I (.a3 (N.map D.str)),s];obtain⟨z1,z2,l',ez⟩:∃z1 z2 l',wZ N=z1::z2::l':=by
        have:=Jo N
        match h:wZ N,this with
        |[],z=>rw[du]at z;omega
        |[_],z=>rw[cR]at z;omega
        |z1::z2::l',_=>exact#v[z1,z2,l',O]
       have k1:b? γ (dN N.length) (D.int 1)=Z (.X γ):=by rw[x4];rw[aZ (by omega)];rfl
       obtain⟨t1,t2⟩:=AB N;have k2:=Kx t1 (by omega);rw[aZ (by rw[<-hN];exact λz=>by cases z)]at k2;have e1:Cr (rm 11) ρ=Z ((wZ N).map D.str,I):=by unfold Cr;rw[show rm 11 ρ=Z (.a3 (N.map D.str),I) from O];simp only;rw[Ca];simp only;rw[aj (by omega)]
       have e2:cL (vJ sF) ρ=Z (.a3 [P8 q,LF q (wZ N)],I):=wb (KO (vn O (vn (xO (vn O (vn O (vn (by show zd _ ρ=_;unfold zd;rw[wb e1];rfl) O))) (bX O)) O)) (bX O));rw[ez]at A;exact m? (O3 (v7 (vp (Ke D.str O) O k1))) (wy (vv (vp e2 (NU (we (vp O O k2) O) O) O) (by rw[ez];exact A.symm)))
    .rintro _ ⟨acc,x,z,u,rfl,S,A⟩;rw[af]at S A;rw[mN]at A;show Ws _ _ (λd c=>d=Wo v (Hs T Q) ps []);rw[A]
     match acc,S with
     |[],_=>exact wy (vv O O)
     |[b],_=>exact wy (vv O O)
     |[b,b'],_=>exact wy (vv O O)
     |_::_::_::l,S=>exact ar (bz S p2) (by simp)
 .have a1:cT (c2 (b? δ) (c2 b1 ag az) (c2 b1 aa az)) [.I (l? v),C]=Z (decide (y=v.n),[.I (l? v),C]):=v7 (vp (hx O) O (xa δ _ _));have a2:cT (c2 (j2 δ) (c2 b1 ag az) (c2 b1 aa ay)) [.I (l? v),C]=Z (decide (y∈v.o),[.I (l? v),C]):=v7 (vp (hx O) O (AH δ _ _));by_cases z:y=v.n
  .rw[aY z]at a1;unfold xC;rw[a1];show _=Z (decide (y∈v.n::v.o),_);rw[aY (by rw[z];exact ba)]
  .rw[aZ z]at a1;refine(yM a1 a2).t ?_;congr 2;exact decide_eq_decide.2 #v[bb _,λh=>(aJ.1 h).resolve_left z]
end
def arL:aE:=["", "the ", "", "a  ", "the a ", "", ""]
def tsL:aE:=["", "the", " a "]
def afi(h:a∈arL):Eb (cd a)/\Wd (cd a)=[]/\a.length<=6:=by have h:=aK.1 (show (arL.all λa=>(decide (cd a=[])||decide (cd a=(cd a).dropLast++[32]))&&(decide (Wd (cd a)=[])&&decide (a.length<=6)))=γ by kernel_rfl) a h;simp only[aT,gE,bE]at h;exact#v[h.1.imp_right λz=>#v[_,z],h.2.1,h.2.2]
def afj(h:a∈tsL):Wd (cd a)=[]/\a.length<=6:=by have h:=aK.1 (show (tsL.all λa=>decide (Wd (cd a)=[])&&decide (a.length<=6))=γ by kernel_rfl) a h;simp only[aT,bE]at h;exact h
def Vq(h:k<=2):Iy (.str " ") (dN k)=Z (.str (fC " " (k:Int))):=by show (if _ then _ else _)=_;rw[aj #v[by omega,by omega,by decide +kernel]]
def m3(n:Nat):n % 3=0\/n % 3=1\/n % 3=2:=(by decide:∀k<3,k=0\/k=1\/k=2) _ (aM n (by decide))
def Vr{ws:aE}(n:Nat)(W:ws.length<=14)(F:∀w∈ws,GW w):∃x,zt [.a3 (ws.map D.str),dN n]=Z (.str x)/\Wd (cd x)=ws.map cd/\x.length<=300:=by
 let z:Sl:=.I (.a3 (ws.map D.str));let N:Sl:=.I (dN n)
 suffices h:∃d,zt [.a3 (ws.map D.str),dN n]=Z d/\∃x,d=.str x/\Wd (cd x)=ws.map cd/\x.length<=300 by obtain⟨_,e,x,rfl,h⟩:=h;exact#v[x,e,h]
 have B:n % 3<=2:=by have:=aM n (show 0<3 by decide);omega
 obtain⟨A,T⟩:=YV (n % 3) B;refine F0 O (vx (vQ (vv (vp O (vp O O (md (b:=3) (by decide))) (Vq B)) (vx (Ec (vv (M4 (Ke D.str O) (by omega)) #v[λi f=>∃(x:Str) (u y:Sl),f=[z,N,.I (.str x),u,y]/\Wd (cd x)=(ws.take i).map cd/\Eb (cd x)/\x.length<=2+20 * i,#v[_,_,_,O,?_,?_,by omega],?_,?_]))))))
 .rw[A];obtain h|h|h:=m3 n
  all_goals rw[h];rfl
 .rw[A];obtain h|h|h:=m3 n
  .rw[h];exact .inl O
  .rw[h];exact .inr #v[[],O]
  .rw[h];exact .inr #v[[32],O]
 .rintro i _ _ hd ⟨x,u,y,rfl,m,r,q3⟩;obtain⟨l,rfl⟩:=GN hd;let a:=arL.getD (n / (5+3 * i) % 7) "";have P:a∈arL:=wC (aM _ (by decide));obtain⟨a1,E,S⟩:=afi P;let w:=ws.getD i "";have Q:w∈ws:=wC l;have q:=F w Q;have wl:=q.le;let k:=1+n / (7+5 * i) % 2;have G:=by show 1+n / (7+5 * i) % 2=1\/1+n / (7+5 * i) % 2=2;omega
  obtain⟨H,I⟩:=YV k (by omega);have C:∀(c e j:Nat),c<100->e<100->∀f:bh,cV 3 f=Z (dN i,f)->c2 wH (cC (dN c)) (c2 yZ (cC (dN e)) au) f=Z (dN (c+e * i),f):=λc e j X Y f h=>vp O (vp O h (yD (.inl (DA (by omega) (by omega))))) O;refine#v[_,O,vx (vQ (vv (vp O (vp (vp O (C 5 3 0 (by decide) (by decide) _ O) (dv (by omega) (by omega))) O (md (by decide))) (DW (L:=arL) (aM _ (by decide)))) (vQ (vv (a:=.str (x++a++w++fC " " (k:Int))) (b:=[z,N,.I (.str x),.I (dN i),.I (.str a)]) ?_ ?_))))]
  .refine vp (vp (vp O O (Ka (b:=a) (by omega) (by omega))) (vp O O (DW l)) (Ka (by rw[yK,BK,aA,<- yK,<- yK];omega) (by show w.length<=20000;omega))) (vp O (vp O (vp (vp O (C 7 5 0 (by decide) (by decide) _ O) (dv (by omega) (by omega))) O (md (by decide))) O) (Vq (k:=k) (by omega))) (Ka ?_ (by rw[I];omega));rw[yK,BK,BK,aA,aA,<- yK,<- yK,<- yK];show _+_+w.length<=20000;omega
  .have p:cd (x++a++w++fC " " (k:Int))=cd x++cd a++cd w++eZ k 32:=by rw[BK,BK,BK,H]
   obtain⟨J,M⟩:=XR r a1 E q.fr q.kp G;refine#v[_,_,_,O,?_,by rw[p];exact M,?_]
   .rw[p,J,m,gu,aV];rw[show ws[i]?=Z w by rw[aP l];show _=Z (ws.getD i "");rw[bN,aP l];rfl];rfl
   .have o:=bD cO p;rw[aA,aA,aA,c6]at o;rw[<-yK,<- yK,<- yK,<- yK]at o;rw[o];omega
 .rintro _ ⟨x,u,y,rfl,m,r,q3⟩;rw[af,bK]at m q3;let t:=tsL.getD (n / 3 % 3) "";obtain⟨R,t2⟩:=afj (a:=t) (wC (aM _ (by decide)));refine wy (vv (a:=.str (x++t)) (vp O (vp O (vp (vp O O (dv (by decide) (by decide))) O (md (by decide))) (DW (L:=tsL) (aM _ (by decide)))) (Ka (by omega) (by show t.length<=20000;omega))) #v[_,O,?_,?_])
  .rw[BK,Vf r,R,bZ,m,mQ]
  .rw[yK,BK,aA,<- yK,<- yK];omega
def zk:aE:=["zzz", "key"]
def pwL:aE:=wpL++zk
def plS:aE:=(v6++v9).flatMap Vb.ws++((v6++v9).filterMap Vb.j++pwL)
def afk(h:x∈plS):GW x:=afb (aK.1 (show (plS.all gwB)=γ by kernel_rfl) x h)
def sx(l:aE)(a b:Option Int):∃c:aE,fg (l.map D.str) a b=c.map D.str/\c.length<=l.length/\∀x∈c,x∈l:=#v[(l.drop _).take _,by unfold fg;rw[fw,fj],bz (lI ..) (by rw[cW];exact sA ..),λx h=>lG (pC h)]
def LG(e:f ρ=Z (tp c,d))(i:h d=Z (tp b,a))(j:c.length+b.length<=900):G8 f h ρ=Z (tp (c++b),a):=by
 unfold G8;rw[e];show (match h d with
  |some (.a7 b,a)=>if (c.map D.str).length+b.length<=900 then Z (D.a7 (c.map D.str++b),a)else U
  |_=>U)=_
 rw[i];show (if (c.map D.str).length+(b.map D.str).length<=900 then _ else _)=_;rw[af,af,aj j];unfold tp;rw[aV]
def acV(k:Kd):b? γ (.str k.s) (.str "you")=Z (.X (!decide (k=.you))):=by cases k<;>kernel_rfl
def afl{k:Kd}(a:k≠.room)(b:k≠.you):k.pl=γ:=by cases k<;>first|rfl|exact ar O a|exact ar O b
theorem Vt:∀{V:List Vb},(V.flatMap Vb.ws).Nodup->v∈V->y∈v.ws->fdV V y=Z v
 |[],_,h,_=>by cases h
 |u::V,c,a,b=>by
  rw[fO]at c;obtain⟨_,d,e⟩:=cn.1 c;unfold fdV;rw[eX];rcases aJ.1 a with rfl|a
  .rw[aY b]
  .rw[aZ λz=>e y z y (c8.2 #v[v,a,b]) O];exact Vt d a b
section
variable{T:List Th}{M:List Mk}{dk:aE}{W:List Wy}
theorem Kl(g:ea T M dk W)(n:Nat):∃ws,xM [.a3 (T.map i0),dN n]=Z (tp ws)/\ws.length<=6/\∀x∈ws,x∈pwL:=by
 have lT:=g.len;let A:Sl:=.I (.a3 (T.map i0));let N:Sl:=.I (dN n);let p:Th->Bool:=λt=>!decide (t.k=.room)&&!decide (t.k=.you);let F:=(T.filter p).map Th.w++[zk];have lF:0<F.length:=by show 0<(_++[_]).length;rw[aA];exact j9 _
 have hF:∀l∈F,l.length<=3/\∀x∈l,x∈pwL:=λl m=>by
  rcases aW.1 m with h|h
  .obtain⟨t,S,rfl⟩:=aw.1 h;obtain⟨mt,z⟩:=aO.1 S;simp only[p,aT,c7,decide_eq_false_iff_not]at z;obtain⟨a,b⟩:=g.wl t mt (afl z.1 z.2);exact#v[a,λx B=>bJ _ (b x B)]
  .rw[br.1 h];exact#v[dw 2,λx B=>bB _ B]
 have Q:=xl (k:=1) (d3:=[]) (g:=gN 0) (fe:=c2 b1 aa ay) (s:=iL aa) (ρ:=[A,N,.un,.un,.un,.un]) i0 (λt=>tp t.w) p T O (by omega) λt _=>#v[[.I (i0 t)],[.I (i0 t)],O,by
  have a1:cT (c2 (b? γ) (c2 b1 aa bA) cz) [.I (i0 t)]=Z (!decide (t.k=.room),[.I (i0 t)]):=v7 (vp (vp O O O) O (UN t.k));have j:cT (c2 (b? γ) (c2 b1 aa bA) hU) [.I (i0 t)]=Z (!decide (t.k=.you),[.I (i0 t)]):=v7 (vp (vp O O O) O (acV t.k));show _=Z (!decide (t.k=.room)&&!decide (t.k=.you),_);cases h:!decide (t.k=.room)with
  |true=>rw[h]at a1;exact BL a1 j
  |false=>rw[h]at a1;exact Qa a1,λ_=>#v[_,O,O],λ_=>O]
 suffices h:∃d,xM [.a3 (T.map i0),dN n]=Z d/\∃ws,d=tp ws/\ws.length<=6/\∀x∈ws,x∈pwL by obtain⟨_,e,ws,rfl,h⟩:=h;exact#v[ws,e,h]
 let fh:=F.getD (n % F.length) [];let oth:=F.getD (n / 7 % F.length) [];obtain⟨o3,c⟩:=hF fh (wC (aM _ lF));obtain⟨t3,tw⟩:=hF oth (wC (aM _ lF));let P:Sl:=.I (.a3 (F.map tp));refine F0 O (vx (vQ (vv (a:=.a3 (F.map tp)) ((wb (xn (wb Q) O (by rw[af];have:=cq p T;show _+1<=1000;omega))).t (by rw[aV,aX];rfl)) ?_)));refine vx (vQ (vv (Jg tp [] lF O O) ?_));refine vx (vQ (vv (Jg tp [] lF O (vp O O (dv (by decide) (by decide)))) ?_));let R:=[A,N,P,.I (tp fh),.I (tp oth),Sl.un];obtain⟨a1,q,X,f⟩:=sx fh U (Z 1);obtain⟨j,r,Y,E⟩:=sx fh (Z (-1)) U;obtain⟨I,u,la3,G⟩:=sx fh (Z 1) U;obtain⟨J,y,lb1,H⟩:=sx oth (Z (-1)) U;have o:BV au tz (mr ay) R=Z (tp a1,R):=(GP O O (Jn O)).t (by rw[q];rfl);have s2:BV au (mr (c1 Fq ay)) tz R=Z (tp j,R):=(GP O (Jn O) O).t (by rw[r];rfl);have s3:BV au (mr ay) tz R=Z (tp I,R):=(GP O (Jn O) O).t (by rw[u];rfl);have s4:BV aG (mr (c1 Fq ay)) tz R=Z (tp J,R):=(GP O (Jn O) O).t (by rw[y];rfl);have s5:c1 C? au R=Z (tp fh.reverse,R):=we O (by unfold tp;rw[List.map_reverse];rfl);let i:=[fh,a1,j,fh.reverse,fh++a1,a1++J,I++a1,[(("zzz" : Str))]];have hL:∀l∈i,l.length<=6/\∀x∈l,x∈pwL:=λl m=>by
  simp only[i,aJ,bU,or_false]at m;rcases m with rfl|rfl|rfl|rfl|rfl|rfl|rfl|rfl
  .exact#v[by omega,c]
  .exact#v[by omega,λx h=>c x (f x h)]
  .exact#v[by omega,λx h=>c x (E x h)]
  .exact#v[by rw[lX];omega,λx h=>c x (List.mem_reverse.1 h)]
  .exact#v[by rw[aA];omega,λx h=>(aW.1 h).elim (c x) λh=>c x (f x h)]
  .exact#v[by rw[aA];omega,λx h=>(aW.1 h).elim (λh=>c x (f x h)) λh=>tw x (H x h)]
  .exact#v[by rw[aA];omega,λx h=>(aW.1 h).elim (λh=>c x (G x h)) λh=>c x (f x h)]
  .exact#v[by decide,λx h=>bB wpL (show x∈zk by rw[br.1 h];exact ba)]
 refine vx (vQ (vv (wb (KO (vn O (vn o (vn s2 (vn s5 (vn (LG O o (by omega)) (vn (LG o s4 (by omega)) (vn (LG s3 o (by omega)) (vn O O)))))))) (bX O))) ?_));have C:n / 49 % 8<i.length:=aM _ (by decide);refine wy (vv (a:=tp (i.getD (n / 49 % 8) [])) (vp (x:=.a3 (i.map tp)) O (vp (vp O O (dv (by decide) (by decide))) O (md (by decide))) (y9 (by rw[bq,aP C,bN,aP C];rfl))) #v[_,O,hL _ (wC C)])
end
def afm(h:e ρ=Z (tp l,a)):cL (yj e) ρ=Z (.a3 (l.map D.str),a):=wb (by unfold yj;rw[h];rfl)
def YY(h:e ρ=Z (.a3 ds,c)):P' e a b ρ=Z (fg ds a b,c):=by unfold P';rw[h]
def Qb{a b:aE}(h:e ρ=Z (.a3 (a.map D.str),c))(i:f c=Z (.a3 (b.map D.str),d))(j:a.length+b.length<=1000):cL (xi e f) ρ=Z (.a3 ((a++b).map D.str),d):=(wb (xn h i (by rw[af,af];exact j))).t (by rw[aV])
section
variable{T:List Th}{M:List Mk}{dk:aE}{W:List Wy}
theorem acW(g:ea T M dk W)(hm:m<64)(c:Int):∃(v:Vb) (y:Str) (r:aE) (n:Nat),CV [PD T M dk W m RS,.int c]=Z (.a7 [.a3 ((y::r).map D.str),dN n])/\V12 v/\fdV (vL m++v9) y=Z v/\r.length<=13/\∀x∈y::r,x∈plS:=by
 let V:=vL m++v9;have lV:=DV m;have l9:v9.length=9:=rfl;obtain⟨l,hl,el⟩:=Je c 6 (by decide);let P:Sl:=.I (PD T M dk W m RS);let C:Sl:=.I (.int c);let Q:Sl:=.I (dl l);let p:Vb->Bool:=λv=>decide (v.f="one")||decide (v.f="two");have e3:=xl (k:=1) (d3:=[]) (g:=gN 0) (ft:=xC (cT (c2 (b? δ) (c2 b1 aa bA) iO)) (cT (c2 (b? δ) (c2 b1 aa bA) dh))) (fe:=cV 0) (s:=iL (cL (xi (c2 b1 aa ck) (cL (wm xK vO))))) (ρ:=[P,C,Q,.un,.un,.un,.un,.un,.un]) l? l? p V
  (Dm ((wb (xn O (wb (vm O Jh)) (by rw[af,af];omega))).t (by rw[<-aV]))) (by rw[aA];omega) λv _=>#v[[.I (l? v)],[.I (l? v)],O,by
  have a1:cT (c2 (b? δ) (c2 b1 aa bA) iO) [.I (l? v)]=Z (decide (v.f="one"),[.I (l? v)]):=v7 (vp (vp O O O) O (xa δ _ _));have a2:cT (c2 (b? δ) (c2 b1 aa bA) dh) [.I (l? v)]=Z (decide (v.f="two"),[.I (l? v)]):=v7 (vp (vp O O O) O (xa δ _ _));show _=Z (decide (v.f="one")||decide (v.f="two"),_);cases h:decide (v.f="one")with
  |true=>rw[h]at a1;exact P7 a1
  |false=>rw[h]at a1;exact yM a1 a2,λ_=>#v[_,O,O],λ_=>O]
 let F:=V.filter p;have lF:0<F.length:=ik (a:=(#v["take", [],"one", U]:Vb)) (aO.2 #v[bB _ (by simp[v9]),O]);let v:=F.getD (gd l 0 % F.length) #v["", [],"", U];have mF:v∈F:=wC (aM _ lF);obtain⟨mv,hp⟩:=aO.1 mF;have t:=(aW.1 mv).elim (λh=>bJ _ (GK h)) (bB _);have jn:=λh=>oR.1 (bj (aK.1 (show ((v6++v9).all λv=>decide (v.f="two" -> v.j.isSome=γ))=γ by kernel_rfl) v t) h);have o9:=bj (aK.1 (show ((v6++v9).all λv=>decide (v.o.length<=9))=γ by kernel_rfl) v t);have J:V12 v:=by simp only[p,gE,bE]at hp;exact hp.imp_right λh=>#v[h,jn h]
 let H:=v.n::v.n::v.o;let k:=gd l 1 % (2+v.o.length);have lH:H.length=2+v.o.length:=by show v.o.length+1+1=_;omega
 have X:k<H.length:=by rw[lH];exact aM _ (by omega)
 let y:=H.getD k "";have hy:y∈v.ws:=by
  have:y∈H:=wC X;rcases aJ.1 this with e|h
  .rw[e];exact ba
  .exact h
 have ty:(H.drop k).take 1=[y]:=by rw[ic X];show [H[k]]=[H.getD k ""];rw[bN,aP X];rfl
 suffices h:∃d,CV [PD T M dk W m RS,.int c]=Z d/\∃(r:aE) (n:Nat),d=.a7 [.a3 ((y::r).map D.str),dN n]/\r.length<=13/\∀x∈r,x∈plS by
  obtain⟨_,e,r,n,rfl,h1,G⟩:=h;refine#v[v,y,r,n,e,J,Vt (J7 hm) mv hy,h1,λx q=>?_];rcases aJ.1 q with rfl|q
  .exact bJ _ (c8.2 #v[v,t,hy])
  .exact G x q
 obtain⟨w2,x2,l2,i2⟩:=Kl g (gd l 2);obtain⟨w3,x3,l3,i3⟩:=Kl g (gd l 3);have Y:∀{ws:aE},(∀x∈ws,x∈pwL)->∀x∈ws,x∈plS:=λh x q=>bB _ (bB _ (h x q));refine F0 O (vx (vQ (vv (wb (vm O el)) (vx (vQ (vv (wb e3) ?_))))));let S:Sl:=.I (.a3 (F.map l?));let u:Sl:=.I (.str v.n);let A:Sl:=.I (.a7 (v.o.map D.str));let B:Sl:=.I (.str v.f);let E:Sl:=.I (oS v.j);refine vx (Lm (vv (Jg l? #v["", [],"", U] lF O (vp O O (y8 (i:=0) (by omega)))) #v[[P,C,Q,S,u,A,B,E,.un],O,?_]));let R:=[P,C,Q,S,u,A,B,E,Sl.un];have N:cL (xi (cL (vJ oF)) (cL (yj bc))) R=Z (.a3 (H.map D.str),R):=Qb (a:=[v.n,v.n]) O O (by show 2+_<=1000;omega);have I:c2 vX (c2 b1 ai ay) (c2 wH bA (c1 wY bc)) R=Z (dN k,R):=vp (vp O O (y8 (i:=1) (by omega))) (vp O (XS O) O) (md (b:=2+v.o.length) (by omega));have c3:cL (P' (cL (Fh (cL (xi (cL (vJ oF)) (cL (yj bc)))) (mr (c2 vX (c2 b1 ai ay) (c2 wH bA (c1 wY bc)))) tz)) U (Z 1)) R=Z (.a3 ([y].map D.str),R):=by have a:=wb (acQ (hi:=tz) N (Jn I) O);rw[F3 _ (by rw[af];omega),<- fj]at a;refine(wb (YY a)).t ?_;have b:=Jm (ds:=(H.drop k).map D.str) 1 (by rw[af,cW];omega);rw[show (Z ((1:Nat):Int))=Z (1:Int) from O]at b;rw[b,<- fw,ty]
 refine vx (vQ (vv c3 ?_));have ph:∀{z:Sl} {w:aE} (i:Nat),i<6->xM [.a3 (T.map i0),dN (gd l i)]=Z (tp w)->cL (yj (vq xM (ax (c2 b1 aa az) (a1 (c2 b1 ai (cC (dN i))))))) [P,C,Q,S,u,A,B,E,z]=Z (.a3 (w.map D.str),[P,C,Q,S,u,A,B,E,z]):=λi hi e=>afm (vm (vn (vp O O O) (vn (vp O O (y8 (by omega))) O)) e);refine vx (vQ (vv (Qb O (ph 2 (by decide) x2) (by show 1+_<=1000;omega)) ?_));let AT:Sl:=.I (.a3 (([y]++w2).map D.str));refine s_g O ?_;rintro _ rfl;have d4:∀z:Sl,c2 b1 ai ck [P,C,Q,S,u,A,B,E,z]=Z (dN (gd l 4),[P,C,Q,S,u,A,B,E,z]):=λz=>vp O O (y8 (i:=4) (by omega));by_cases G:v.f="two"
 .obtain⟨j,hj⟩:=jn G;have e7:cL (vJ jy) [P,C,Q,S,u,A,B,E,AT]=Z (.a3 ([j].map D.str),[P,C,Q,S,u,A,B,E,AT]):=by show Z (D.a3 [oS v.j],_)=_;rw[hj];rfl
  refine m? ((sq v.f "two" O).t (by rw[aY G])) (vQ (vv (Qb (Qb O e7 (by rw[aA];show 1+_+1<=1000;omega)) (ph 3 (by decide) x3) (by rw[aA,aA];show 1+_+1+_<=1000;omega)) ?_));refine wy (vv (xO (vn O (vn (d4 _) O)) (bX O)) #v[w2++[j]++w3,gd l 4,O,?_,λx q=>?_])
  .rw[aA,aA];show _+1+_<=13;omega
  .rcases aW.1 q with q|q
   .rcases aW.1 q with q|q
    .exact Y i2 x q
    .rw[br.1 q];exact bB _ (bJ _ (iq.2 #v[v,t,hj]))
   .exact Y i3 x q
 .exact e4 ((sq v.f "two" O).t (by rw[aZ G])) (wy (vv (xO (vn O (vn (d4 _) O)) (bX O)) #v[w2,gd l 4,O,by omega,Y i2]))
end
abbrev iST:L4.D->Option L4.D:=wI (θ (w5 "str") (w5 "tuple"))
def LH(d:L4.D):Prop:=∃a l,d=.a7 a/\xY a=Z l/\xm l<=19/\a.length<=3/\∀x∈a,iST x=Z (.X γ)
def BM(b:i? d=Z e)(c:xY a=Z l):xY (d::a)=Z (e::l):=by unfold xY;rw[b,c]
def acX(p:aE):LH (P8 p):=by
 obtain⟨b,c⟩:=D8 p;refine#v[_,_,O,BM O (BM b O),?_,dw 2,λx a=>?_]
 .simp only[xm,c];decide
 .simp only[aJ,bU,or_false]at a;rcases a with rfl|rfl<;>rfl
def XZ(p l:aE):LH (LF p l):=by
 obtain⟨b,c⟩:=D8 p;obtain⟨d,e⟩:=D8 l;refine#v[_,_,O,BM O (BM b (BM d O)),?_,aH 3,λx a=>?_]
 .simp only[xm,c,e];decide
 .simp only[aJ,bU,or_false]at a;rcases a with rfl|rfl|rfl<;>rfl
def acY(x:Str):LH (Vj x):=#v[_,[.str "noform", .str x],O,O,by simp[xm,fc],dw 2,λx a=>by
 simp only[aJ,bU,or_false]at a;rcases a with rfl|rfl<;>rfl]
def afn(v:Vb)(acc:aE):LH (cmdT v acc):=by
 have st:∀x y:L4.D,∀c d:L3.Dq,i? x=Z c->i? y=Z d->fc c=0->fc d=0->LH (.a7 [.str "command", .a7 [.str v.n,x,y]]):=λx y c d i j f h=>by
  refine#v[_,[.str "command", .a7 [.str v.n,c,d]],O,BM O (BM ?_ O),?_,dw 2,λx e=>?_]
  .unfold i?;rw[BM O (BM i (BM j O))]
  .simp[xm,fc,f,h]
  .simp only[aJ,bU,or_false]at e;rcases e with rfl|rfl<;>rfl
 match acc with
 |[]=>exact st _ _ .O .O O O (by simp[fc]) (by simp[fc])
 |[a]=>exact st _ _ (.str a) .O O O (by simp[fc]) (by simp[fc])
 |a::b::l=>exact st _ _ (.str a) (.str b) O O (by simp[fc]) (by simp[fc])
theorem YZ(v:Vb)(f:aE->aE):∀(a:List aE) (acc:aE),LH (Wo v f a acc)
 |[],acc=>afn v acc
 |p::a,acc=>by
  unfold Wo;split
  .exact acX p
  .exact YZ v f a _
  .exact XZ p _
def afo(v:Vb)(f:aE->aE)(r:aE):LH (ans v f r):=by
 unfold ans;split
 .exact acY _
 .exact YZ _ _ _ _
def LH.eq(h:LH d):b? γ d d=Z (.X δ):=by obtain⟨c,l,rfl,a,b,_⟩:=h;rw[Vh a a b b,L3.BQ];rfl
def X0(L:aE):b? δ (.a3 (L.map D.str)) (.a3 (L.map D.str))=Z (.X γ):=by
 obtain⟨b,c⟩:=AB L;have a:i? (.a3 (L.map D.str))=Z (.a3 (L.map L3.Dq.str)):=by unfold i?;rw[b]
 unfold b?;rw[show Gh δ (.a3 (L.map D.str)) (.a3 (L.map D.str))=U from O];unfold KL;rw[a];simp only;rw[aj (by simp only[aT,bE];exact#v[#v[by first|rfl|exact L3.likeD_refl _,by rw[fc];omega],by rw[fc];omega]),L3.BQ];rfl
def Qc(l:List Int)(a b:Option Int):∃c:List Int,fg (l.map D.int) a b=c.map D.int/\c.length<=l.length:=#v[(l.drop _).take _,by unfold fg;rw[fw,fj],bz (lI ..) (by rw[cW];exact sA ..)]
def acZ(o:List Int)(hl:o.length<=63):Yy [.mn (o.map D.int)]=Z (.X γ):=by
 obtain⟨T,M,R,W,m,RS,g,_,_,_,_,_,p,r4,ok,eP⟩:=UQ o;obtain⟨ks,dss,eW,hg⟩:=Rq g p r4 ok;obtain⟨P,a,k,s,eS⟩:=RA g p (λr hr=>by obtain⟨q,h,rfl⟩:=aw.1 hr;exact ae9 (ok q h)) hg o;let w:=wO T M R W (vL m) (RS.map rsO) (.Y ks (dss.map .a3));let st:=sP P (va a k);obtain⟨Q,H⟩:=XW s;let L:=wZ ((T.filter λt=>Q t.n).map Th.n);let A:Sl:=.I (.mn (o.map D.int));let e:Sl:=.I (PD T M R W m RS);let j:Sl:=.I w;let St:Sl:=.I st;let f:Sl:=.I (.a3 (L.map D.str));obtain⟨l1,E,n1⟩:=Qc o (Z 6) (Z 18);obtain⟨l2,F,n2⟩:=Qc (l1++[3,4,8]) U (Z 12);have src:iL (cL (P' (cL (xi (cL (P' aa (Z 6) (Z 18))) (cL (vJ oh)))) U (Z 12))) [A,e,j,St,f,.un,.un,.un,.un]=Z (l2.map D.int,[A,e,j,St,f,.un,.un,.un,.un]):=by
  have a:cL (P' aa (Z 6) (Z 18)) [A,e,j,St,f,.un,.un,.un,.un]=Z (.a3 (l1.map D.int),[A,e,j,St,f,.un,.un,.un,.un]):=by rw[<-E];rfl
  have b:=wb (xn (e':=cL (vJ oh)) (ys:=[3,4,8].map D.int) a O (by rw[af];show _+3<=1000;omega));rw[<-aV]at b;exact Dm (wb ((YY b).t (by rw[<-F])))
 refine xT O ?_;refine vx (vQ (vv (vm O eP) (vx (vQ (vv (vm O eW) (vx (vQ (vv (vm O eS) (vx (vQ (vv (wb (vm O H)) (vx (Ec (vv src #v[λ_ ρ=>∃J B C u:Sl,ρ=[A,e,j,St,f,J,B,C,u],#v[_,_,_,_,O],?_,?_]))))))))))))))
 .rintro i d _ hd ⟨J,B,C,u,rfl⟩;rw[bq]at hd;obtain⟨c,_,rfl⟩:=fL.1 hd;obtain⟨v,y,r,n,eR,hv,Y,hr,hp⟩:=acW g p c;have gw:=λw hw=>afk (hp w hw);obtain⟨x,eB,I,lx⟩:=Vr n (by rw[aS];omega) gw;have S:=XY s H (J7 p) (Ni (by omega) I) (by omega) Y hv;have X:=Vp (Q:=Q) (r:=r) g p (RS:=RS) (by omega) Y hv;have G:=afo v (Hs T Q) r;generalize ans v (Hs T Q) r=d at S X G;let N:Sl:=.I (.a3 ((y::r).map D.str));let ρ:=[A,e,j,St,f,.I (.int c),N,.I (dN n),.I d];refine#v[[A,e,j,St,f,.I (.int c),B,C,u],O,vx (Lm (vv (vm O eR) #v[[A,e,j,St,f,.I (.int c),N,.I (dN n),u],O,vx (vQ (vv (vm (vn O (vn O (vn (vm O eB) O))) S) ?_))]))];refine s_g O ?_;rintro _ rfl;refine e4 (v7 (vp O (vm (vn O (vn O (vn O O))) X) G.eq)) ?_;obtain⟨ds,l,rfl,h1,h2,h3,h4⟩:=G;refine e4 O (s_n (v7 (vp (x:=.a3 []) ((wb (xl id id (λ_=>δ) ds (by rw[gU];rfl) (by omega) λx I=>#v[[.I x],[.I x],O,?_,λz=>(by cases z),λ_=>O])).t (by rw[iZ.2 λ_ _ z=>by cases z];rfl)) O O)) (Ab O #v[_,_,_,_,O]));unfold w9;rw[show cT (c1 iST aa) [.I x]=Z (γ,[.I x]) from v7 (we O (h4 x I))];rfl
 .rintro _ ⟨J,B,C,u,rfl⟩;exact wy (vv (vp (wb (vm O H)) O (X0 L)) O)
end K43x
namespace K43x
open PySem L2 L3 L4
open PySem.W (nsIn)
structure Fx(K:av)(C0 C1 C2 C3 C4 C5 C6 C7 C8 C9 C10 C11 C12 C13 C14 C15:Addr):Prop where
 a:Al (λx C=>nsIn K bL x=Z (Z (.ref C))) ["Thing", "Mark", "Verb", "At", "Has", "Seen", "Marked", "Kind", "Word", "Not", "Both", "Move", "Put", "Rule", "World", "Lit"] [C0,C1,C2,C3,C4,C5,C6,C7,C8,C9,C10,C11,C12,C13,C14,C15]
 k:Al (CF K) [C0,C1,C2,C3,C4,C5,C6,C7,C8,C9,C10,C11,C12,C13,C14,C15] [["kind", "name", "start", "words"],["most", "name", "start"],["form", "joining", "name", "others"],["place", "term"],["term"],["term"],["term", "value"],["kind", "term"],["word"],["inner"],["one", "other"],["place", "term"],["term", "value"],["deeds", "refuses", "tests", "text", "verb"],["copied_rules", "kept_dark", "kept_marks", "kept_things", "kept_verbs", "kept_ways", "mosts_by_name", "rules_by_verb", "shared_rules", "shared_verbs", "things_by_name", "verbs_by_word", "your_name", "kept_rules"],[]]
 i:Al (λC j=>KW K [C0,C1,C2,C3,C4,C5,C6,C7,C8,C9,C10,C11,C12,C13,C14,C15] C j=γ) [C3,C10,C4,C7,C15,C1,C6,C11,C9,C12,C13,C5,C0,C2,C8] [3,10,4,7,15,1,6,11,9,12,13,5,0,2,8]
 n_Lit:c4 K (.ref C15) "__init__" = Z (Z (.builtin "object.__init__"))
 nd:decide ([C0,C1,C2,C3,C4,C5,C6,C7,C8,C9,C10,C11,C12,C13,C14,C15]:List Addr).Nodup=γ
 kn:kN K=γ
 e:((["all", "any", "bool", "int", "isinstance", "len", "list", "range", "set", "sorted", "str", "tuple"]:aE).all λx=>match nsIn K bL x with|some U=>γ|_=>δ)=γ
 g0:GX K "CANNOT_BE" "That cannot be."
 g1:GS K "FORMS" ["alone", "one", "two", "way"]
 g2:GS K "KINDS" ["room", "plain", "fixed", "box", "lamp", "you"]
 g3:GS K "KINDS_APART" ["room", "you"]
 g4:GS K "KINDS_THAT_HOLD" ["room", "box", "you"]
 g5:GS K "KINDS_WITH_MARK" ["box", "lamp"]
 g6:GC K "MOST_BESIDE" 7
 g7:GC K "MOST_BY_COMMAND" 3
 g8:GC K "MOST_DEEDS" 4
 g9:GC K "MOST_DEEP" 4
 g10:GC K "MOST_IN_NAME" 8
 g11:GC K "MOST_IN_WORD" 12
 g12:GC K "MOST_MARKS" 4
 g13:GC K "MOST_OF_MARK" 3
 g14:GC K "MOST_ROOMS" 5
 g15:GC K "MOST_RULES" 20
 g16:GC K "MOST_SIGNS" 60
 g17:GC K "MOST_TESTS" 5
 g18:GC K "MOST_VERBS" 6
 g19:GC K "MOST_WAYS" 10
 g20:GC K "MOST_WORDS" 4
 g21:GX K "NOTHING_COMES" "Nothing comes of it."
 g22:GS K "NO_NAMES" ["it", "other", "here", "the", "a", "undo", "restart"]
 g23:GS K "NO_WORDS" ["the", "a"]
 g24:GS K "NO_WORDS_OF_ROWS" ["the", "a", "undo", "restart"]
 q25:GJ K C0 "Thing.__init__" (a8 (top 84) 0) [V.O]
 q26:GM K C1 "__init__" "Mark.__init__" (a8 (top 85) 0)
 q27:GJ K C2 "Verb.__init__" (a8 (top 86) 0) [V.O,(V.str "one"),V.O]
 q28:GM K C3 "__init__" "At.__init__" (a8 (top 34) 0)
 q29:GM K C4 "__init__" "Has.__init__" (a8 (top 35) 0)
 q30:GM K C5 "__init__" "Seen.__init__" (a8 (top 36) 0)
 q31:GM K C6 "__init__" "Marked.__init__" (a8 (top 37) 0)
 q32:GM K C7 "__init__" "Kind.__init__" (a8 (top 38) 0)
 q33:GM K C8 "__init__" "Word.__init__" (a8 (top 39) 0)
 q34:GM K C9 "__init__" "Not.__init__" (a8 (top 41) 0)
 q35:GM K C10 "__init__" "Both.__init__" (a8 (top 42) 0)
 q36:GM K C11 "__init__" "Move.__init__" (a8 (top 74) 0)
 q37:GM K C12 "__init__" "Put.__init__" (a8 (top 75) 0)
 q38:GJ K C13 "Rule.__init__" (a8 (top 93) 0) [(V.X δ)]
 q39:GM K C0 "can_hold" "Thing.can_hold" (a8 (top 84) 1)
 q40:GM K C0 "has_mark" "Thing.has_mark" (a8 (top 84) 2)
 q41:GM K C0 "is_plainly" "Thing.is_plainly" (a8 (top 84) 3)
 q42:GM K C14 "of_kind" "World.of_kind" (a8 (top 161) 3)
 q43:GM K C14 "all_verbs" "World.all_verbs" (a8 (top 161) 13)
 q44:GM K C14 "thing_of" "World.thing_of" (a8 (top 161) 2)
 q45:GM K C14 "most_of" "World.most_of" (a8 (top 161) 6)
 q46:GM K C14 "verb_of" "World.verb_of" (a8 (top 161) 14)
 q47:GM K C14 "you" "World.you" (a8 (top 161) 4)
 q48:GM K C14 "__init__" "World.__init__" (a8 (top 161) 0)
 q49:GM K C14 "is_dark" "World.is_dark" (a8 (top 161) 5)
 q50:GM K C14 "own_marks" "World.own_marks" (a8 (top 161) 7)
 q51:GM K C14 "names" "World.names" (a8 (top 161) 1)
 q52:GM K C14 "way_words" "World.way_words" (a8 (top 161) 12)
 q53:GM K C14 "rules_to_try" "World.rules_to_try" (a8 (top 161) 16)
 q54:GM K C14 "parts" "World.parts" (a8 (top 161) 18)
 q55:GM K C3 "holds" "At.holds" (a8 (top 34) 1)
 q56:GM K C4 "holds" "Has.holds" (a8 (top 35) 1)
 q57:GM K C5 "holds" "Seen.holds" (a8 (top 36) 1)
 q58:GM K C6 "holds" "Marked.holds" (a8 (top 37) 1)
 q59:GM K C7 "holds" "Kind.holds" (a8 (top 38) 1)
 q60:GM K C8 "holds" "Word.holds" (a8 (top 39) 1)
 q61:GM K C15 "holds" "Lit.holds" (a8 (top 40) 0)
 q62:GM K C9 "holds" "Not.holds" (a8 (top 41) 1)
 q63:GM K C10 "holds" "Both.holds" (a8 (top 42) 1)
 q64:GM K C11 "done" "Move.done" (a8 (top 74) 1)
 q65:GM K C12 "done" "Put.done" (a8 (top 75) 1)
 q0:Al (λx i=>GD K x (top i)) ["is_small_letters", "is_name", "is_word", "is_one_of", "is_whole", "is_list_up_to", "own_list", "refuse_unless", "count_of", "plain_ones", "is_mark", "check_things", "check_marks", "are_unlike", "check_names", "mark_names", "is_start", "comes_to_room", "check_starts", "are_words", "has_all", "is_told_apart", "check_words_of_things", "check_dark", "is_way", "check_ways", "is_verb", "check_verbs", "are_apart", "check_vocabulary", "check_parts", "does"] [6,7,8,10,11,12,94,123,126,127,129,125,128,131,130,132,134,135,133,137,139,138,136,140,142,141,144,143,146,145,124,150]
 q1:Al (λx i=>GD K x (top i)) ["refuses", "hand_rules", "put_rules", "lid_rules", "flame_rules", "way_tests", "go_rules", "wait_rules", "common_rules", "common_verbs", "by_name", "mosts_by_name", "verbs_by_word", "by_verb", "is_same_text", "copy_of", "is_by_command", "is_here", "named", "is_of_kind", "is_term", "is_place", "is_moved", "is_mark_value", "is_move", "is_said", "is_verb_name", "does_or_refuses", "is_plain_test", "is_test", "is_deed", "are_tests"] [151,152,153,154,155,157,156,158,149,148,162,163,164,165,9,95,106,107,108,109,110,111,112,113,105,98,97,99,103,102,104,100]
 q2:Al (λx i=>GD K x (top i)) ["are_deeds", "is_rule", "own_starts", "first_value", "first_stand", "value_of", "at_of", "mark_of", "with_part", "holders_of", "room_of", "has", "is_shut", "in_open", "burns_in", "is_lit", "is_seen", "seen", "is_of_way", "things_of", "meant", "at_parts", "mark_parts", "can_go", "can_show", "is_object", "fits_form", "is_command", "check_command", "fits", "outcome", "answered"] [101,96,16,17,15,18,19,20,21,23,24,27,26,25,29,28,30,31,43,44,45,46,47,76,77,60,59,58,57,63,64,62]
 q3:Al (λx i=>GD K x (top i)) ["step", "objects_of", "commands", "words_of", "phrases_about", "phrases_of", "has_words", "read_way", "read_things", "read", "_law_cell_at", "_law_draws", "_law_names", "_law_words", "_law_things", "_law_marks", "_law_all_marks", "_law_ways", "_law_verbs", "_law_common", "_law_test", "_law_deed", "_law_rules", "_law_parts", "_law_asked", "_law_done", "_law_rule", "_law_world", "_law_walked", "_law_blanked", "_law_phrases", "_law_read"] [61,56,55,13,68,67,71,69,70,66,167,168,169,170,171,172,173,174,175,176,177,178,179,180,181,182,183,184,185,187,188,189]
 q4:Al (λx i=>GD K x (top i)) ["_law_phrase", "_law_row", "law"] [190,191,192]
class Yx(B:Bz):Prop where
 y:Yw B.P B.w B.mg B.a5 B.G
 z:B.G.hs=tupleKeyHash (vU B.P B.w)
 f:Fx B.G.K (B.G.ca 0) (B.G.ca 1) (B.G.ca 2) (B.G.ca 3) (B.G.ca 4) (B.G.ca 5) (B.G.ca 6) (B.G.ca 7) (B.G.ca 8) (B.G.ca 9) (B.G.ca 10) (B.G.ca 11) (B.G.ca 12) (B.G.ca 13) (B.G.ca 14) (B.G.ca 15)
section
variable{B:Bz}[Y:Yx B]
instance:Yb B:=#v[Y.y]
instance:Hz B:=#v[Y.z,Y.f.kn]
set_option r "all 0;any 1;bool 2;int 3;isinstance 4;len 5;list 6;range 7;set 8;sorted 9;str 10;tuple 11" in instance:Nb B "ϑ0" := #v[Y.y.n Y.f.e ϑ1 O]
set_option r "CANNOT_BE G9 x 0;FORMS Po s 1;KINDS Fv s 2;KINDS_APART Em s 3;KINDS_THAT_HOLD Bd s 4;KINDS_WITH_MARK Be s 5;MOST_BESIDE En i 6;MOST_BY_COMMAND Bf i 7;MOST_DEEDS Fy i 8;MOST_DEEP He i 9;MOST_IN_NAME DG i 10;MOST_IN_WORD DH i 11;MOST_MARKS Ct i 12;MOST_OF_MARK DI i 13;MOST_ROOMS FC i 14;MOST_RULES FH i 15;MOST_SIGNS FB i 16;MOST_TESTS Fw i 17;MOST_VERBS FD i 18;MOST_WAYS Hf i 19;MOST_WORDS Cu i 20;NOTHING_COMES Di x 21;NO_NAMES IP s 22;NO_WORDS IQ s 23;NO_WORDS_OF_ROWS AM s 24" in instance:Co B "ϑ0" ϑ1:=#v[Y.y.cϑ2 Y.f.gϑ3]
set_option r "BW copied_rules 14 0;BX deeds 13 0;yd form 2 0;Gv inner 9 0;yw joining 2 1;El kept_dark 14 1;AJ kept_marks 14 2;xG kept_things 14 3;DF kept_verbs 14 4;Bu kept_ways 14 5" in instance:Ff B ϑ0 "ϑ1" := #v[yE ((Y.f.k.at ϑ2 O O:).at ϑ3 O)]
instance:Ff B wq "kind" := #v[Vs (yE ((Y.f.k.at 0 O O:).at 0 O)) ((Y.f.k.at 7 O O:).at 0 O)]
set_option r "AK  1 0;Bb s_by_name 14 6" in instance:Ff B ϑ0 "mostϑ1" := #v[yE ((Y.f.k.at ϑ2 O O:).at ϑ3 O)]
instance:Ff B vT "name" := #v[Vs (Vs (yE ((Y.f.k.at 0 O O:).at 1 O)) ((Y.f.k.at 1 O O:).at 1 O)) ((Y.f.k.at 2 O O:).at 2 O)]
set_option r "La ne 10 0;Gw ther 10 1;yx thers 2 3" in instance:Ff B ϑ0 "oϑ1" := #v[yE ((Y.f.k.at ϑ2 O O:).at ϑ3 O)]
instance:Ff B D2 "place" := #v[Vs (yE ((Y.f.k.at 3 O O:).at 0 O)) ((Y.f.k.at 11 O O:).at 0 O)]
set_option r "zS refuses 13 1;zh rules_by_verb 14 7;BY shared_rules 14 8;BZ shared_verbs 14 9" in instance:Ff B ϑ0 "ϑ1" := #v[yE ((Y.f.k.at ϑ2 O O:).at ϑ3 O)]
instance:Ff B xf "start" := #v[Vs (yE ((Y.f.k.at 0 O O:).at 2 O)) ((Y.f.k.at 1 O O:).at 2 O)]
instance:Ff B B2 "term" := #v[Vs (Vs (Vs (Vs (Vs (Vs (yE ((Y.f.k.at 3 O O:).at 1 O)) ((Y.f.k.at 4 O O:).at 0 O)) ((Y.f.k.at 5 O O:).at 0 O)) ((Y.f.k.at 6 O O:).at 0 O)) ((Y.f.k.at 7 O O:).at 1 O)) ((Y.f.k.at 11 O O:).at 1 O)) ((Y.f.k.at 12 O O:).at 0 O)]
set_option r "D3 ests 13 2;Fu ext 13 3;AL hings_by_name 14 10" in instance:Ff B ϑ0 "tϑ1" := #v[yE ((Y.f.k.at ϑ2 O O:).at ϑ3 O)]
instance:Ff B D5 "value" := #v[Vs (yE ((Y.f.k.at 6 O O:).at 1 O)) ((Y.f.k.at 12 O O:).at 1 O)]
set_option r "zi verb 13 4;Bc verbs_by_word 14 11;IM word 8 0;xP words 0 3;Bv your_name 14 12" in instance:Ff B ϑ0 "ϑ1" := #v[yE ((Y.f.k.at ϑ2 O O:).at ϑ3 O)]
instance:Af B 0 ["kind", "name", "start", "words"]:=#v[(Y.f.k.at 0 O O:)]
instance:Af B 1 ["most", "name", "start"]:=#v[(Y.f.k.at 1 O O:)]
instance:Af B 2 ["form", "joining", "name", "others"]:=#v[(Y.f.k.at 2 O O:)]
instance:Af B 3 ["place", "term"]:=#v[(Y.f.k.at 3 O O:)]
set_option r "4;5" in instance:Af B ϑ0 ["term"]:=#v[(Y.f.k.at ϑ0 O O:)]
set_option r "6 term value;7 kind term" in instance:Af B ϑ0 ["ϑ1", "ϑ2"]:=#v[(Y.f.k.at ϑ0 O O:)]
set_option r "8 word;9 inner" in instance:Af B ϑ0 ["ϑ1"]:=#v[(Y.f.k.at ϑ0 O O:)]
set_option r "10 one other;11 place term;12 term value" in instance:Af B ϑ0 ["ϑ1", "ϑ2"]:=#v[(Y.f.k.at ϑ0 O O:)]
instance:Af B 13 ["deeds", "refuses", "tests", "text", "verb"]:=#v[(Y.f.k.at 13 O O:)]
instance:Af B 14 ["copied_rules", "kept_dark", "kept_marks", "kept_things", "kept_verbs", "kept_ways", "mosts_by_name", "rules_by_verb", "shared_rules", "shared_verbs", "things_by_name", "verbs_by_word", "your_name", "kept_rules"]:=#v[(Y.f.k.at 14 O O:)]
def A0:∀k,k<16->Jw B.G.K (B.G.ca k):=TN.at (n:=16) #v[(Y.f.k.at 0 O O:).ci,(Y.f.k.at 1 O O:).ci,(Y.f.k.at 2 O O:).ci,(Y.f.k.at 3 O O:).ci,(Y.f.k.at 4 O O:).ci,(Y.f.k.at 5 O O:).ci,(Y.f.k.at 6 O O:).ci,(Y.f.k.at 7 O O:).ci,(Y.f.k.at 8 O O:).ci,(Y.f.k.at 9 O O:).ci,(Y.f.k.at 10 O O:).ci,(Y.f.k.at 11 O O:).ci,(Y.f.k.at 12 O O:).ci,(Y.f.k.at 13 O O:).ci,(Y.f.k.at 14 O O:).ci,(Y.f.k.at 15 O O:).ci,trivial]
set_option r "At t_At 3 0;Both Oe 10 1;Has Yt 4 2;Kind T7 7 3;Lit Yu 15 4;Mark T8 1 5;Marked MO 6 6;Move T9 11 7;Not Ua 9 8;Put Yv 12 9;Rule Ub 13 10;Seen Uc 5 11;Thing Pn 0 12;Verb Ud 2 13;Word Ue 8 14" in instance:Ic B "ϑ0" ϑ1:=#v[ϑ2,xc (Y.f.i.at ϑ3 O O:) O (DE 16 _) A0,Y.y.g (Y.f.a.at ϑ2 O O:)]
instance:K0f B "Lit" 15:=#v[#v[(Y.f.k.at 15 O O:).mks,Y.f.n_Lit,(Y.f.k.at 15 O O:).kp],Y.y.g (Y.f.a.at 15 O O:)]
instance:Ij B 16:=#v[injR Y.f.nd]
theorem eqL{A:Type}{l:List A}{n:Nat}(h:l.length=n):l.length=n:=h
theorem eqE{e:PySem.Expr}{v:PySem.Env}{r:PySem.Sem PySem.Value}(h:PySem.eval e v=r):PySem.eval e v=r:=h
local macro_rules|`(tactic|trivial)=>do let x:=("zr_plI zr_iuI zr_insI aer aee aed aef aeg MH aek aa3 abC aeh aa1 abH aaM aaN abD abF abz aa5 abu aa8 abI aaT aaU aaV aaW aaQ abG ael abJ aaR abL abN abE abY aa4 aa2 aa0 aaL zr_i2I zr_i3I zr_rvI abe abf aei abP aaY aaZ aaX aem aen abj aaO aaP abk aaS abV abW abX abM abO abQ aej aa6 aa7 abR abS abl aa9 aba ab4 abp abq abr abt abT abU Xb Xa Xc abv abw abx abd zr_r2I abg zr_xeI abh acj abi abo abn abm acf acg abK acd aca zr_wxI abb abc ab0 ab1 ab2 ab3 W9 abZ".splitOn " ").toArray.map fun s=>Lean.mkIdent (.mkSimple s);`(tactic|repeat' first|(with_reducible intro _)|((with_reducible first|apply eqL|apply eqE);rfl)|kernel_rfl|((with_reducible first|apply abA|apply abB);rotate_left 7;rfl)|(with_reducible first $[|apply $x]*)|exact qU)
set_option r "1 is_small_letters yV 0;2 is_name y3 1;2 is_word yF 2;1 is_one_of wF 3;1 is_whole AN 4;1 is_list_up_to wK 5;1 own_list EF 6" in instance:Df B ϑ0 "ϑ1" (eb B.G ϑ2):=er O (Y.f.q0.at ϑ3 O O:) O (by trivial)
def Es:Xn B (I? (a8 (top 84) 0)) "Thing.__init__" (a8 (top 84) 0) (wJ (a8 (top 84) 0)) 0 Cv:=by
 unfold Cv;refine MH ?_ ?_
 all_goals trivial
instance:Kf B 1 "Thing" 0 Ah [D.O]:=gJ4 (dds:=[D.O]) (Y.f.k.at 0 O O:) (Y.f.a.at 0 O O:) O Y.f.q25 O O Es 0
instance:Kf B 1 "Thing" 0 Ah []:=gJ4 (dds:=[D.O]) (Y.f.k.at 0 O O:) (Y.f.a.at 0 O O:) O Y.f.q25 O O Es 1
instance:Kf B 1 "Mark" 1 Hg []:=W? (Y.f.k.at 1 O O:) (Y.f.a.at 1 O O:) O Y.f.q26 O O (by trivial)
def Da:Xn B (I? (a8 (top 86) 0)) "Verb.__init__" (a8 (top 86) 0) (wJ (a8 (top 86) 0)) 0 DJ:=by
 unfold DJ;refine MH ?_ ?_
 all_goals trivial
instance:Kf B 1 "Verb" 2 xU [D.O,(D.str "one"),D.O]:=gJ4 (dds:=[D.O,(D.str "one"),D.O]) (Y.f.k.at 2 O O:) (Y.f.a.at 2 O O:) O Y.f.q27 O O Da 0
instance:Kf B 1 "Verb" 2 xU [D.O]:=gJ4 (dds:=[D.O,(D.str "one"),D.O]) (Y.f.k.at 2 O O:) (Y.f.a.at 2 O O:) O Y.f.q27 O O Da 2
instance:Kf B 1 "Verb" 2 xU []:=gJ4 (dds:=[D.O,(D.str "one"),D.O]) (Y.f.k.at 2 O O:) (Y.f.a.at 2 O O:) O Y.f.q27 O O Da 3
set_option r "At 3 D6 28;Has 4 Cw 29;Seen 5 Hh 30;Marked 6 xq 31;Kind 7 xV 32;Word 8 DK 33;Not 9 x6 34;Both 10 Hk 35;Move 11 y4 36;Put 12 zD 37" in instance:Kf B 1 "ϑ0" ϑ1 ϑ2 []:=W? (Y.f.k.at ϑ1 O O:) (Y.f.a.at ϑ1 O O:) O Y.f.qϑ3 O O (by trivial)
def F4:Xn B (I? (a8 (top 93) 0)) "Rule.__init__" (a8 (top 93) 0) (wJ (a8 (top 93) 0)) 1 DL:=by
 unfold DL;refine MH ?_ ?_
 all_goals trivial
instance:Kf B 2 "Rule" 13 xW [(D.X δ)]:=gJ4 (dds:=[(D.X δ)]) (Y.f.k.at 13 O O:) (Y.f.a.at 13 O O:) O Y.f.q38 O O F4 0
instance:Kf B 2 "Rule" 13 xW []:=gJ4 (dds:=[(D.X δ)]) (Y.f.k.at 13 O O:) (Y.f.a.at 13 O O:) O Y.f.q38 O O F4 1
set_option r "can_hold wR 39;has_mark xQ 40;is_plainly wL 41" in instance:Mf B 9 "ϑ0" ϑ1:=#v[λc h e=>by
 unfold ϑ1 at e;split at e
 .cases e;exact nr (k:=8) (Y.f.k.at 0 O O:) O Y.f.qϑ2 O (by trivial)
 .cases e]
set_option r "1 refuse_unless eb vG er 7;1 count_of eb Cy er 8;10 plain_ones pw zj Dk 9" in instance:Df B ϑ0 "ϑ1" (ϑ2 B.G ϑ3):=ϑ4 O (Y.f.q0.at ϑ5 O O:) O (by trivial)
set_option r "2 is_mark Gy 10 Gx;11 check_things AR 11 AQ;3 check_marks BA 12 Bw" in instance:Df B ϑ0 "ϑ1" (eb B.G ϑ2):=er O (Y.f.q0.at ϑ3 O O:) O (by unfold ϑ4;trivial)
set_option r "1 are_unlike eb xI er 13;3 check_names eb BB er 14;10 mark_names pw zl Dk 15" in instance:Df B ϑ0 "ϑ1" (ϑ2 B.G ϑ3):=ϑ4 O (Y.f.q0.at ϑ5 O O:) O (by trivial)
instance:Df B 10 "is_start" (eb B.G EH):=er O (Y.f.q0.at 16 O O:) O (by unfold EG;trivial)
instance:Df B 1 "comes_to_room" (eb B.G z5):=er O (Y.f.q0.at 17 O O:) O (by trivial)
instance:Df B 11 "check_starts" (eb B.G AS):=gF5 ["things", "starts", "thing"] O (Y.f.q0.at 18 O O:) O (by trivial)
set_option r "3 are_words zT 19;1 has_all Av 20;2 is_told_apart z6 21;11 check_words_of_things xR 22" in instance:Df B ϑ0 "ϑ1" (eb B.G ϑ2):=er O (Y.f.q0.at ϑ3 O O:) O (by trivial)
instance:Df B 2 "check_dark" (eb B.G CB):=er O (Y.f.q0.at 23 O O:) O (by unfold CA;trivial)
set_option r "3 is_way eb IR er 0 24;4 check_ways eb CC er 0 25;3 is_verb eb J4 er 0 26;4 check_verbs eb zJ er 0 27;1 are_apart eb zU er 0 28;11 check_vocabulary eb yW er 0 29;12 check_parts eb BC er 0 30;4 does eb AU er 0 31;4 refuses eb w6 er 1 0;5 hand_rules pw CD Dk 1 1;5 put_rules pw DM Dk 1 2;5 lid_rules pw DN Dk 1 3" in instance:Df B ϑ0 "ϑ1" (ϑ2 B.G ϑ3):=ϑ4 O (Y.f.qϑ5.at ϑ6 O O:) O (by trivial)
set_option r "5 flame_rules pw BD Dk 4;3 way_tests pw DO Dk 5;5 go_rules pw EI Dk 6;5 wait_rules pw FI Dk 7;6 common_rules pw AV Dk 8;3 common_verbs pw zm Dk 9;1 by_name eb GA er 10;10 mosts_by_name eb z7 er 11;1 verbs_by_word eb yR er 12" in instance:Df B ϑ0 "ϑ1" (ϑ2 B.G ϑ3):=ϑ4 O (Y.f.q1.at ϑ5 O O:) O (by trivial)
instance:Df B 1 "by_verb" (eb B.G J6):=er O (Y.f.q1.at 13 O O:) O (by unfold J5;refine#v[QX (stW (by kernel_rfl) LX O) (RN qU O (Mh (L6 B.G.K (NN (O? (by kernel_rfl))))) (pgI (by kernel_rfl)) (Kq (OE (NM B.G.K ja l7 pX F6 (Tn (O? (by kernel_rfl)) (SD (NN (O? (by kernel_rfl))) (Ff.p (B:=B))) (RW zz) #v[O,O,O,O]) (xA (O? (by kernel_rfl)) zz))))) (Nl (PE.ν (O? (by kernel_rfl))))])
set_option r "of_kind P 2;all_verbs S 3" in instance:Mf B 9 "ϑ0" yϑ1:=#v[λc h e=>by
 unfold yϑ1 at e;split at e
 .cases e;exact nr (k:=8) (Y.f.k.at 14 O O:) O Y.f.q4ϑ2 O (by trivial)
 .cases e]
set_option r "1 is_same_text zp 14;4 copy_of GB 15" in instance:Df B ϑ0 "ϑ1" (eb B.G ϑ2):=er O (Y.f.q1.at ϑ3 O O:) O (by trivial)
set_option r "thing_of vV 4;most_of xt 5;verb_of xh 6;you Aw 7" in instance:Mf B 9 "ϑ0" ϑ1:=#v[λc h e=>by
 unfold ϑ1 at e;split at e
 .cases e;exact nr (k:=8) (Y.f.k.at 14 O O:) O Y.f.q4ϑ2 O (by trivial)
 .cases e]
set_option r "2 is_by_command wV 16;2 is_here zF 17;10 named Bi 18;11 is_of_kind Ai 19;11 is_term B5 20;11 is_place CG 21;12 is_moved EJ 22;10 is_mark_value yT 23;13 is_move GE 24;1 is_said B6 25;10 is_verb_name AW 26;1 does_or_refuses zq 27" in instance:Df B ϑ0 "ϑ1" (eb B.G ϑ2):=er O (Y.f.q1.at ϑ3 O O:) O (by trivial)
instance:Df B 12 "is_plain_test" (eb B.G z8):=er O (Y.f.q1.at 28 O O:) O (by trivial)
instance:Df B 1 "is_test" (eb B.G (y6 0)):=er (k:=0) O (Y.f.q1.at 29 O O:) O (by trivial)
set_option r "13 1 12;14 2 13;15 3 14;16 4 15" in instance:Df B ϑ0 "is_test" (eb B.G (y6 ϑ1)):=er (k:=ϑ2) O (Y.f.q1.at 29 O O:) O (by unfold B7;trivial)
set_option r "14 is_deed GF 1 30;18 are_tests DP 1 31;15 are_deeds DQ 2 0;19 is_rule GH 2 1" in instance:Df B ϑ0 "ϑ1" (eb B.G ϑ2):=er O (Y.f.qϑ3.at ϑ4 O O:) O (by trivial)
instance:Kf B 20 "World" 14 Ak []:=W? (Y.f.k.at 14 O O:) (Y.f.a.at 14 O O:) O Y.f.q48 O O (by unfold Aj;trivial)
set_option r "9 is_dark zK 8 49;9 own_marks z9 8 50;9 names yy 8 51;9 way_words yg 8 52;9 rules_to_try yX 8 53;12 parts Bk 11 54" in instance:Mf B ϑ0 "ϑ1" ϑ2:=#v[λc h e=>by
 unfold ϑ2 at e;split at e
 .cases e;exact nr (k:=ϑ3) (Y.f.k.at 14 O O:) O Y.f.qϑ4 O (by trivial)
 .cases e]
set_option r "10 own_starts eb CH er 2;10 first_value eb yQ er 3;13 first_stand eb BF er 4;1 value_of eb CJ er 5;2 at_of eb Bl er 6;2 mark_of eb Ax er 7;1 with_part eb Bm er 8;3 holders_of pw yG Dk 9;10 room_of eb Ay er 10;10 has eb Ug er 11;10 is_shut eb zG er 12;11 in_open eb zH er 13" in instance:Df B ϑ0 "ϑ1" (ϑ2 B.G ϑ3):=ϑ4 O (Y.f.q2.at ϑ5 O O:) O (by trivial)
set_option r "12 burns_in eb AX er 14;13 is_lit eb FK er 15;14 is_seen eb xx er 16;15 seen pw EK Dk 17;10 is_of_way eb Bn er 18;11 things_of eb xu er 19;12 meant eb xb er 20;10 at_parts eb EL er 21;10 mark_parts eb Am er 22;11 can_go eb FL er 23;11 can_show eb EM er 24" in instance:Df B ϑ0 "ϑ1" (ϑ2 B.G ϑ3):=ϑ4 O (Y.f.q2.at ϑ5 O O:) O (by trivial)
instance:Mf B 16 "holds" (wz 0):=#v[λc h e=>by
 unfold wz CK at e;split at e
 .cases e;exact nr (k:=15) (Y.f.k.at 3 O O:) O Y.f.q55 O (by trivial)
 .cases e;exact nr (k:=15) (Y.f.k.at 4 O O:) O Y.f.q56 O (by trivial)
 .cases e;exact nr (k:=15) (Y.f.k.at 5 O O:) O Y.f.q57 O (by trivial)
 .cases e;exact nr (k:=15) (Y.f.k.at 6 O O:) O Y.f.q58 O (by trivial)
 .cases e;exact nr (k:=15) (Y.f.k.at 7 O O:) O Y.f.q59 O (by trivial)
 .cases e;exact nr (k:=15) (Y.f.k.at 8 O O:) O Y.f.q60 O (by trivial)
 .cases e;exact nr (k:=15) (Y.f.k.at 15 O O:) O Y.f.q61 O (by trivial)
 .cases e]
set_option r "17 1 16;18 2 17;19 3 18" in instance:Mf B ϑ0 "holds" (wz ϑ1):=#v[λc h e=>by
 unfold wz at e;split at e
 .cases e;exact nr (k:=ϑ2) (Y.f.k.at 9 O O:) O Y.f.q62 O (by unfold zV;trivial)
 .cases e;exact nr (k:=ϑ2) (Y.f.k.at 10 O O:) O Y.f.q63 O (by unfold zr;trivial)
 .exact(Mf.p (B:=B) (g:=wz 0) c h e).mono O]
instance:Mf B 14 "done" CL:=#v[λc h e=>by
 unfold CL at e;split at e
 .cases e;exact nr (k:=13) (Y.f.k.at 11 O O:) O Y.f.q64 O (by trivial)
 .cases e;exact nr (k:=13) (Y.f.k.at 12 O O:) O Y.f.q65 O (by trivial)
 .cases e]
set_option r "10 is_object zW 2 25;11 fits_form DR 2 26;12 is_command CM 2 27;13 check_command yU 2 28;20 fits Lb 2 29;15 outcome D7 2 30;21 answered ER 2 31;22 step Lc 3 0" in instance:Df B ϑ0 "ϑ1" (eb B.G ϑ2):=er O (Y.f.qϑ3.at ϑ4 O O:) O (by trivial)
set_option r "10 objects_of yI 1 yH;11 commands ET 2 ES" in instance:Df B ϑ0 "ϑ1" (pw B.G ϑ2):=Dk O (Y.f.q3.at ϑ3 O O:) O (by unfold ϑ4;trivial)
instance:Df B 1 "words_of" (eb B.G CN):=er O (Y.f.q3.at 3 O O:) O (by trivial)
instance:Df B 1 "phrases_about" (eb B.G Aa):=er O (Y.f.q3.at 4 O O:) O (by unfold Dl;trivial)
set_option r "2 phrases_of eb CO er 5;10 has_words eb y7 er 6;10 read_way eb IS er 7;16 read_things eb BG er 8;17 read eb Of er 9;1 _law_cell_at eb yz er 10;1 _law_draws pw yJ Dk 11;1 _law_names eb CP er 12;1 _law_words eb CQ er 13;2 _law_things eb zL er 14;1 _law_marks eb An er 15;1 _law_all_marks eb zI er 16" in instance:Df B ϑ0 "ϑ1" (ϑ2 B.G ϑ3):=ϑ4 O (Y.f.q3.at ϑ5 O O:) O (by trivial)
set_option r "ways eb Bp er 17;verbs eb CS er 18;common pw xK Dk 19" in instance:Df B 1 "_law_ϑ0" (ϑ1 B.G ϑ2):=ϑ3 O (Y.f.q3.at ϑ4 O O:) O (by trivial)
instance:Df B 1 "_law_test" (eb B.G (xk 0)):=er (k:=0) O (Y.f.q3.at 20 O O:) O (by trivial)
set_option r "2 1;3 2;4 3" in instance:Df B ϑ0 "_law_test" (eb B.G (xk ϑ1)):=er (k:=ϑ1) O (Y.f.q3.at 20 O O:) O (by unfold Bq;trivial)
set_option r "1 deed zX 21;5 rules Ao 22;6 parts CT 23" in instance:Df B ϑ0 "_law_ϑ1" (eb B.G ϑ2):=er O (Y.f.q3.at ϑ3 O O:) O (by trivial)
instance:Df B 1 "_law_asked" (eb B.G (x8 0)):=er (k:=0) O (Y.f.q3.at 24 O O:) O (by trivial)
set_option r "3 1 2;4 2 3;5 3 4" in instance:Df B ϑ0 "_law_asked" (eb B.G (x8 ϑ1)):=er (k:=ϑ2) O (Y.f.q3.at 24 O O:) O (by unfold Ap;trivial)
set_option r "3 done DS 3 25;7 rule DT 3 26;22 world CU 3 27;23 walked zM 3 28;1 blanked zt 3 29;1 phrases zu 3 30;2 read DU 3 31;1 phrase xM 4 0;2 row CV 4 1" in instance:Df B ϑ0 "_law_ϑ1" (eb B.G ϑ2):=er O (Y.f.qϑ3.at ϑ4 O O:) O (by trivial)
def Vu:Xn B (I? (top 192)) "law" (top 192) (wJ (top 192)) 23 Uh:=by
 unfold Uh;refine MH ?_ ?_
 all_goals trivial
end
end K43x
namespace K43x
open PySem L2 L3 L4
def Qd(K:av):Sp:=λd H Q y=>∃(a:Addr) (b:List Int),d=[.ref a]/\fb K H a (b.map V.int)/\b.length<=63/\∀c,Q (.X γ) c
theorem Km{G:Bg}{H:Hp}:∀a:List Int,a6 G H (a.map D.int) (a.map V.int)
 |[]=>wj
 |n::a=>wB (xN n) (Km a)
def X2{G:Bg}:∀c H Q E,Qd G.K c H Q E->eb G Yy c H Q E:=λc H Q E h=>by obtain⟨a,b,rfl,i,f,k⟩:=h;refine#v[H,[.mn (b.map D.int)],.X γ,vS.refl _,wB (by unfold L4.cb;exact#v[a,_,O,i,Km b]) wj,acZ b f,λv e d y y y y r=>?_];unfold L4.cb at r;subst r;exact k d
section
variable{K:av}{x m q:Str}{st:Stmt}{f C:Addr}{oc:ab}{od:Option Addr}{kV doc pm:ab}{an:Option Addr}{cdv ct:ab}{osl:Array (Option ab)}
def Vv(lk:K.lookup f=Z #v[oc,od,.func (fE x q (zb st) (wJ st) (vY st) .none kV doc pm an cdv ct),osl])(b:iJ K cdv q=γ)(c:eD K (.ref f)=γ):∃a,V' K x q st f a:=#v[_,#v[_,_,_,_,_,_,_,_,_,O,lk,b],c]
def gd_mk(h:jt K bL x=Z (Z (.ref f)))(lk:K.lookup f=Z #v[oc,od,.func (fE x x (zb st) (wJ st) (vY st) .none kV doc pm an cdv ct),osl])(a:iJ K cdv x=γ)(b:eD K (.ref f)=γ):GD K x st:=#v[f,(Vv lk a b).imp λy F=>#v[h,F]]
def gm_mk(h:c4 K (.ref C) m=Z (Z (.ref f)))(b:kC K (.ref f)=γ)(lk:K.lookup f=Z #v[oc,od,.func (fE m q (zb st) (wJ st) (vY st) .none kV doc pm an cdv ct),osl])(a:iJ K cdv q=γ)(c:eD K (.ref f)=γ):GM K C m q st:=#v[f,(Vv lk a c).imp λy F=>#v[h,b,F]]
end
theorem all_mk{l:iK}{w:aC}{K:av}{h:Heap}{p:Str->Option ab}{J:Addr}(X:K.In h)(I:h.Ns bL p)(hfa:p "law" = Z (.ref J)){q r t u x y z A C E b d i j m o:Addr}(F:Fx K q r t u x y z A C E b d i j m o):
  ∃H:cp,(∀(s:ae) (v:ab),iM s H #v[[v],[]] [("_law_script", v)])/\∀a5:Heap,K.In a5->a5.Ns bL p->zA l.prog w K p a5 zE 24 J H ["_law_script"] (Qd K):=by
 have n3:∃B:Bg,B.K=K/\B.ca 0=q/\B.ca 1=r/\B.ca 2=t/\B.ca 3=u/\B.ca 4=x/\B.ca 5=y/\B.ca 6=z/\B.ca 7=A/\B.ca 8=C/\B.ca 9=E/\B.ca 10=b/\B.ca 11=d/\B.ca 12=i/\B.ca 13=j/\B.ca 14=m/\B.ca 15=o/\B.hs=tupleKeyHash (vU l.prog w):=#v[#v[K,λc=>[q,r,t,u,x,y,z,A,C,E,b,d,i,j,m,o].getD c 0,_],O,O,O,O,O,O,O,O,O,O,O,O,O,O,O,O,O,O];obtain⟨B,rfl,rfl,rfl,rfl,rfl,rfl,rfl,rfl,rfl,rfl,rfl,rfl,rfl,rfl,rfl,rfl,rfl,M⟩:=n3;have AT:∀a5,Yx #v[l.prog,w,p,a5,B]:=λa5=>#v[#v[h,X,I],M,F];obtain⟨f,H,a,FF⟩:=F.q4.at 2 O O;have e:=hfa.symm.t (js X I a);cases e;obtain⟨S,T,kV,doc,pm,P,cdv,Q,osl,rfl,lk,hcd⟩:=FF.ex;exact#v[_,λs v=>.of_eq O,λa5 _ _=>(SX O O O FF (z3 (N:=I? (top 192)) (ps:=["_law_script"]) (np:=1) (n:=9) (by kernel_rfl)).1 ((@Vu _ (AT a5)).ok O _)).imp (X2 (G:=B))]
def walk{l:iK}{q:aL}{loose:aE}{XP:(Str->Option ab)->Heap->Prop}{YP:aC->Heap->Prop}{d:DefRec}{K:Params->av}(j:l.most=Z 63)(hdf:d.params.defaults=[])
  (hY:∀(w:aC) (h:Heap),YP w h->(K w.params).In h)
  (F:∀(w:aC) (b:Str->Option ab) (c:Addr) (h:Heap),(K w.params).In h->h.Ns bL b->b d.name=Z (.ref c)->
   ∃e:cp,(∀(s:ae) (u:ab),iM s e #v[[u],[]] [("_law_script", u)])/\∀a5:Heap,(K w.params).In a5->a5.Ns bL b->zA l.prog w (K w.params) b a5 zE 24 c e ["_law_script"] (Qd (K w.params))):
  W.WalkO q loose XP YP l.row.toRowW d [] (λf o=>nT f o):=
 L2.V1 (n:=63) (k:=24) (x:="_law_script") (CX:=λy=>zE) (sp:=λw=>Qd (K w.params)) j (by decide) hdf #v[O,by decide,by decide] hY F (λy y a m i y hS=>#v[a,m,O,hS,i,λy=>O]) λy y y y y z=>z
end K43x
set_option maxHeartbeats 0
open PySem PySem.W PyProof.Rows
set_option h true
theorem PySem.Challenge.cw_tellworld_k43_phrases_holds : PySem.Challenge.rw_tellworld_k43_phrases.Holds := by
 refine hd ?_
 k_fill
 refine K43x.walk (l:=PySem.Challenge.rw_tellworld_k43_phrases) rfl rfl (λw h Y=>Y) ?F
 case F=>
  intro w mg fa h KX G hmg;refine' K43x.all_mk KX G hmg ?Q
  case Q=>
   constructor
   all_goals repeat' first|exact L4.Al.nil|apply L4.Al.cons
   all_goals as_aux_lemma=>first
   |k_is
   |kernel_rfl
   |exact⟨⟨⟨by k_is,by k_is,by k_is,by k_is⟩,by k_is,by k_is,by k_is,by k_is⟩,by k_is,by k_is,by kernel_rfl⟩
   |exact⟨_,by k_is⟩
   |exact K43x.gd_mk (by k_is) (by k_is) (by k_is) (by k_is)
   |exact K43x.gm_mk (by k_is) (by k_is) (by k_is) (by k_is) (by k_is)
   |exact⟨_,_,_,_,by k_is,by k_is,by rfl,by rfl,by simp,by repeat' first|exact .nil|exact .cons rfl .nil|refine .cons rfl ?_⟩
   |exact⟨_,_,_,_,[_],_,by k_is,by k_is,⟨⟨_,_,_,_,_,_,_,_,_,rfl,by k_is,by k_is⟩,by k_is⟩,by k_is,by rfl,.cons (by first|rfl|exact⟨_,rfl⟩) .nil⟩
   |exact⟨_,_,_,_,[_,_,_],_,by k_is,by k_is,⟨⟨_,_,_,_,_,_,_,_,_,rfl,by k_is,by k_is⟩,by k_is⟩,by k_is,by rfl,.cons (by first|rfl|exact⟨_,rfl⟩) (.cons (by first|rfl|exact⟨_,rfl⟩) (.cons (by first|rfl|exact⟨_,rfl⟩) .nil))⟩
end
